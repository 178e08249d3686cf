import PyProof.Rows.All
import HandS.ForMost
import HandS.Defaults
import HandS.IsInst
import HandS.Style
import PyProof.ReprRoads
import HandS.Walk
import HandS.Codes
import KE.Datum
import PySem.Challenge.RW_raggedtotals_k02_links
set_option Elab.async false
set_option linter.all false
set_option maxRecDepth 100000
/-! what the hand layer lacks for these laws: repr of data, a promise that holds where no repr is under way, f(k=v) without positional arguments, short forms of readings -/
namespace RT
open PySem PySem.Spec PyProof.Rows L2

/-! ### extensions of the abstract heap: all but what stands at a given place is kept -/
def Ext (p : Addr) (H J : Hp) : Prop := ∀ b o, b ≠ p → H b = some o → J b = some o
theorem Ext.same {p : Addr} {H J : Hp} (h : Same H J) : Ext p H J := fun b o _ e => h b o e
theorem Ext.refl {p : Addr} {H : Hp} : Ext p H H := fun _ _ _ e => e
theorem Ext.trans {p : Addr} {H J L : Hp} (a : Ext p H J) (b : Ext p J L) : Ext p H L := fun c o n e => b c o n (a c o n e)
theorem Ext.upd {p : Addr} {H : Hp} {o : HO} : Ext p H (upd H p o) := fun b u n e => by
  rw [upd_ne n]
  exact e
theorem same_new {H : Hp} {p : Addr} {o : HO} (h : H p = none) : Same H (upd H p o) := fun b u e => by
  rw [upd_ne (ne_of_none e h)]
  exact e
/-- a thing that is new to the first heap may change -/
theorem Same.mut {H J : Hp} {p : Addr} {o : HO} (h : Same H J) (n : H p = none) : Same H (upd J p o) := fun b u e => by
  rw [upd_ne (ne_of_none e n)]
  exact h b u e
theorem Ext.mut {p q : Addr} {H J : Hp} {o : HO} (h : Ext p H J) (n : H q = none) : Ext p H (L2.upd J q o) := fun b u nb e => by
  rw [upd_ne (ne_of_none e n)]
  exact h b u nb e
theorem Same.ofExt {p : Addr} {H J L : Hp} (a : Same H J) (n : H p = none) (b : Ext p J L) : Same H L := fun c o e => b c o (ne_of_none e n) (a c o e)

theorem Ext.put {p q : Addr} {H J L : Hp} (h : Ext p H J) (n : H q = none) (e : Ext q J L) : Ext p H L := fun b o nb z => e b o (ne_of_none z n) (h b o nb z)
theorem Ext.back {p q : Addr} {H J : Hp} {o : HO} (h : Ext p H J) (n : J q = none) (hp : H p = some o) (hj : J p ≠ none) : H q = none := by
  cases z : H q with
  | none => rfl
  | some u =>
    by_cases e : q = p
    · rw [e] at n
      exact absurd n hj
    · rw [h q u e z] at n
      cases n
/-! ### repr of data -/
def rReprD (K : PySem.W.Frag) : List V → Hp → VK → Prop := fun xs H Q => ∃ (a : Addr) (d : PyData), xs = [.ref a] ∧ Dp K H (.ref a) d ∧ PyData.showable d = true ∧ PyData.hasDict d = false ∧ PyData.depth d ≤ 60 ∧ (PyData.shown d).length ≤ sizeLine ∧ Q (.str (PyData.shown d)) H
theorem call_repr_data {X : Cx} {k : Nat} (hr : Room k X.A) (hgd : X.A.guards = some []) : CallR X (.builtin "repr") (rReprD X.K) := by
  intro pins s σ H xs us Q I rv h
  obtain ⟨a, d, rfl, hd, hs, hn, h60, hz, q⟩ := h
  obtain ⟨u, rfl, ru⟩ := vals1 rv
  obtain ⟨as, hrd⟩ := Dp.reads I d (.ref a) u hd ru
  have un := hr.units
  cases ru
  refine repr_of_reads' hrd hs (fun e => by rw [hn] at e; cases e) hgd (by omega) (fun _ _ e => e) (fun h' u tk hk => ?_) hz
  exact ⟨.str _, H, I.kept hk, ⟨_, rfl⟩, q⟩

/-! ### f(k = v), no positional argument -/
section
variable {X : Cx} {CX : CXT} {k : Nat} {f : Addr} {fd : FuncData} {ps ks : List Str} {sp : Sp} {E : XK} {x : Str} {p pos : Pos} {kws : List Keyword} {tk : TA} {g : List Value → List Value → List Value} {gV : List V → List V → List V}
def tKw (m : Nat) (sp : Sp) (gV : List V → List V → List V) (E : XK) (tk : TA) : TE := fun σ H Q => tk σ H fun zs H1 => zs.length = m ∧ sp (gV [] zs) H1 Q E
theorem pe_kw0 (F : FnOk X.prog X.w X.K X.mg X.base CX k f fd ps sp) (hr : Room k X.A) (hg : Gl X x) (hm : X.mg x = some (.ref f)) (hk : PySem.W.keepIn X.K (.ref f) = true) (hb : KBn X.K fd ps 0 ks g gV) (hx : Passes CX X E) (hkw : PK X kws tk)
    (hall : (backToKw pos (keywordEach kws X.env)).all (fun z => z.1.isSome) = true := by rfl) (hks : (backToKw pos (keywordEach kws X.env)).filterMap (fun z => z.1) = ks := by rfl) (hdb : (x == ("__debug__" : Str)) = false := by decide)
    (hpl : ((backTo pos (starEach [] X.env)).any (fun z => z.1) || (backToKw pos (keywordEach kws X.env)).any (fun z => z.1.isNone)) = false := by rfl) :
    PE X (.Call (.Name x p) [] kws pos) (tKw ks.length sp gV E tk) := by
  constructor
  intro pins s σ H Q I h
  refine wpAny_Call_Name_kw (ld_glob I hg hm (PySem.W.callWith_KW0 (h₀ := X.base) I.ok.mod.kin hk hall ?_ hpl) hdb)
  refine thn (hkw.run pos pins s σ H _ I h) fun ws s2 got => ?_
  obtain ⟨zs, H2, I2, rz, l2, q2⟩ := got
  refine ⟨I2.kIn, ?_⟩
  rw [hks]
  exact run_fnN (us := []) (vs := []) F hr hb hx I2 .nil rz rfl l2 q2
end

/-! ### promises that hold where no repr is under way -/
/-- nothing is being shown -/
abbrev Calm (A : Around) : Prop := A.guards = some []
structure FnG (P : Program) (w : World) (K : PySem.W.Frag) (mg : Str → Option Value) (base : Heap) (k : Nat) (f : Addr) (fd : FuncData) (ps : List Str) (sp : Sp) : Prop where
  len : ∀ vs H Q E, sp vs H Q E → vs.length = ps.length
  go : ∀ (A : Around) (outer : List Env) (s : Shared) (H : Hp) (args : Args) (us : List Value) (vs : List V) (Q : VK) (E : XK), Calm A → Room k A → Env0 P w K mg base A outer s H → BindsTo s fd args (ps.zip us) → Vals vs us → sp vs H Q E →
    codeAny (model P w) A (.call (.ref f) args) (CR CX0 outer P w H s Q E) s
theorem FnG.of {P : Program} {w : World} {K : PySem.W.Frag} {mg : Str → Option Value} {base : Heap} {k : Nat} {f : Addr} {fd : FuncData} {ps : List Str} {sp : Sp} (F : FnOk P w K mg base CX0 k f fd ps sp) : FnG P w K mg base k f fd ps sp :=
  ⟨F.len, fun A outer s H args us vs Q E _ hr e0 hb r h => F.run A outer s H args us vs Q E hr e0 hb r h⟩
/-- a def called by its name; its promise -/
structure CalG (P : Program) (w : World) (K : PySem.W.Frag) (mg : Str → Option Value) (base : Heap) (k : Nat) (x : Str) (sp : Sp) : Prop where
  ex : ∃ (f : Addr) (fd : FuncData) (ps : List Str), FnG P w K mg base k f fd ps sp ∧ mg x = some (.ref f) ∧ PySem.W.keepIn K (.ref f) = true ∧ Binds K fd ps []
structure Cal (P : Program) (w : World) (K : PySem.W.Frag) (mg : Str → Option Value) (base : Heap) (k : Nat) (x : Str) (sp : Sp) : Prop where
  ex : ∃ (f : Addr) (fd : FuncData) (ps : List Str), FnOk P w K mg base CX0 k f fd ps sp ∧ mg x = some (.ref f) ∧ PySem.W.keepIn K (.ref f) = true ∧ Binds K fd ps []
section
variable {X : Cx} {k j : Nat} {f : Addr} {fd : FuncData} {ps : List Str} {sp : Sp} {x : Str} {p pos : Pos} {e : Expr} {es : List Expr} {t : TA}
theorem go_fn {pins : List (Addr × Obj)} {s : Shared} {σ : L2.St} {H : Hp} {Q : VK} {us : List Value} {vs : List V} (F : FnG X.prog X.w X.K X.mg X.base k f fd ps sp) (hgd : Calm X.A) (hr : Room k X.A) (hb : Binds X.K fd ps [])
    (I : Inv X pins σ H s) (r : Vals vs us) (h : sp vs H Q E0) : wpAny (model X.prog X.w) X.A (call (.ref f) us) (EP X pins σ Q) X.xe s := by
  have hl : (us ++ []).length = ps.length := by
    rw [List.append_nil, ← r.length]
    exact F.len _ _ _ _ h
  have b := hb s us I.kIn hl
  rw [List.append_nil] at b
  refine wpAny_call (codeAny_mono (F.go X.A X.stack s H ⟨us, []⟩ us vs Q E0 hgd hr I.env0 b r h) fun r s' got => ?_)
  match r, got with
  | .error _, got => exact False.elim got
  | .ok (.ret u), got => exact I.after got
  | .ok .next, got => exact False.elim got
  | .ok .brk, got => exact False.elim got
  | .ok .cont, got => exact False.elim got
theorem pg_c (c : CalG X.prog X.w X.K X.mg X.base k x sp) (hgd : Calm X.A) (hr : Room j X.A) (hk : k ≤ j) (hg : Gl X x) (ha : PA X (e :: es) t)
    (hdb : (x == ("__debug__" : Str)) = false := by decide) (h1 : starEach (e :: es) X.env = (false, eval e X.env) :: starEach es X.env := by rfl) (h2 : (backTo pos (starEach es X.env)).any (fun z => z.1) = false := by rfl) :
    PE X (.Call (.Name x p) (e :: es) [] pos) (tCall sp [] E0 t) := by
  obtain ⟨f, fd, ps, F, hm, kp, b⟩ := c.ex
  constructor
  intro pins s σ H Q I h
  refine wpAny_Call_Name_kw (ld_glob I hg hm (PySem.W.callWith_K (h₀ := X.base) I.ok.mod.kin kp (thn (ha.run pos pins s σ H _ I h) fun us s1 got => ?_) h1 h2) hdb)
  obtain ⟨vs, H1, I1, r, q⟩ := got
  rw [List.append_nil] at q
  exact ⟨I1.kIn, go_fn F hgd (hr.mono hk) b I1 r q⟩
theorem pg_c0 (c : CalG X.prog X.w X.K X.mg X.base k x sp) (hgd : Calm X.A) (hr : Room j X.A) (hk : k ≤ j) (hg : Gl X x) (hdb : (x == ("__debug__" : Str)) = false := by decide) :
    PE X (.Call (.Name x p) [] [] pos) (tCall sp [] E0 tNil) := by
  obtain ⟨f, fd, ps, F, hm, kp, b⟩ := c.ex
  constructor
  intro pins s σ H Q I h
  exact wpAny_Call_Name_kw (ld_glob I hg hm (PySem.W.callWith_K0 I.kIn kp (go_fn (us := []) F hgd (hr.mono hk) b I .nil h)) hdb)
/-- the same of a promise that holds anywhere -/
theorem pe_c (c : Cal X.prog X.w X.K X.mg X.base k x sp) (hr : Room j X.A) (hk : k ≤ j) (hg : Gl X x) (ha : PA X (e :: es) t)
    (hdb : (x == ("__debug__" : Str)) = false := by decide) (h1 : starEach (e :: es) X.env = (false, eval e X.env) :: starEach es X.env := by rfl) (h2 : (backTo pos (starEach es X.env)).any (fun z => z.1) = false := by rfl) :
    PE X (.Call (.Name x p) (e :: es) [] pos) (tCall sp [] E0 t) := by
  obtain ⟨f, fd, ps, F, hm, kp, b⟩ := c.ex
  exact pe_call F (hr.mono hk) hg hm kp b .nil pass0 ha hdb h1 h2
theorem pe_c0 (c : Cal X.prog X.w X.K X.mg X.base k x sp) (hr : Room j X.A) (hk : k ≤ j) (hg : Gl X x) (hdb : (x == ("__debug__" : Str)) = false := by decide) :
    PE X (.Call (.Name x p) [] [] pos) (tCall sp [] E0 tNil) := by
  obtain ⟨f, fd, ps, F, hm, kp, b⟩ := c.ex
  exact pe_call0 F (hr.mono hk) hg hm kp b .nil pass0 hdb
/-- a constant of the module -/
theorem pe_gc {v : V} (hg : Gl X x) (h : ∃ u, X.mg x = some u ∧ RelV v u) (hd : (x == ("__debug__" : Str)) = false := by decide) : PE X (.Name x pos) (tC v) := by
  obtain ⟨u, hm, r⟩ := h
  exact pe_glob hg hm r hd
end
/-- the rule for such a def -/
theorem fn_calm {P : Program} {w : World} {K : PySem.W.Frag} {mg : Str → Option Value} {base : Heap} {k : Nat} {x qual : Str} {st : Stmt} {f : Addr} {fd : FuncData} {N ps : List Str} {sp : Sp} (F : Fun K x qual st f fd) (S : FnScope N ps (defScope st))
    (len : ∀ vs H Q E, sp vs H Q E → vs.length = ps.length)
    (body : ∀ (cdv : Value) (A : Around) (outer : List Env) (s : Shared) (H : Hp) (vs : List V) (Q : VK) (E : XK), Calm A → Room k (A.deeper (envOfC qual (defScope st) s.heap.objs.size f cdv)) → sp vs H Q E →
      ∃ t, PSs (cxOf CX0 P w K mg base N qual (defScope st) f cdv A outer s H E).nox (defBody st) t ∧ t { nx := fun _ J => Q .non J, rt := Q } (start N vs) H) : FnG P w K mg base (k + 1) f fd ps sp := by
  obtain ⟨oc, od, kV, doc, pm, an, cdv, ct, osl, rfl, lk, hcd⟩ := F.ex
  refine ⟨len, fun A outer s H args us vs Q E hgd hr e0 hb r hsp => ?_⟩
  have KX : K.In s.heap := e0.mod.kin.keeps fun b o z => (e0.bs b o z).1
  have lim : s.heap.NoLimit := e0.mod.nolimit.keeps fun b o z => (e0.bs b o z).1
  have hkind : ∀ y ∈ ps.zip us, (defScope st).names.lookup y.1 = some .local ∨ ((defScope st).names.lookup y.1 = some .cell ∧ ((cellsFrom (s.heap.objs.size + 1) (defScope st).names []).lookup y.1).isSome = true) := by
    intro y hy
    rcases S.par y.1 (List.of_mem_zip hy).1 with z | z
    · exact Or.inl z
    · exact Or.inr ⟨z, PySem.W.cellsFrom_some _ _ _ (Or.inl z)⟩
  refine codeAny_call_function hr.depth (KX _ _ lk) rfl S.co S.gen rfl (PySem.W.codeRec_of KX hcd) (hb _ _ _ _ (wpAny_newFunctionEnv_cells S.kind hkind fun env he s1 z => ?_))
  cases he
  refine ⟨lim.keeps z.toInCall.keep, codeAny_func ?_⟩
  obtain ⟨t, ht, hq⟩ := body cdv A outer s H vs Q E hgd (hr.deeper _) hsp
  have I := inv_start (CX := CX0) (P := P) (w := w) (mg := mg) (E := E) S hr.hd e0 (len _ _ _ _ hsp) r z
  refine wpAny_mono (ht.nox.run [] s1 (start N vs) H _ I hq) (fun fl s' got => ?_) fun e s' got => got
  match fl, got with
  | .ret u, ⟨v, σ', H', J, rv, q⟩ => exact ⟨v, H', J.os, J.bare, J.base, J.hok, rv, q⟩
  | .next, ⟨σ', H', J, q⟩ => exact ⟨.non, H', J.os, J.bare, J.base, J.hok, rfl, q⟩
  | .brk, ⟨_, _, _, q⟩ => exact False.elim q
  | .cont, ⟨_, _, _, q⟩ => exact False.elim q

/-! ### the end of a law whose own def shows data -/
theorem hid_mod {P : Program} {w : World} {K : PySem.W.Frag} {mg mb : Str → Option Value} {s : Shared} {a : Addr} {H : Hp} {vs : List Value}
    (KX : K.In s.heap) (hns : s.heap.Ns mainGlobals mg) (hb : s.heap.Ns builtinsNs mb) (hbb : ∀ x : Str, x ≠ "__name__" → mb x = bootBuiltins x) (hlim : s.heap.NoLimit) (hg : s.gens = #[])
    (ha : s.heap.get? a = some { cls := .type "list", data := .seq vs.toArray }) (hok : HOk P w H s.heap) (hA : ∀ b u, H b = some u → b = a) (hK : ∀ u, H a = some u → K.lookup a = none) :
    K.In (hidT s.heap H) ∧ (hidT s.heap H).Ns mainGlobals mg ∧ Env0 P w K mg (hidT s.heap H) callerA [] s H := by
  have dictFree : ∀ {b : Addr} {o : Obj} {es : Array DictEntry} {ep : Nat}, s.heap.get? b = some o → o.data = .dict es ep → H b = none := by
    intro b o es ep e d
    cases z : H b with
    | none => rfl
    | some u =>
      cases hA b u z
      rw [ha] at e
      cases e
      cases (show Data.seq vs.toArray 0 = Data.dict es ep from d)
  have nsK : ∀ {b : Addr} {m : Str → Option Value}, s.heap.Ns b m → (hidT s.heap H).Ns b m := by
    intro b m ⟨o, es, ep, e, d, r⟩
    exact ⟨o, es, ep, hidT_get e (dictFree e d), d, r⟩
  have hKb : K.In (hidT s.heap H) := by
    intro b o e
    refine hidT_get (KX b o e) ?_
    cases z : H b with
    | none => rfl
    | some u =>
      cases hA b u z
      rw [hK u z] at e
      cases e
  obtain ⟨mc, l1, l2⟩ := hlim
  exact ⟨hKb, nsK hns, ⟨rfl, ⟨hKb, nsK hns, ⟨mb, nsK hb, hbb⟩, ⟨mc, nsK l1, l2⟩⟩, fun b o e => of_hidT e, Nat.le_of_eq (hidT_size _ _), trivial, fun b z => (nomatch z), hok, .of_eq hg⟩⟩

theorem end_run {P : Program} {w : World} {K : PySem.W.Frag} {mg mb : Str → Option Value} {k : Nat} {fa a : Addr} {fd : FuncData} {x : Str} {sp : Sp} {s : Shared} {vs : List Value} {H : Hp}
    (KX : K.In s.heap) (hns : s.heap.Ns mainGlobals mg) (hb : s.heap.Ns builtinsNs mb) (hbb : ∀ x : Str, x ≠ "__name__" → mb x = bootBuiltins x) (hlim : s.heap.NoLimit) (hg : s.gens = #[])
    (ha : s.heap.get? a = some { cls := .type "list", data := .seq vs.toArray }) (hok : HOk P w H s.heap) (hA : ∀ b u, H b = some u → b = a) (hK : ∀ u, H a = some u → K.lookup a = none) (hO : Only H) (hr : Room k callerA)
    (F : ∀ base : Heap, K.In base → base.Ns mainGlobals mg → FnG P w K mg base k fa fd [x] sp) (bd : ∀ (s : Shared) (u : Value), BindsTo s fd ⟨[u], []⟩ [(x, u)])
    (hsp : sp [.ref a] H (fun v _ => v = .bl true) E0) :
    codeAny (model P w) callerA (.call (.ref fa) ⟨[.ref a], []⟩) (fun r s' => r = .ok (.ret (.bool true)) ∧ PySem.OldK s.heap s'.heap ∧ s'.os = s.os ∧ AllBare s'.gens) s := by
  obtain ⟨h1, h2, e0⟩ := hid_mod KX hns hb hbb hlim hg ha hok hA hK
  refine codeAny_mono ((F _ h1 h2).go callerA [] s H ⟨[.ref a], []⟩ [.ref a] [.ref a] _ _ rfl hr e0 (bd s _) (.cons rfl .nil) hsp) fun r s' got => ?_
  match r, got with
  | .error _, got => exact False.elim got
  | .ok .next, got => exact False.elim got
  | .ok .brk, got => exact False.elim got
  | .ok .cont, got => exact False.elim got
  | .ok (.ret u), got =>
    obtain ⟨v, J, os, bare, un, hokJ, rv, q⟩ := got
    cases (show v = V.bl true from q)
    cases (show u = Value.bool true from rv)
    refine ⟨rfl, PySem.OldK.of_keep fun b o e => ?_, os, bare⟩
    cases z : H b with
    | none => exact un.keep b o e z (fun y => nomatch y) (fun y => nomatch y)
    | some u =>
      rcases hO b with y | ⟨ob, xs, y⟩
      · rw [z] at y
        cases y
      · obtain ⟨e1, _⟩ := hok b _ y
        obtain ⟨e2, _⟩ := hokJ b _ (un.frzs b ob _ y)
        rw [e] at e1
        cases e1
        exact e2

/-- the goal that the head leaves, from the law's promise (shown where nothing is being shown) -/
theorem walk_calm {l : PySem.W.OpenLaw} {n k : Nat} {q : Program} {loose : List Str} {XP : (Str → Option Value) → Heap → Prop} {YP : World → Heap → Prop} {d : DefRec} {K : Params → PySem.W.Frag} {sp : PySem.W.Frag → Sp} {x : Str}
    (hn : l.most = some n) (hn2 : n ≤ sizeLine) (hdf : d.params.defaults = []) (hr : Room k callerA) (hY : ∀ (w : World) (h : Heap), YP w h → (K w.params).In h)
    (F : ∀ (w : World) (mg : Str → Option Value) (fa : Addr) (h : Heap), (K w.params).In h → h.Ns mainGlobals mg → mg d.name = some (.ref fa) →
      ∃ fd : FuncData, (∀ (s : Shared) (u : Value), BindsTo s fd ⟨[u], []⟩ [(x, u)]) ∧ ∀ base : Heap, (K w.params).In base → base.Ns mainGlobals mg → FnG l.prog w (K w.params) mg base k fa fd [x] (sp (K w.params)))
    (hsp : ∀ (K : PySem.W.Frag) (H : Hp) (a : Addr) (ns : List Int), ns.length ≤ n → Only H → SqL K H a (ns.map V.int) → sp K [.ref a] H (fun v _ => v = .bl true) E0) :
    PySem.W.WalkO q loose XP YP l.row.toRowW d [] (fun f vs => PySem.call f vs) := by
  refine Att.attach_call hn hdf fun w s0 s mg mb fa o pm cd doc a vs ns G Y ho hd hcd hmg hobj hints hlen hg => ?_
  have KX := hY w _ Y
  obtain ⟨fd, bd, hF⟩ := F w mg fa _ KX G.T.g hmg
  have rv := vals_ints hints
  have hl : ns.length ≤ sizeLine := Nat.le_trans hlen hn2
  cases hk : (K w.params).lookup a with
  | some ob =>
    have e := KX a ob hk
    rw [hobj] at e
    cases e
    refine end_run KX G.T.g G.T.b G.T.builtins G.T.nolimit hg hobj (H := fun _ => none) (fun b u z => nomatch z) (fun b u z => nomatch z) (fun u z => nomatch z) (fun _ => Or.inl rfl) hr hF bd (hsp _ _ a ns hlen (fun _ => Or.inl rfl) ?_)
    exact Or.inr ⟨_, vs.toArray, _, hk, rfl, rfl, rfl, by rw [List.size_toArray, hints.length]; exact hl, by simpa using rv⟩
  | none =>
    let ob : Obj := { cls := .type "list", data := .seq vs.toArray }
    let H : Hp := fun b => if b = a then some (.frz ob (.lst (ns.map V.int))) else none
    have at_a : H a = some (.frz ob (.lst (ns.map V.int))) := if_pos rfl
    have off : ∀ b, b ≠ a → H b = none := fun b n => if_neg n
    have hO : Only H := fun b => by
      by_cases z : b = a
      · cases z
        exact Or.inr ⟨_, _, at_a⟩
      · exact Or.inl (off b z)
    have hA : ∀ b u, H b = some u → b = a := fun b u e => by
      by_cases z : b = a
      · exact z
      · rw [off b z] at e
        cases e
    refine end_run KX G.T.g G.T.b G.T.builtins G.T.nolimit hg hobj (H := H) (fun b u e => ?_) hA (fun _ _ => hk) hO hr hF bd (hsp _ _ a ns hlen hO (Or.inl (Or.inr ⟨_, at_a⟩)))
    cases hA b u e
    rw [at_a] at e
    cases e
    exact ⟨hobj, by rw [List.length_map]; exact hl, vs, _, rv, hobj⟩
end RT
set_option Elab.async false
set_option linter.all false
set_option maxRecDepth 100000
/-! readings, one step each: what is wanted of the rest, put in front -/
namespace RT
open PySem PySem.Spec PyProof.Rows L2
theorem smallM {n : Nat} (h : n ≤ 1000000) : n < sizeLine := Nat.lt_of_le_of_lt h (by decide)
/-! ### the rules under names of their own: what is asked is kept closed -/
def qInt : List V → Hp → VK → Prop := fun xs H Q => (∃ i, xs = [.int i] ∧ Q (.int i) H) ∨ ∃ k, xs = [.bl k] ∧ Q (.int (if k then 1 else 0)) H
def qAbs : List V → Hp → VK → Prop := fun xs H Q => ∃ i, xs = [.int i] ∧ Q (.int (if i < 0 then -i else i)) H
def qMax2 : List V → Hp → VK → Prop := fun xs H Q => ∃ i j, xs = [.int i, .int j] ∧ Q (.int (if j > i then j else i)) H
def qMin2 : List V → Hp → VK → Prop := fun xs H Q => ∃ i j, xs = [.int i, .int j] ∧ Q (.int (if j < i then j else i)) H
def qLenQ (K : PySem.W.Frag) : List V → Hp → VK → Prop := fun xs H Q => ∃ p ys, xs = [.ref p] ∧ (SqL K H p ys ∨ SqT K H p ys) ∧ Q (.int ys.length) H
def qLenS : List V → Hp → VK → Prop := fun xs H Q => ∃ z, xs = [.str z] ∧ z.length ≤ sizeLine ∧ Q (.int z.length) H
def qStrI : List V → Hp → VK → Prop := fun xs H Q => ∃ i, xs = [.int i] ∧ i.natAbs.log2 < 1920 ∧ Q (.str (toString i)) H
def qList (K : PySem.W.Frag) : List V → Hp → VK → Prop := fun xs H Q => ∃ p ys, xs = [.ref p] ∧ (SqL K H p ys ∨ SqT K H p ys) ∧ ∀ l, H l = none → Q (.ref l) (upd H l (.lst ys))
def qTuple (K : PySem.W.Frag) : List V → Hp → VK → Prop := fun xs H Q => ∃ p ys, xs = [.ref p] ∧ ((SqL K H p ys ∧ ∀ l, H l = none → Q (.ref l) (upd H l (.tup ys))) ∨ (SqT K H p ys ∧ Q (.ref p) H))
def aL (xs : List V) (H : Hp) (Q : VK) : Prop := xs.length ≤ sizeLine ∧ ∀ p, H p = none → Q (.ref p) (upd H p (.lst xs))
def aT (xs : List V) (H : Hp) (Q : VK) : Prop := xs.length ≤ sizeLine ∧ ∀ p, H p = none → Q (.ref p) (upd H p (.tup xs))
def aRev (K : PySem.W.Frag) (x : V) (H : Hp) (Q : VK) : Prop := ∃ a xs, x = .ref a ∧ SqL K H a xs ∧ ∀ p, H p = none → Q (.ref p) (upd H p (.lst xs.reverse))
def oAddS : R2 := fun x y H Q => ∃ i j, x = .str i ∧ y = .str j ∧ i.length + j.length ≤ sizeLine ∧ Q (.str (i ++ j)) H
def oInC : R2 := fun x y H Q => ∃ (c : Nat) (z : Str), x = .str ⟨#[c]⟩ ∧ y = .str z ∧ Q (.bl (decide (c ∈ z.cps.toList))) H
def oNinC : R2 := fun x y H Q => ∃ (c : Nat) (z : Str), x = .str ⟨#[c]⟩ ∧ y = .str z ∧ Q (.bl (!decide (c ∈ z.cps.toList))) H
def mJoin (K : PySem.W.Frag) : V → List V → Hp → VK → Prop := fun x xs H Q => ∃ a p, ∃ ys : List Str, x = .str a ∧ xs = [.ref p] ∧ (SqL K H p (ys.map V.str) ∨ SqT K H p (ys.map V.str)) ∧ (ys.map (fun y => y.length)).sum + ys.length * a.length ≤ 16777216 ∧ Q (.str (Txt.join a ys)) H
def mUpper : V → List V → Hp → VK → Prop := fun x xs H Q => ∃ a, x = .str a ∧ xs = [] ∧ a.length ≤ 5592405 ∧ Q (.str (Txt.upper a)) H
section
variable {X : Cx} {o e : Expr} {to te : TE}
theorem c_int : CallR X (.type "int") qInt := call_int1
theorem c_abs : CallR X (.builtin "abs") qAbs := call_abs
theorem c_max2 (hc : X.calm = true) : CallR X (.builtin "max") qMax2 := call_max2 hc
theorem c_min2 (hc : X.calm = true) : CallR X (.builtin "min") qMin2 := call_min2 hc
theorem c_lenQ : CallR X (.builtin "len") (qLenQ X.K) := call_len_seq
theorem c_lenS : CallR X (.builtin "len") qLenS := call_len_str
theorem c_strI : CallR X (.type "str") qStrI := call_str_int
theorem c_list : CallR X (.type "list") (qList X.K) := call_list_of
theorem c_tuple : CallR X (.type "tuple") (qTuple X.K) := call_tuple_of
theorem o_addS : OpR X (binaryOp .Add) oAddS := op_add_str
theorem o_inC : OpR X (compareOp .In) oInC := op_in_sign
theorem o_ninC : OpR X (compareOp .NotIn) oNinC := op_notIn_sign
theorem p_join {apos pos : Pos} (ho : PE X o to) (he : PE X e te) (hs : starEach [e] X.env = [(false, eval e X.env)] := by rfl) (hb : attributeBase o "join" X.env (eval o X.env) = eval o X.env := by rfl) (hl : (apos.endLine == pos.line) = true := by rfl) :
    PE X (.Call (.Attribute o "join" apos) [e] [] pos) (tM1 (mJoin X.K) to te) := pe_join ho he hs hb hl
theorem p_upper {apos pos : Pos} (ho : PE X o to) (hb : attributeBase o "upper" X.env (eval o X.env) = eval o X.env := by rfl) (hl : (apos.endLine == pos.line) = true := by rfl) :
    PE X (.Call (.Attribute o "upper" apos) [] [] pos) (tM0 mUpper to) := pe_upper ho hb hl
end
section
variable {t u : TS} {D : Ends} {σ : L2.St} {H : Hp} {te ta tb tc : TE} {g : TG} {Q : VK} {c d : TT} {i : Nat} {v x y : V} {K : PySem.W.Frag} {A B : Prop}
theorem w_seq (h : t { D with nx := u D } σ H) : tSeq t u D σ H := h
theorem w_next (h : D.nx σ H) : tNext D σ H := h
theorem w_ret (h : te σ H D.rt) : tRet te D σ H := h
theorem w_retN (h : D.rt .non H) : tRetN D σ H := h
theorem w_drop (h : te σ H fun _ J => D.nx σ J) : tDrop te D σ H := h
theorem w_asg (h : te σ H fun x J => g x σ J D.nx) : tAsg te g D σ H := h
theorem w_gname {N : L2.St → Hp → Prop} (h : N (σ.set i (some v)) H) : gName i v σ H N := h
theorem w_ifS (h : c σ H fun b J => if b = true then t D σ J else u D σ J) : tIfS c t u D σ H := h
theorem w_break (h : D.bk σ H) : tBreak D σ H := h
theorem w_cont (h : D.ct σ H) : tCont D σ H := h
theorem w_var (e : σ[i]? = some (some v)) (h : Q v H) : tVar i σ H Q := ⟨v, e, h⟩
theorem w_c (h : Q v H) : tC v σ H Q := h
theorem w_op {r : R2} (h : ta σ H fun x J => tb σ J fun y L => r x y L Q) : tOp r ta tb σ H Q := h
theorem w_un {r : V → Hp → VK → Prop} (h : ta σ H fun x J => r x J Q) : tUn r ta σ H Q := h
theorem w_if (h : c σ H fun b J => if b = true then ta σ J Q else tb σ J Q) : tIf c ta tb σ H Q := h
theorem w_bl {P : Bool → Prop} {b : Bool} (h : P b) : ∃ k, V.bl b = .bl k ∧ P k := ⟨b, rfl, h⟩
section
variable {N : Bool → Hp → Prop}
theorem w_test (h : te σ H fun x J => ∃ k, x = .bl k ∧ N k J) : tTest te σ H N := h
theorem w_B (h : te σ H fun x J => ∃ k, x = .bl k ∧ N k J) : tB te σ H N := h
theorem w_and (h : c σ H fun b J => if b = true then d σ J N else N false J) : tAnd c d σ H N := h
theorem w_or (h : c σ H fun b J => if b = true then N true J else d σ J N) : tOr c d σ H N := h
theorem w_not (h : c σ H fun b J => N (!b) J) : tNot c σ H N := h
theorem w_yes (h : N true H) : tYes σ H N := h
end
theorem w_andV (h : ta σ H fun x J => ∃ k, x = .bl k ∧ if k = true then tb σ J Q else Q (.bl false) J) : tAndV ta tb σ H Q := h
theorem w_orV (h : ta σ H fun x J => ∃ k, x = .bl k ∧ if k = true then Q (.bl true) J else tb σ J Q) : tOrV ta tb σ H Q := h
theorem w_notV (h : ta σ H fun x J => ∃ k, x = .bl k ∧ Q (.bl (!k)) J) : tNotV ta σ H Q := h
theorem w_chain {r r' : R2} (h : ta σ H fun x J => tb σ J fun y L => r x y L fun z M => ∃ k, z = .bl k ∧ (if k = true then tc σ M fun z' M' => r' y z' M' Q else Q (.bl false) M)) : tChain r r' ta tb tc σ H Q := h
section
variable {tl : TA} {N : List V → Hp → Prop}
theorem w_nil (h : N [] H) : tNil σ H N := h
theorem w_cons (h : ta σ H fun x J => tl σ J fun xs L => N (x :: xs) L) : tCons ta tl σ H N := h
theorem w_cb {r : List V → Hp → VK → Prop} (h : tl σ H fun vs J => r vs J Q) : tCB r tl σ H Q := h
theorem w_call {sp : Sp} {E : XK} (h : tl σ H fun vs J => sp vs J Q E) : tCall sp [] E tl σ H Q := by
  have e : (fun vs J => sp (vs ++ []) J Q E) = fun vs J => sp vs J Q E := by
    funext vs J
    rw [List.append_nil]
  show tl σ H fun vs J => sp (vs ++ []) J Q E
  rw [e]
  exact h
end
theorem w_sl {r : V → Option Int → Option Int → Hp → VK → Prop} {p q : TO} (h : te σ H fun x J => p σ J fun l L => q σ L fun u M => r x l u M Q) : tSl r te p q σ H Q := h
theorem w_nopart {N : Option Int → Hp → Prop} (h : N none H) : tNoPart σ H N := h
theorem w_part {N : Option Int → Hp → Prop} (h : te σ H fun x J => ∃ i, x = .int i ∧ N (some i) J) : tPart te σ H N := h
theorem w_int {P : Int → Prop} {n : Int} (h : P n) : ∃ i, V.int n = .int i ∧ P i := ⟨n, rfl, h⟩
theorem w_m0 {r : V → List V → Hp → VK → Prop} (h : te σ H fun x J => (∃ a, x = .str a) ∧ r x [] J Q) : tM0 r te σ H Q := h
theorem w_m1 {r : V → List V → Hp → VK → Prop} (h : ta σ H fun x J => (∃ a, x = .str a) ∧ tb σ J fun y L => r x [y] L Q) : tM1 r ta tb σ H Q := h
theorem w_isstr {z : Str} (h : A) : (∃ a, V.str z = .str a) ∧ A := ⟨⟨z, rfl⟩, h⟩
/-! operations on values -/
theorem w_I0 {f : Int → Int → V} {m n : Int} (h : Q (f m n) H) : rI0 f (.int m) (.int n) H Q := ⟨m, n, rfl, rfl, h⟩
theorem w_I {C : Int → Int → Prop} {f : Int → Int → V} {m n : Int} (hc : C m n) (h : Q (f m n) H) : rI C f (.int m) (.int n) H Q := ⟨m, n, rfl, rfl, hc, h⟩
theorem w_U {f : Int → V} {m : Int} (h : Q (f m) H) : rU f (.int m) H Q := ⟨m, rfl, h⟩
theorem w_eqI {m n : Int} (h : Q (.bl (decide (m = n))) H) : rEq (.int m) (.int n) H Q := ⟨rfl, by
  have e : decide (V.int m = V.int n) = decide (m = n) := by
    by_cases z : m = n
    · cases z
      rw [decide_eq_true rfl, decide_eq_true rfl]
    · rw [decide_eq_false z, decide_eq_false fun q => z (V.int.inj q)]
  rw [e]
  exact h⟩
theorem w_neI {m n : Int} (h : Q (.bl (!decide (m = n))) H) : rNe (.int m) (.int n) H Q := ⟨rfl, by
  have e : decide (V.int m = V.int n) = decide (m = n) := by
    by_cases z : m = n
    · cases z
      rw [decide_eq_true rfl, decide_eq_true rfl]
    · rw [decide_eq_false z, decide_eq_false fun q => z (V.int.inj q)]
  rw [e]
  exact h⟩
theorem w_eqS {m n : Str} (h : Q (.bl (decide (m = n))) H) : rEq (.str m) (.str n) H Q := ⟨rfl, by
  have e : decide (V.str m = V.str n) = decide (m = n) := by
    by_cases z : m = n
    · cases z
      rw [decide_eq_true rfl, decide_eq_true rfl]
    · rw [decide_eq_false z, decide_eq_false fun q => z (V.str.inj q)]
  rw [e]
  exact h⟩
theorem w_neS {m n : Str} (h : Q (.bl (!decide (m = n))) H) : rNe (.str m) (.str n) H Q := ⟨rfl, by
  have e : decide (V.str m = V.str n) = decide (m = n) := by
    by_cases z : m = n
    · cases z
      rw [decide_eq_true rfl, decide_eq_true rfl]
    · rw [decide_eq_false z, decide_eq_false fun q => z (V.str.inj q)]
  rw [e]
  exact h⟩
theorem w_int1 {m : Int} (h : Q (.int m) H) : qInt [.int m] H Q := Or.inl ⟨m, rfl, h⟩
theorem w_abs {m : Int} (h : Q (.int (if m < 0 then -m else m)) H) : qAbs [.int m] H Q := ⟨m, rfl, h⟩
theorem w_max2 {m n : Int} (h : Q (.int (if n > m then n else m)) H) : qMax2 [.int m, .int n] H Q := ⟨m, n, rfl, h⟩
theorem w_min2 {m n : Int} (h : Q (.int (if n < m then n else m)) H) : qMin2 [.int m, .int n] H Q := ⟨m, n, rfl, h⟩


/-! a test that is open, or not -/
theorem w_T (h : A) : if true = true then A else B := iteT h
theorem w_F (h : B) : if false = true then A else B := iteF h
theorem w_nT (h : B) : if (!true) = true then A else B := iteF h
theorem w_nF (h : A) : if (!false) = true then A else B := iteT h
theorem w_dec {p : Prop} [Decidable p] (h1 : p → A) (h2 : ¬ p → B) : if decide p = true then A else B := by
  by_cases z : p
  · rw [decide_eq_true z]
    exact iteT (h1 z)
  · rw [decide_eq_false z]
    exact iteF (h2 z)
theorem w_ndec {p : Prop} [Decidable p] (h1 : ¬ p → A) (h2 : p → B) : if (!decide p) = true then A else B := by
  by_cases z : p
  · rw [decide_eq_true z]
    exact iteF (h2 z)
  · rw [decide_eq_false z]
    exact iteT (h1 z)
theorem w_yes' {p : Prop} [Decidable p] (z : p) (h : A) : if decide p = true then A else B := w_dec (fun _ => h) fun n => absurd z n
theorem w_no' {p : Prop} [Decidable p] (z : ¬ p) (h : B) : if decide p = true then A else B := w_dec (fun n => absurd n z) fun _ => h
theorem w_bool {b : Bool} (h1 : b = true → A) (h2 : b = false → B) : if b = true then A else B := by
  cases b with
  | true => exact iteT (h1 rfl)
  | false => exact iteF (h2 rfl)
/-! lists by place, numbers within bounds -/
theorem w_ixL {a : Addr} {xs : List V} {n : Int} (h : H a = some (.lst xs)) (e : atI xs n = some v) (q : Q v H) : rIxL K (.ref a) (.int n) H Q := ⟨a, xs, n, v, rfl, rfl, SqL.of h, e, q⟩
theorem w_ixQ {a : Addr} {xs : List V} {n : Int} (h : SqL K H a xs) (e : atI xs n = some v) (q : Q v H) : rIxL K (.ref a) (.int n) H Q := ⟨a, xs, n, v, rfl, rfl, h, e, q⟩
theorem w_ixT {a : Addr} {xs : List V} {n : Int} (h : H a = some (.tup xs)) (e : atI xs n = some v) (q : Q v H) : rIxT K (.ref a) (.int n) H Q := ⟨a, xs, n, v, rfl, rfl, SqT.of h, e, q⟩
theorem w_setL {N : Hp → Prop} {a : Addr} {xs : List V} {n : Int} {j : Nat} (h : H a = some (.lst xs)) (e : ixN xs.length n = some j) (q : ∀ J, Ext a H J → J a = some (.lst (xs.set j v)) → N J) : rSetL (.ref a) (.int n) v H N :=
  ⟨a, xs, n, j, rfl, rfl, h, e, q _ Ext.upd upd_same⟩
theorem w_gsub {to ti : TE} {s : TSet} {N : L2.St → Hp → Prop} (h : to σ H fun o J => ti σ J fun i L => s o i v L fun M => N σ M) : gSub to ti s v σ H N := h
theorem w_mul {m n : Int} (h : (-18446744073709551616 < m ∧ m < 18446744073709551616) ∨ (-18446744073709551616 < n ∧ n < 18446744073709551616)) (q : Q (.int (m * n)) H) : rI CMul (fun i j => .int (i * j)) (.int m) (.int n) H Q := by
  refine w_I ?_ q
  rcases h with h | h
  · exact Or.inl ⟨by omega, by omega⟩
  · exact Or.inr ⟨by omega, by omega⟩
theorem w_mod {m n : Int} (h : 0 < n) (q : Q (.int (m % n)) H) : rI (fun _ j => 0 < j) (fun i j => .int (i % j)) (.int m) (.int n) H Q := w_I h q
theorem w_div {m n : Int} (h : 0 < n ∧ n < 1073741824) (q : Q (.int (m / n)) H) : rI CDiv (fun i j => .int (i / j)) (.int m) (.int n) H Q := w_I h q
theorem w_pow {m n : Int} (h : 0 ≤ n ∧ n ≤ 1000000 ∧ m.natAbs < 2 ^ 64) (q : Q (.int (m ^ n.toNat)) H) : rI CPow (fun i j => .int (i ^ j.toNat)) (.int m) (.int n) H Q := w_I h q
/-! new things: what stood stands -/
theorem w_lst {tl : TA} (h : tl σ H fun xs J => aL xs J Q) : tLst tl σ H Q := h
theorem w_tup {tl : TA} (h : tl σ H fun xs J => aT xs J Q) : tTup tl σ H Q := h
theorem w_new {o : HO} (q : ∀ p L, H p = none → Same H L → L p = some o → Q (.ref p) L) : ∀ p, H p = none → Q (.ref p) (upd H p o) := fun p n => q p _ n (same_new n) upd_same
theorem w_newL {xs : List V} (h : Nat.ble xs.length 1000000 = true) (q : ∀ p L, H p = none → Same H L → L p = some (.lst xs) → Q (.ref p) L) : aL xs H Q := ⟨Nat.le_of_lt (smallM (Nat.le_of_ble_eq_true h)), w_new q⟩
theorem w_newT {xs : List V} (h : Nat.ble xs.length 1000000 = true) (q : ∀ p L, H p = none → Same H L → L p = some (.tup xs) → Q (.ref p) L) : aT xs H Q := ⟨Nat.le_of_lt (smallM (Nat.le_of_ble_eq_true h)), w_new q⟩
theorem w_cat {a b : Addr} {xs ys : List V} (h1 : H a = some (.lst xs)) (h2 : H b = some (.lst ys)) (hz : xs.length + ys.length ≤ 1000000) (q : ∀ p L, H p = none → Same H L → L p = some (.lst (xs ++ ys)) → Q (.ref p) L) : rCat (.ref a) (.ref b) H Q :=
  ⟨a, b, xs, ys, rfl, rfl, h1, h2, Nat.le_of_lt (smallM hz), w_new q⟩
theorem w_slL {a : Addr} {xs : List V} {lo hi : Option Int} (h : SqL K H a xs) (q : ∀ p L, H p = none → Same H L → L p = some (.lst (cutV xs lo hi)) → Q (.ref p) L) : rSlL K (.ref a) lo hi H Q := ⟨a, xs, rfl, h, w_new q⟩
theorem w_lenL {a : Addr} {xs : List V} (h : SqL K H a xs) (q : Q (.int (xs.length : Int)) H) : qLenQ K [.ref a] H Q := ⟨a, xs, rfl, Or.inl h, q⟩
theorem w_lenH {a : Addr} {xs : List V} (h : H a = some (.lst xs)) (q : Q (.int (xs.length : Int)) H) : qLenQ K [.ref a] H Q := w_lenL (SqL.of h) q
theorem w_lenT {a : Addr} {xs : List V} (h : H a = some (.tup xs)) (q : Q (.int (xs.length : Int)) H) : qLenQ K [.ref a] H Q := ⟨a, xs, rfl, Or.inr (SqT.of h), q⟩
theorem w_lenS {z : Str} (h : z.length ≤ 1000000) (q : Q (.int (z.length : Int)) H) : qLenS [.str z] H Q := ⟨z, rfl, Nat.le_of_lt (smallM h), q⟩
theorem w_addS {y z : Str} (h : y.length + z.length ≤ 1000000) (q : Q (.str (y ++ z)) H) : oAddS (.str y) (.str z) H Q := ⟨y, z, rfl, rfl, Nat.le_of_lt (smallM h), q⟩
theorem w_inC {ch : Nat} {z : Str} (q : Q (.bl (decide (ch ∈ z.cps.toList))) H) : oInC (.str ⟨#[ch]⟩) (.str z) H Q := ⟨ch, z, rfl, rfl, q⟩
theorem w_ninC {ch : Nat} {z : Str} (q : Q (.bl (!decide (ch ∈ z.cps.toList))) H) : oNinC (.str ⟨#[ch]⟩) (.str z) H Q := ⟨ch, z, rfl, rfl, q⟩
theorem w_strI {m : Int} (h : m.natAbs.log2 < 1920) (q : Q (.str (toString m)) H) : qStrI [.int m] H Q := ⟨m, rfl, h, q⟩
theorem w_upper {z : Str} (h : z.length ≤ 1000000) (q : Q (.str (Txt.upper z)) H) : mUpper (.str z) [] H Q := ⟨z, rfl, rfl, by omega, q⟩
theorem w_join {z : Str} {p : Addr} {ys : List Str} (h : SqL K H p (ys.map V.str)) (hz : (ys.map (fun y => y.length)).sum + ys.length * z.length ≤ 1000000) (q : Q (.str (Txt.join z ys)) H) : mJoin K (.str z) [.ref p] H Q := ⟨z, p, ys, rfl, rfl, Or.inl h, by omega, q⟩
theorem w_ixS {z : Str} {n : Int} {ch : Nat} (h : z.length ≤ 1000000) (e : atI z.cps.toList n = some ch) (q : Q (.str ⟨#[ch]⟩) H) : rIxS (.str z) (.int n) H Q := ⟨z, n, ch, rfl, rfl, Nat.le_of_lt (smallM h), e, q⟩
theorem w_slS {z : Str} {lo hi : Option Int} (h : z.length ≤ 1000000) (q : Q (.str (cutS z lo hi)) H) : rSlS (.str z) lo hi H Q := ⟨z, rfl, Nat.le_of_lt (smallM h), q⟩
end
/-! ### loops and comprehensions over what is walked -/
section
variable {J : It} {g : TG} {tb : TS} {D : Ends} {σ : L2.St} {H : Hp} {te ta : TE} {tt : TT} {wi : TI} {vs : List Nat} {Q : VK} {n : Nat} {G : Hp → Prop} {Y : Nat → Hp → V → Hp → Prop} {R : It → Hp → Prop} {K : PySem.W.Frag}
def LoopOf (J : It) (g : TG) (tb : TS) (D : Ends) (σ : L2.St) (H : Hp) : Prop := ∃ W : Nat → Nat → L2.St → Hp → Prop, (∃ m, W 0 m σ H) ∧ ∀ i m σ H, W i m σ H →
  (J.stop i H ∧ D.nx σ H) ∨ (J.go i H ∧ ∃ N : L2.St → Hp → Prop, (∀ σ' H', N σ' H' → ∃ m', m' < m ∧ W (i + 1) m' σ' H') ∧ ∀ x H', J.yld i H x H' → g x σ H' fun σ2 H2 => tb { D with nx := N, ct := N, bk := D.nx } σ2 H2)
theorem w_for (h : wi σ H fun J L => LoopOf J g tb D σ L) : tFor wi g tb D σ H := h
theorem w_loop (w : Walk J n G Y) (Pv : Nat → L2.St → Hp → Prop) (h0 : Pv 0 σ H) (hG : ∀ i σ H, i ≤ n → Pv i σ H → G H)
    (hs : ∀ i x σ L M, i < n → Pv i σ L → Y i L x M → g x σ M fun σ2 H2 => tb { D with nx := Pv (i + 1), ct := Pv (i + 1), bk := D.nx } σ2 H2) (hd : ∀ σ H, Pv n σ H → D.nx σ H) : LoopOf J g tb D σ H := for_it w Pv h0 hG hs hd
def CompOf (J : It) (g : TG) (tt : TT) (te : TE) (vs : List Nat) (D : Addr) (σ : L2.St) (Qd : Hp → Prop) (H1 : Hp) : Prop := ∃ W : Nat → Nat → Hp → Prop, (∃ m, W 0 m (upd H1 D (.lst []))) ∧ ∀ i m H, W i m H →
  (J.stop i H ∧ Qd H) ∨ (J.go i H ∧ ∃ Nx : Hp → Prop, (∀ H', Nx H' → ∃ m', m' < m ∧ W (i + 1) m' H') ∧ ∀ x H', J.yld i H x H' → g x (wipe σ vs) H' fun σ2 H2 => wipe σ2 vs = wipe σ vs ∧ tt σ2 H2 fun b H3 =>
    if b = true then te σ2 H3 fun y H4 => ∃ acc, H4 D = some (.lst acc) ∧ acc.length < sizeLine ∧ Nx (upd H4 D (.lst (acc ++ [y]))) else Nx H3)
theorem w_lc (h : wi σ H fun J L => ∀ D, L D = none → CompOf J g tt te vs D σ (fun M => Q (.ref D) M) L) : tLc wi g tt te vs σ H Q := h
/-- behind i turns: the list so far is at D -/
def Sofar (I : Nat → List V → Hp → Prop) (D : Addr) (i : Nat) (L : Hp) : Prop := ∃ acc, acc.length ≤ i ∧ L D = some (.lst acc) ∧ I i acc L
theorem w_comp {D : Addr} {Qd : Hp → Prop} (w : Walk J n G Y) (I : Nat → List V → Hp → Prop) (new : H D = none) (h0 : ∀ L, Same H L → L D = some (.lst []) → I 0 [] L) (hG : ∀ i acc L, I i acc L → G L)
    (turn : ∀ i acc x L M, i < n → acc.length ≤ i → I i acc L → L D = some (.lst acc) → Y i L x M → g x (wipe σ vs) M fun σ2 N => wipe σ2 vs = wipe σ vs ∧ tt σ2 N fun b O =>
      if b = true then te σ2 O fun y U => ∃ acc, U D = some (.lst acc) ∧ acc.length < sizeLine ∧ Sofar I D (i + 1) (upd U D (.lst (acc ++ [y]))) else Sofar I D (i + 1) O)
    (done : ∀ acc L, acc.length ≤ n → L D = some (.lst acc) → I n acc L → Qd L) : CompOf J g tt te vs D σ Qd H := by
  refine lc_it w (Sofar I D) ⟨[], Nat.le_refl _, upd_same, h0 _ (same_new new) upd_same⟩ (fun i L _ p => ?_) (fun i x L M hi p hy => ?_) fun L p => ?_
  · obtain ⟨acc, _, _, p⟩ := p
    exact hG i acc L p
  · obtain ⟨acc, h1, h2, p⟩ := p
    exact turn i acc x L M hi h1 p h2 hy
  · obtain ⟨acc, h1, h2, p⟩ := p
    exact done acc L h1 h2 p
theorem w_put {I : Nat → List V → Hp → Prop} {D : Addr} {i : Nat} {acc : List V} {y : V} {U : Hp} (h : U D = some (.lst acc)) (hl : acc.length ≤ i) (hi : i ≤ 1000000) (q : ∀ Z, Ext D U Z → Z D = some (.lst (acc ++ [y])) → I (i + 1) (acc ++ [y]) Z) :
    ∃ acc, U D = some (.lst acc) ∧ acc.length < sizeLine ∧ Sofar I D (i + 1) (upd U D (.lst (acc ++ [y]))) :=
  ⟨acc, h, smallM (Nat.le_trans hl hi), acc ++ [y], by rw [List.length_append]; exact Nat.add_le_add hl (Nat.le_refl 1), upd_same, q _ Ext.upd upd_same⟩
theorem w_skip {I : Nat → List V → Hp → Prop} {D : Addr} {i : Nat} {acc : List V} {U : Hp} (h : U D = some (.lst acc)) (hl : acc.length ≤ i) (q : I (i + 1) acc U) : Sofar I D (i + 1) U := ⟨acc, by omega, h, q⟩
/-! what is walked -/
def onL (K : PySem.W.Frag) (x : V) (H : Hp) (R : It → Hp → Prop) : Prop := ∃ a, x = .ref a ∧ (∃ xs, SqL K H a xs) ∧ R (Itl K a) H
def onT (K : PySem.W.Frag) (x : V) (H : Hp) (R : It → Hp → Prop) : Prop := ∃ a, x = .ref a ∧ (∃ xs, SqT K H a xs) ∧ R (Itt K a) H
def onS (v : V) (H : Hp) (R : It → Hp → Prop) : Prop := ∃ x, v = .str x ∧ R (Its x) H
def onR1 (vs : List V) (H : Hp) (R : It → Hp → Prop) : Prop := ∃ j : Int, vs = [.int j] ∧ -(2 ^ 62) ≤ j ∧ j < 2 ^ 62 ∧ R (Itr 0 j.toNat) H
def onR2 (vs : List V) (H : Hp) (R : It → Hp → Prop) : Prop := ∃ i j : Int, vs = [.int i, .int j] ∧ (-(2 ^ 62) ≤ i ∧ i < 2 ^ 62 ∧ -(2 ^ 62) ≤ j ∧ j < 2 ^ 62) ∧ R (Itr i (j - i).toNat) H
theorem w_iList (h : te σ H fun x L => onL K x L R) : iList K te σ H R := h
theorem w_iTup (h : te σ H fun x L => onT K x L R) : iTup K te σ H R := h
theorem w_iStr (h : te σ H fun x L => onS x L R) : iStr te σ H R := h
theorem w_iR1 {tl : TA} (h : tl σ H fun x L => onR1 x L R) : iRng1 tl σ H R := h
theorem w_iR2 {tl : TA} (h : tl σ H fun x L => onR2 x L R) : iRng2 tl σ H R := h
theorem w_onQ {a : Addr} {xs : List V} (h : SqL K H a xs) (q : R (Itl K a) H) : onL K (.ref a) H R := ⟨a, rfl, ⟨xs, h⟩, q⟩
theorem w_onL {a : Addr} {xs : List V} (h : H a = some (.lst xs)) (q : R (Itl K a) H) : onL K (.ref a) H R := ⟨a, rfl, ⟨xs, SqL.of h⟩, q⟩
theorem w_onU {a : Addr} {xs : List V} (h : SqT K H a xs) (q : R (Itt K a) H) : onT K (.ref a) H R := ⟨a, rfl, ⟨xs, h⟩, q⟩
theorem w_onT {a : Addr} {xs : List V} (h : H a = some (.tup xs)) (q : R (Itt K a) H) : onT K (.ref a) H R := ⟨a, rfl, ⟨xs, SqT.of h⟩, q⟩
theorem w_onS {z : Str} (q : R (Its z) H) : onS (.str z) H R := ⟨z, rfl, q⟩
theorem w_onR1 {j : Int} (h : -1000000000 ≤ j ∧ j ≤ 1000000000) (q : R (Itr 0 j.toNat) H) : onR1 [.int j] H R := ⟨j, rfl, by omega, by omega, q⟩
theorem w_onR2 {i j : Int} (h : -1000000000 ≤ i ∧ i ≤ 1000000000 ∧ -1000000000 ≤ j ∧ j ≤ 1000000000) (q : R (Itr i (j - i).toNat) H) : onR2 [.int i, .int j] H R := ⟨i, j, rfl, by omega, q⟩
end
section
variable {K : PySem.W.Frag} {H : Hp} {Q : VK} {x v : V}
theorem w_isi {t : Value} {n : String} {b : Bool} (ty : TyX K H x t) (e : PySem.W.kitOne K t (.type n) = some b) (q : Q (.bl b) H) : rIsi K [x, .ty n] H Q := ⟨x, .ty n, t, .type n, b, rfl, .ty n, ty, e, q⟩
theorem w_all {a : Addr} {bs : List Bool} (h : H a = some (.lst (bs.map V.bl))) (q : Q (.bl (bs.all id)) H) : rAll K [.ref a] H Q := ⟨a, bs, rfl, SqL.of h, q⟩
theorem w_any {a : Addr} {bs : List Bool} (h : H a = some (.lst (bs.map V.bl))) (q : Q (.bl (bs.any id)) H) : rAny K [.ref a] H Q := ⟨a, bs, rfl, SqL.of h, q⟩
theorem w_rep {a : Addr} {xs : List V} {n : Int} (h : H a = some (.lst xs)) (hn : 0 ≤ n ∧ n ≤ 1000) (hl : xs.length ≤ 1000) (q : ∀ p L, H p = none → Same H L → L p = some (.lst (List.replicate n.toNat xs).flatten) → Q (.ref p) L) : rRep (.ref a) (.int n) H Q := by
  refine ⟨a, n, xs, rfl, rfl, h, by omega, by omega, ?_, w_new q⟩
  have h1 : n.toNat ≤ 1000 := by omega
  exact Nat.le_trans (Nat.mul_le_mul hl h1) (by decide)
theorem w_revL {te : TE} {σ : L2.St} (h : te σ H fun x J => aRev K x J Q) : tRevL K te σ H Q := h
theorem w_rev {a : Addr} {xs : List V} (h : H a = some (.lst xs)) (q : ∀ p L, H p = none → Same H L → L p = some (.lst xs.reverse) → Q (.ref p) L) : aRev K (.ref a) H Q := ⟨a, xs, rfl, SqL.of h, w_new q⟩
theorem w_append {a : Addr} {xs : List V} (h : H a = some (.lst xs)) (hl : xs.length ≤ 1000000) (q : ∀ L, Ext a H L → L a = some (.lst (xs ++ [v])) → Q .non L) : rAppend (.ref a) [v] H Q := ⟨a, xs, v, rfl, rfl, h, smallM hl, q _ Ext.upd upd_same⟩
theorem w_bm {T : String} {r : V → List V → Hp → VK → Prop} {to : TE} {t : TA} {σ : L2.St} (h : to σ H fun x J => tyV K T x J ∧ t σ J fun xs L => r x xs L Q) : tBM K T r to t σ H Q := h
theorem w_bm0 {T : String} {r : V → List V → Hp → VK → Prop} {to : TE} {σ : L2.St} (h : to σ H fun x J => tyV K T x J ∧ r x [] J Q) : tBM0 K T r to σ H Q := h
theorem w_islst {a : Addr} {xs : List V} {A : Prop} (h : H a = some (.lst xs)) (q : A) : tyV K "list" (.ref a) H ∧ A := ⟨Or.inl ⟨rfl, _, SqL.of h⟩, q⟩
theorem w_kw {sp : Sp} {gV : List V → List V → List V} {E : XK} {tk : TA} {m : Nat} {σ : L2.St} (h : tk σ H fun zs J => zs.length = m ∧ sp (gV [] zs) J Q E) : tKw m sp gV E tk σ H Q := h
/-- a list's repr -/
theorem w_repr {a : Addr} {xs : List V} {ds : List PyData} (h : H a = some (.lst xs)) (hd : DpAll K H xs ds) (h1 : PyData.showable (.list ds) = true) (h2 : PyData.hasDict (.list ds) = false) (h3 : PyData.depth (.list ds) ≤ 60) (h4 : (PyData.shown (.list ds)).length ≤ sizeLine)
    (q : Q (.str (PyData.shown (.list ds))) H) : rReprD K [.ref a] H Q := ⟨a, .list ds, rfl, .lst (SqL.of h) hd, h1, h2, h3, h4, q⟩
theorem dp_bools : ∀ bs : List Bool, DpAll K H (bs.map V.bl) (bs.map PyData.bool)
  | [] => .nil
  | b :: r => .cons (.bl b) (dp_bools r)
theorem bools_short : ∀ bs : List Bool, PyData.leavesShortAll 13 (bs.map PyData.bool) = true ∧ PyData.bulkAll (bs.map PyData.bool) = bs.length ∧ PyData.showableAll (bs.map PyData.bool) = true ∧ PyData.hasDictAll (bs.map PyData.bool) = false ∧ PyData.depthAll (bs.map PyData.bool) ≤ 1
  | [] => ⟨by simp only [List.map, PyData.leavesShortAll], by simp only [List.map, PyData.bulkAll, List.length_nil], by simp only [List.map, PyData.showableAll], by simp only [List.map, PyData.hasDictAll], by simp only [List.map, PyData.depthAll]; omega⟩
  | b :: r => by
    obtain ⟨h1, h2, h3, h4, h5⟩ := bools_short r
    simp only [List.map_cons, PyData.leavesShortAll, PyData.leavesShort, PyData.bulkAll, PyData.bulk, PyData.showableAll, PyData.showable, PyData.hasDictAll, PyData.hasDict, PyData.depthAll, PyData.depth, List.length_cons, h1, h2, h3, h4]
    refine ⟨rfl, ?_, rfl, rfl, ?_⟩ <;> omega
/-- repr of a list of bools -/
theorem w_reprB {a : Addr} {bs : List Bool} (h : H a = some (.lst (bs.map V.bl))) (hl : bs.length ≤ 1000) (q : Q (.str (PyData.shown (.list (bs.map PyData.bool)))) H) : rReprD K [.ref a] H Q := by
  obtain ⟨h1, h2, h3, h4, h5⟩ := bools_short bs
  refine w_repr h (dp_bools bs) (by simpa only [PyData.showable] using h3) (by simpa only [PyData.hasDict] using h4) (by simp only [PyData.depth]; omega) ?_ q
  exact PyData.shown_fits_bulk (B := 13) (by decide) (by decide) (by simpa only [PyData.leavesShort] using h1) (by simp only [PyData.bulk]; omega)
end
section
variable {K : PySem.W.Frag} {x qual : Str} {st : Stmt} {f : Addr} {fd : FuncData} {p : Str}
/-- a def of one parameter called by its name -/
theorem kw_one (F : Fun K x qual st f fd) (h : ∀ (kV doc pm : Value) (an : Option Addr) (cdv ct z : Value), bindArgs (PySem.W.fnOf x qual (defArgs st) (defBody st) (defScope st) .none kV doc pm an cdv ct) ⟨[], [(p, z)]⟩ = pure [(p, z)]) : KBn K fd [p] 0 [p] (fun _ ws => ws) (fun _ zs => zs) := by
  obtain ⟨oc, od, kV, doc, pm, an, cdv, ct, osl, rfl, lk, hcd⟩ := F.ex
  refine ⟨fun s us ws _ h1 h2 => ?_, fun _ r => r⟩
  match us, ws, h1, h2 with
  | [], [z], _, _ => exact .of_eq (h kV doc pm an cdv ct z)
end
/-- a place that lies in the list -/
theorem at_in {α : Type} {xs : List α} {n : Int} (h0 : 0 ≤ n) (h1 : n < xs.length) : ∃ v, atI xs n = some v ∧ v ∈ xs := by
  obtain ⟨m, rfl⟩ := Int.eq_ofNat_of_zero_le h0
  have h : m < xs.length := by omega
  exact ⟨xs[m], atI_nat (List.getElem?_eq_getElem h), List.getElem_mem h⟩
/-! ### texts as lists of signs -/
theorem joinL_nil : ∀ ps : List (List Nat), TL.joinL [] ps = ps.flatten
  | [] => rfl
  | [p] => by
    show p = p ++ []
    rw [List.append_nil]
  | p :: q :: r => by
    show p ++ ([] ++ TL.joinL [] (q :: r)) = p ++ (q :: r).flatten
    rw [List.nil_append, joinL_nil (q :: r)]
theorem join_signs (cs : List Nat) : (Txt.join (Str.ofString "") (cs.map fun c => (⟨#[c]⟩ : Str))).cps.toList = cs := by
  rw [TL.join_eq, show (Str.join (Str.ofString "") (cs.map fun c => (⟨#[c]⟩ : Str))).cps.toList = TL.joinL [] ((cs.map fun c => (⟨#[c]⟩ : Str)).map TL.tl) from TL.tl_join _ _, joinL_nil, List.map_map]
  induction cs with
  | nil => rfl
  | cons c r ih => rw [List.map_cons, List.flatten_cons, ih]; rfl
theorem signs_sum : ∀ cs : List Nat, ((cs.map fun c => (⟨#[c]⟩ : Str)).map fun y => y.length).sum = cs.length
  | [] => rfl
  | c :: r => by
    rw [List.map_cons, List.map_cons, List.sum_cons, signs_sum r, List.length_cons]
    show 1 + r.length = r.length + 1
    omega
theorem str_len (z : Str) : z.length = z.cps.toList.length := TL.len_tl z
theorem sign_at {z : Str} {d : Int} (h0 : 0 ≤ d) (h1 : d < (z.length : Nat)) : ∃ c, atI z.cps.toList d = some c ∧ c ∈ z.cps.toList := at_in h0 (by rw [← str_len]; exact h1)
theorem len_add (x y : Str) : (x ++ y).length = x.length + y.length := strLen_append x y
theorem len_cut (z : Str) (lo hi : Option Int) : (cutS z lo hi).length ≤ z.length := cutS_length z lo hi
/-- joined signs -/
theorem w_joinC {K : PySem.W.Frag} {H : Hp} {Q : VK} {p : Addr} {cs : List Nat} (h : H p = some (.lst (cs.map fun c => V.str ⟨#[c]⟩))) (hl : cs.length ≤ 1000) (q : ∀ z : Str, z.cps.toList = cs → z.length = cs.length → Q (.str z) H) : mJoin K (.str (Str.ofString "")) [.ref p] H Q := by
  have h2 : H p = some (.lst ((cs.map fun c => (⟨#[c]⟩ : Str)).map V.str)) := by
    rw [h, List.map_map]
    rfl
  refine w_join (SqL.of h2) ?_ (q _ (join_signs cs) (by rw [str_len, join_signs]))
  rw [signs_sum, List.length_map]
  show cs.length + cs.length * 0 ≤ 1000000
  omega
/-- a text of a list of texts, all of one kind -/
theorem pick_str {P : Str → Prop} {zs : List Str} {d n : Int} (h : ∀ z ∈ zs, P z) (d0 : 0 ≤ d) (d1 : d < n) (e : ((zs.length : Nat) : Int) = n) : ∃ z, atI (zs.map V.str) d = some (.str z) ∧ P z ∧ z ∈ zs := by
  obtain ⟨v, hv, hm⟩ := at_in (xs := zs.map V.str) d0 (by rw [List.length_map]; omega)
  obtain ⟨z, hz, rfl⟩ := List.mem_map.mp hm
  exact ⟨z, hv, h z hz, hz⟩
theorem small_log {n : Int} (h : n.natAbs < 1000000) : n.natAbs.log2 < 1920 := by
  have : n.natAbs.log2 ≤ 20 := by
    by_cases z : n.natAbs = 0
    · rw [z]
      decide
    · have := (Nat.log2_lt z (k := 20)).mpr (by omega)
      omega
  omega
theorem lt_len {z : Str} {d m : Int} (h : d < m) (e : ((z.length : Nat) : Int) = m) : d < (z.length : Nat) := by omega
/-! ### dicts that are written -/
section
variable {σ : L2.St} {H : Hp} {Q : VK} {trs : List (TE × TE)} {tk tv : TE}
def aDK (H : Hp) (Q : VK) : Prop := ∀ p, H p = none → Q (.ref p) (upd H p (.dK []))
theorem w_dnew (h : aDK H Q) : tDNewK σ H Q := h
theorem w_newD (q : ∀ p L, H p = none → Same H L → L p = some (.dK []) → Q (.ref p) L) : aDK H Q := fun p n => q p _ n (same_new n) upd_same
def dEnd (p : Addr) (ps : List (V × V)) (H2 : Hp) (Q : VK) : Prop := H2 p = some (.dK []) ∧ ∃ kvs : List (Key × V), ps = kvs.map (fun kv => (kV kv.1, kv.2)) ∧ kvs.length ≤ 15 ∧ Q (.ref p) (upd H2 p (.dK (mergeK [] kvs)))
theorem w_disp (h : ∀ p L, H p = none → Same H L → L p = some (.dK []) → tPairs trs σ L fun ps M => dEnd p ps M Q) : tDisp trs σ H Q := fun p n => h p _ n (same_new n) upd_same
theorem w_pnil {N : List (V × V) → Hp → Prop} (h : N [] H) : tPairs [] σ H N := h
theorem w_pcons {N : List (V × V) → Hp → Prop} (h : tk σ H fun x J => tv σ J fun y L => tPairs trs σ L fun ps M => N ((x, y) :: ps) M) : tPairs ((tk, tv) :: trs) σ H N := h
theorem w_dEnd {p : Addr} {ps : List (V × V)} (kvs : List (Key × V)) (h : H p = some (.dK [])) (e : ps = kvs.map (fun kv => (kV kv.1, kv.2))) (hl : kvs.length ≤ 15) (q : ∀ L, Ext p H L → L p = some (.dK (mergeK [] kvs)) → Q (.ref p) L) : dEnd p ps H Q := ⟨h, kvs, e, hl, q _ Ext.upd upd_same⟩
end
def parEnd (i j : Nat) (D : Ends) (σ : L2.St) (vs : List V) (H : Hp) : Prop := ∃ v w, vs = [v, w] ∧ D.nx ((σ.set i (some v)).set j (some w)) H
theorem w_par {i j : Nat} {ta : TA} {D : Ends} {σ : L2.St} {H : Hp} (h : ta σ H fun vs J => parEnd i j D σ vs J) : tPar i j ta D σ H := h
theorem w_parEnd {i j : Nat} {D : Ends} {σ : L2.St} {H : Hp} {v w : V} (h : D.nx ((σ.set i (some v)).set j (some w)) H) : parEnd i j D σ [v, w] H := ⟨v, w, rfl, h⟩
def parEnd3 (i j l : Nat) (D : Ends) (σ : L2.St) (vs : List V) (H : Hp) : Prop := ∃ u v w, vs = [u, v, w] ∧ D.nx (((σ.set i (some u)).set j (some v)).set l (some w)) H
theorem w_par3 {i j l : Nat} {ta : TA} {D : Ends} {σ : L2.St} {H : Hp} (h : ta σ H fun vs J => parEnd3 i j l D σ vs J) : tPar3 i j l ta D σ H := h
theorem w_parEnd3 {i j l : Nat} {D : Ends} {σ : L2.St} {H : Hp} {u v w : V} (h : D.nx (((σ.set i (some u)).set j (some v)).set l (some w)) H) : parEnd3 i j l D σ [u, v, w] H := ⟨u, v, w, rfl, h⟩
/-! ### texts among texts, texts repeated -/
section
variable {K : PySem.W.Frag} {H : Hp} {Q : VK}
theorem inV_strs (y : Str) : ∀ zs : List Str, inV (.str y) (zs.map V.str) = decide (y ∈ zs)
  | [] => rfl
  | z :: r => by
    show ((z == y) || inV (.str y) (r.map V.str)) = _
    rw [inV_strs y r]
    by_cases e : y = z
    · cases e
      rw [beq_self_eq_true]
      exact (decide_eq_true (List.mem_cons_self ..)).symm
    · rw [show (z == y) = false from beq_eq_false_iff_ne.mpr fun q => e q.symm, Bool.false_or]
      by_cases h : y ∈ r
      · rw [decide_eq_true h, decide_eq_true (List.mem_cons_of_mem _ h)]
      · rw [decide_eq_false h, decide_eq_false fun q => (List.mem_cons.mp q).elim e h]
theorem flat_strs : ∀ zs : List Str, (zs.map V.str).all flatV = true
  | [] => rfl
  | _ :: r => flat_strs r
theorem w_inLS {a : Addr} {y : Str} {zs : List Str} (h : H a = some (.lst (zs.map V.str))) (q : Q (.bl (decide (y ∈ zs))) H) : rIn K false (.str y) (.ref a) H Q :=
  ⟨a, _, rfl, Or.inl (SqL.of h), rfl, flat_strs zs, by rw [if_neg Bool.false_ne_true, inV_strs]; exact q⟩
theorem w_ninLS {a : Addr} {y : Str} {zs : List Str} (h : H a = some (.lst (zs.map V.str))) (q : Q (.bl (!decide (y ∈ zs))) H) : rIn K true (.str y) (.ref a) H Q :=
  ⟨a, _, rfl, Or.inl (SqL.of h), rfl, flat_strs zs, by rw [if_pos rfl, inV_strs]; exact q⟩
theorem w_inTS {a : Addr} {y : Str} {zs : List Str} (h : H a = some (.tup (zs.map V.str))) (q : Q (.bl (decide (y ∈ zs))) H) : rIn K false (.str y) (.ref a) H Q :=
  ⟨a, _, rfl, Or.inr (SqT.of h), rfl, flat_strs zs, by rw [if_neg Bool.false_ne_true, inV_strs]; exact q⟩
def repS (x : Str) (n : Int) : Str := ⟨(List.replicate n.toNat x.cps).foldl (fun a b => a ++ b) #[]⟩
theorem fold_size (a : Array Nat) : ∀ (m : Nat) (b : Array Nat), ((List.replicate m a).foldl (fun a b => a ++ b) b).size = b.size + m * a.size
  | 0, b => by
    show b.size = b.size + 0 * a.size
    omega
  | m + 1, b => by
    show ((List.replicate m a).foldl (fun a b => a ++ b) (b ++ a)).size = _
    rw [fold_size a m, Array.size_append, Nat.add_mul]
    omega
theorem repS_len (x : Str) (n : Int) : (repS x n).length = n.toNat * x.length := by
  show ((List.replicate n.toNat x.cps).foldl (fun a b => a ++ b) #[]).size = _
  rw [fold_size]
  show 0 + n.toNat * x.cps.size = n.toNat * x.cps.size
  omega
def oMulS : R2 := fun x y H Q => ∃ (z : Str) (n : Int), x = .str z ∧ y = .int n ∧ 0 < z.length ∧ z.length ≤ 1000 ∧ 2 ≤ n ∧ n ≤ 1000 ∧ Q (.str (repS z n)) H
theorem o_mulS {X : Cx} : OpR X (binaryOp .Mult) oMulS := by
  intro pins s σ H x y v u Q I rx ry h
  obtain ⟨z, n, rfl, rfl, z0, z1, n2, n3, q⟩ := h
  obtain ⟨t, rfl⟩ := rx
  obtain ⟨t', rfl⟩ := ry
  have hm : z.length * n.toNat ≤ 1000 * 1000 := Nat.mul_le_mul z1 (by omega)
  have g1 : (n == 1 || z.length == 0) = false := by
    rw [Bool.or_eq_false_iff]
    exact ⟨beq_eq_false_iff_ne.mpr (by omega), beq_eq_false_iff_ne.mpr (by omega)⟩
  refine PySem.P.mul_str ?_ (fun _ _ => ?_) (fun _ _ => ?_) ?_
  · rw [Bool.or_eq_false_iff]
    exact ⟨decide_eq_false (by omega), decide_eq_false (by omega)⟩
  · have : (1000 : Int) ≤ (2 ^ 63 - 1) / n := by
      rw [Int.le_ediv_iff_mul_le (by omega)]
      omega
    omega
  · exact PyProof.Rows.short24 (by omega)
  · rw [if_neg (by omega), g1, if_neg Bool.false_ne_true]
    have e : (repS z n).length ≤ 16777216 := by
      rw [repS_len, Nat.mul_comm]
      omega
    exact ⟨e, .str (repS z n), H, I.tok _, ⟨_, rfl⟩, q⟩
theorem w_mulS {z : Str} {n : Int} (h : 0 < z.length ∧ z.length ≤ 1000) (hn : 2 ≤ n ∧ n ≤ 1000) (q : Q (.str (repS z n)) H) : oMulS (.str z) (.int n) H Q := ⟨z, n, rfl, rfl, h.1, h.2, hn.1, hn.2, q⟩
end
/-! ### the rules that speak of the written part, with its name given -/
section
variable {X : Cx} {K : PySem.W.Frag} {o e : Expr} {to te : TE}
theorem k_ixL (h : X.K = K := by rfl) : IxR X (rIxL K) := h ▸ ix_list
theorem k_ixT (h : X.K = K := by rfl) : IxR X (rIxT K) := h ▸ ix_tup
theorem k_ix (h : X.K = K := by rfl) : IxR X (rIx K) := h ▸ ix_seq
theorem k_slL (h : X.K = K := by rfl) : SlR X (rSlL K) := h ▸ sl_list
theorem k_slT (h : X.K = K := by rfl) : SlR X (rSlT K) := h ▸ sl_tup
theorem k_in (h : X.K = K := by rfl) : OpR X (compareOp .In) (rIn K false) := h ▸ op_in_seq
theorem k_nin (h : X.K = K := by rfl) : OpR X (compareOp .NotIn) (rIn K true) := h ▸ op_notIn_seq
theorem k_lenQ (h : X.K = K := by rfl) : CallR X (.builtin "len") (qLenQ K) := h ▸ c_lenQ
theorem k_list (h : X.K = K := by rfl) : CallR X (.type "list") (qList K) := h ▸ c_list
theorem k_tuple (h : X.K = K := by rfl) : CallR X (.type "tuple") (qTuple K) := h ▸ c_tuple
theorem k_isi (h : X.K = K := by rfl) : CallR X (.builtin "isinstance") (rIsi K) := h ▸ call_isi
theorem k_all (hc : X.calm = true) (h : X.K = K := by rfl) : CallR X (.builtin "all") (rAll K) := h ▸ cr_all hc
theorem k_any (hc : X.calm = true) (h : X.K = K := by rfl) : CallR X (.builtin "any") (rAny K) := h ▸ cr_any hc
theorem k_repr {k : Nat} (hr : Room k X.A) (hgd : X.A.guards = some []) (h : X.K = K := by rfl) : CallR X (.builtin "repr") (rReprD K) := h ▸ call_repr_data hr hgd
theorem k_eqD (hu : X.A.units + 64 < cLine) (h : X.K = K := by rfl) : OpR X (compareOp .Eq) (rEqD K) := h ▸ op_eqD hu
theorem k_neD (hu : X.A.units + 64 < cLine) (h : X.K = K := by rfl) : OpR X (compareOp .NotEq) (rNeD K) := h ▸ op_neD hu
theorem k_catT (h : X.K = K := by rfl) : OpR X (binaryOp .Add) (rCatT K) := h ▸ op_catT
theorem k_join {apos pos : Pos} (ho : PE X o to) (he : PE X e te) (h : X.K = K := by rfl) (hs : starEach [e] X.env = [(false, eval e X.env)] := by rfl) (hb : attributeBase o "join" X.env (eval o X.env) = eval o X.env := by rfl) (hl : (apos.endLine == pos.line) = true := by rfl) :
    PE X (.Call (.Attribute o "join" apos) [e] [] pos) (tM1 (mJoin K) to te) := h ▸ p_join ho he hs hb hl
theorem k_iL {tg l : Expr} {tl : TE} (hl : PE X l tl) (h : X.K = K := by rfl) : PI X tg l (iList K tl) := h ▸ pi_list hl
theorem k_iT {tg l : Expr} {tl : TE} (hl : PE X l tl) (h : X.K = K := by rfl) : PI X tg l (iTup K tl) := h ▸ pi_tup hl
theorem k_rev {k : Nat} {p1 p2 p3 pos : Pos} (he : PE X e te) (h : X.K = K := by rfl) : PE X (.Subscript e (.Slice none none (some (.UnaryOp .USub (.Constant (.int 1) k p1) p2)) p3) pos) (tRevL K te) := h ▸ pe_revL he
theorem k_bm {T : String} {r : V → List V → Hp → VK → Prop} {t : TA} (p : PE X e (tBM X.K T r to t)) (h : X.K = K := by rfl) : PE X e (tBM K T r to t) := h ▸ p
theorem k_bm0 {T : String} {r : V → List V → Hp → VK → Prop} (p : PE X e (tBM0 X.K T r to)) (h : X.K = K := by rfl) : PE X e (tBM0 K T r to) := h ▸ p
end
/-- the ways of an if meet: Mid holds behind both -/
theorem w_cut {t u : TS} {D : Ends} {σ : L2.St} {H : Hp} (Mid : L2.St → Hp → Prop) (h : t { D with nx := Mid } σ H) (q : ∀ σ' J, Mid σ' J → u D σ' J) : C8.tCut t u D σ H := ⟨Mid, h, q⟩
/-! ### what the top has written -/
/-- a def of the text, under its own name -/
def DefAt (K : PySem.W.Frag) (mg : Str → Option Value) (x : Str) (st : Stmt) : Prop := ∃ (f : Addr) (fd : FuncData), Fun K x x st f fd ∧ mg x = some (.ref f)
theorem def_at {K : PySem.W.Frag} {h : Heap} {mg : Str → Option Value} {x : Str} {st : Stmt} {f : Addr} {od an : Option Addr} {sl : Array (Option Value)} {oc kV dc pm cd ct : Value} (X : K.In h) (G : h.Ns mainGlobals mg)
    (a : PySem.W.nsIn K mainGlobals x = some (some (.ref f))) (l : K.lookup f = some ⟨oc, od, .func (PySem.W.fnOf x x (defArgs st) (defBody st) (defScope st) .none kV dc pm an cd ct), sl⟩) (c : PySem.W.codeIn K cd x = true) (k : PySem.W.keepIn K (.ref f) = true) : DefAt K mg x st :=
  ⟨f, _, fun_mk l c k, PySem.W.mg_of X G a⟩
theorem con_at {K : PySem.W.Frag} {h : Heap} {mg : Str → Option Value} {x : Str} {u : Value} {v : V} (X : K.In h) (G : h.Ns mainGlobals mg) (a : PySem.W.nsIn K mainGlobals x = some (some u)) (r : RelV v u) : ∃ u, mg x = some u ∧ RelV v u := ⟨u, PySem.W.mg_of X G a, r⟩
theorem non_at {K : PySem.W.Frag} {h : Heap} {mg : Str → Option Value} {x : Str} (X : K.In h) (G : h.Ns mainGlobals mg) (a : PySem.W.nsIn K mainGlobals x = some none) : mg x = none := PySem.W.mg_none_of X G a
theorem Cal.of {P : Program} {w : World} {K : PySem.W.Frag} {mg : Str → Option Value} {base : Heap} {k : Nat} {x : Str} {sp : Sp} {st : Stmt} {f : Addr} {fd : FuncData} {ps : List Str} (F : Fun K x x st f fd) (hm : mg x = some (.ref f)) (b : Binds K fd ps []) (h : FnOk P w K mg base CX0 k f fd ps sp) : Cal P w K mg base k x sp := ⟨f, fd, ps, h, hm, F.kp, b⟩
theorem CalG.of {P : Program} {w : World} {K : PySem.W.Frag} {mg : Str → Option Value} {base : Heap} {k : Nat} {x : Str} {sp : Sp} {st : Stmt} {f : Addr} {fd : FuncData} {ps : List Str} (F : Fun K x x st f fd) (hm : mg x = some (.ref f)) (b : Binds K fd ps []) (h : FnG P w K mg base k f fd ps sp) : CalG P w K mg base k x sp := ⟨f, fd, ps, h, hm, F.kp, b⟩
end RT
set_option Elab.async false
set_option linter.all false
set_option maxRecDepth 100000
/-! data with a Lean type, over the abstract heap -/
namespace RT
open PySem PySem.Spec PyProof.Rows L2 PySem.W

/-! ### data stays -/
theorem Same.sqT {K : PySem.W.Frag} {H J : Hp} {a : Addr} {xs : List V} (e : Same H J) (h : SqT K H a xs) : SqT K J a xs := by
  rcases h with (h | ⟨o, h⟩) | h
  · exact .inl (.inl (e _ _ h))
  · exact .inl (.inr ⟨o, e _ _ h⟩)
  · exact .inr h
section
variable {K : PySem.W.Frag} {H J : Hp}
mutual
theorem dp_same (e : Same H J) : ∀ (d : PyData) (v : V), Dp K H v d → Dp K J v d
  | .none, _, .non => .non
  | .bool _, _, .bl b => .bl b
  | .int _, _, .int i => .int i
  | .str _, _, .str x => .str x
  | .list ds, _, .lst h1 h2 => .lst (Same.seq e h1) (dpAll_same e ds _ h2)
  | .tuple ds, _, .tup h1 h2 => .tup (Same.sqT e h1) (dpAll_same e ds _ h2)
theorem dpAll_same (e : Same H J) : ∀ (ds : List PyData) (vs : List V), DpAll K H vs ds → DpAll K J vs ds
  | [], _, .nil => .nil
  | d :: ds, _, .cons h1 h2 => .cons (dp_same e d _ h1) (dpAll_same e ds _ h2)
end
mutual
/-- no list within: what can't change -/
def imm : PyData → Bool
  | .list _ => false
  | .tuple ds => immAll ds
  | .dict _ => false
  | _ => true
def immAll : List PyData → Bool
  | [] => true
  | d :: ds => imm d && immAll ds
end
theorem sqT_ext {a p : Addr} {xs ys : List V} (e : Ext p H J) (hp : H p = some (.lst ys)) (h : SqT K H a xs) : SqT K J a xs := by
  rcases h with (h | ⟨o, h⟩) | h
  · exact .inl (.inl (e _ _ (ne_of h hp (by intro z; cases z)) h))
  · exact .inl (.inr ⟨o, e _ _ (ne_of h hp (by intro z; cases z)) h⟩)
  · exact .inr h
mutual
theorem dp_ext {p : Addr} {ys : List V} (e : Ext p H J) (hp : H p = some (.lst ys)) : ∀ (d : PyData) (v : V), imm d = true → Dp K H v d → Dp K J v d
  | .none, _, _, .non => .non
  | .bool _, _, _, .bl b => .bl b
  | .int _, _, _, .int i => .int i
  | .str _, _, _, .str x => .str x
  | .list _, _, i, .lst _ _ => by simp [imm] at i
  | .tuple ds, _, i, .tup h1 h2 => .tup (sqT_ext e hp h1) (dpAll_ext e hp ds _ (by simpa [imm] using i) h2)
theorem dpAll_ext {p : Addr} {ys : List V} (e : Ext p H J) (hp : H p = some (.lst ys)) : ∀ (ds : List PyData) (vs : List V), immAll ds = true → DpAll K H vs ds → DpAll K J vs ds
  | [], _, _, .nil => .nil
  | d :: ds, _, i, .cons h1 h2 => by
    simp only [immAll, Bool.and_eq_true] at i
    exact .cons (dp_ext e hp d _ i.1 h1) (dpAll_ext e hp ds _ i.2 h2)
end
theorem dpAll_app : ∀ {xs ys : List V} {ds es : List PyData}, DpAll K H xs ds → DpAll K H ys es → DpAll K H (xs ++ ys) (ds ++ es)
  | _, _, _, _, .nil, h => h
  | _, _, _, _, .cons a r, h => .cons a (dpAll_app r h)
theorem dpAll_len : ∀ {xs : List V} {ds : List PyData}, DpAll K H xs ds → xs.length = ds.length
  | _, _, .nil => rfl
  | _, _, .cons _ r => by rw [List.length_cons, List.length_cons, dpAll_len r]
theorem dpAll_at : ∀ {xs : List V} {ds : List PyData} {i : Nat} {x : V}, DpAll K H xs ds → xs[i]? = some x → ∃ d, ds[i]? = some d ∧ Dp K H x d
  | _, _, _, _, .nil, h => by simp at h
  | _, _, 0, _, .cons a _, h => by
    cases (Option.some.inj h : _ = _)
    exact ⟨_, rfl, a⟩
  | _, _, i + 1, _, .cons _ r, h => dpAll_at (i := i) r h
theorem dpAll_pick : ∀ {xs : List V} {ds : List PyData} {i : Nat} {d : PyData}, DpAll K H xs ds → ds[i]? = some d → ∃ x, xs[i]? = some x ∧ Dp K H x d
  | _, _, _, _, .nil, h => by simp at h
  | _, _, 0, _, .cons a _, h => by
    cases (Option.some.inj h : _ = _)
    exact ⟨_, rfl, a⟩
  | _, _, i + 1, _, .cons _ r, h => dpAll_pick (i := i) r h
end

/-! ### with a type -/
section
variable {α β : Type} [DecidableEq α] [Datum α] [DecidableEq β] [Datum β] {K : PySem.W.Frag} {H J : Hp}
/-- v is x -/
abbrev Tv (K : PySem.W.Frag) (H : Hp) (v : V) (x : α) : Prop := Dp K H v (Datum.toD x)
abbrev Tva (K : PySem.W.Frag) (H : Hp) (vs : List V) (xs : List α) : Prop := DpAll K H vs (xs.map Datum.toD)
theorem Tv.same {v : V} {x : α} (h : Tv K H v x) (e : Same H J) : Tv K J v x := dp_same e _ _ h
theorem Tva.same {vs : List V} {xs : List α} (h : Tva K H vs xs) (e : Same H J) : Tva K J vs xs := dpAll_same e _ _ h
theorem tv_str (z : Str) : Tv K H (.str z) z := .str z
theorem tv_int (i : Int) : Tv K H (.int i) i := .int i
theorem tv_bool (b : Bool) : Tv K H (.bl b) b := .bl b
theorem tva_strs : ∀ zs : List Str, Tva K H (zs.map V.str) zs
  | [] => .nil
  | z :: r => .cons (.str z) (tva_strs r)
theorem tva_bools : ∀ bs : List Bool, Tva K H (bs.map V.bl) bs
  | [] => .nil
  | b :: r => .cons (.bl b) (tva_bools r)
theorem tv_lst {a : Addr} {vs : List V} {xs : List α} (h : H a = some (.lst vs)) (r : Tva K H vs xs) : Tv K H (.ref a) xs := .lst (SqL.of h) r
theorem tv_tup {a : Addr} {vs : List V} {xs : List α} (h : H a = some (.tup vs)) (r : Tva K H vs xs) : Tv K H (.ref a) (Tup.mk xs) := .tup (SqT.of h) r
theorem tv_pair {a : Addr} {u v : V} {x : α} {y : β} (h : H a = some (.tup [u, v])) (hu : Tv K H u x) (hv : Tv K H v y) : Tv K H (.ref a) (x, y) := .tup (SqT.of h) (.cons hu (.cons hv .nil))
theorem is_str {v : V} {z : Str} (h : Tv K H v z) : v = .str z := by
  cases h
  rfl
theorem is_pair {v : V} {x : α} {y : β} (h : Tv K H v (x, y)) : ∃ a u w, v = .ref a ∧ SqT K H a [u, w] ∧ Tv K H u x ∧ Tv K H w y := by
  cases h with
  | tup h1 h2 =>
    cases h2 with
    | cons a r =>
      cases r with
      | cons b r =>
        cases r
        exact ⟨_, _, _, rfl, h1, a, b⟩
theorem is_tup {v : V} {xs : List α} (h : Tv K H v (Tup.mk xs)) : ∃ a vs, v = .ref a ∧ SqT K H a vs ∧ Tva K H vs xs := by
  cases h with
  | tup h1 h2 => exact ⟨_, _, rfl, h1, h2⟩
theorem is_lst {v : V} {xs : List α} (h : Tv K H v xs) : ∃ a vs, v = .ref a ∧ SqL K H a vs ∧ Tva K H vs xs := by
  cases h with
  | lst h1 h2 => exact ⟨_, _, rfl, h1, h2⟩
theorem Tva.len {vs : List V} {xs : List α} (h : Tva K H vs xs) : vs.length = xs.length := by
  have := dpAll_len h
  rw [List.length_map] at this
  exact this
theorem Tva.app {vs ws : List V} {xs ys : List α} (h : Tva K H vs xs) (g : Tva K H ws ys) : Tva K H (vs ++ ws) (xs ++ ys) := by
  show DpAll K H _ ((xs ++ ys).map Datum.toD)
  rw [List.map_append]
  exact dpAll_app h g
theorem Tva.one {v : V} {x : α} (h : Tv K H v x) : Tva K H [v] [x] := .cons h .nil
theorem Tva.at {vs : List V} {xs : List α} {i : Nat} {v : V} (h : Tva K H vs xs) (e : vs[i]? = some v) : ∃ x, xs[i]? = some x ∧ Tv K H v x := by
  obtain ⟨d, hd, r⟩ := dpAll_at h e
  rw [List.getElem?_map] at hd
  obtain ⟨x, hx, rfl⟩ := Option.map_eq_some_iff.mp hd
  exact ⟨x, hx, r⟩
theorem Tva.pick {vs : List V} {xs : List α} {i : Nat} {x : α} (h : Tva K H vs xs) (e : xs[i]? = some x) : ∃ v, vs[i]? = some v ∧ Tv K H v x :=
  dpAll_pick h (by rw [List.getElem?_map, e]; rfl)
end

/-! ### the rules -/
section
variable {α : Type} [DecidableEq α] [Datum α] {X : Cx} {K : PySem.W.Frag} {pins : List (Addr × Obj)} {σ : L2.St} {H : Hp} {s : Shared}
theorem Tv.holds {v : V} {u : Value} {x : α} (I : Inv X pins σ H s) (h : Tv X.K H v x) (r : RelV v u) : Holds s.heap u x := Dp.reads I _ _ _ h r
def oEqT (α : Type) [DecidableEq α] [Datum α] (K : PySem.W.Frag) : R2 := fun x y H Q => ∃ a b : α, Tv K H x a ∧ Tv K H y b ∧ Q (.bl (decide (a = b))) H
def oNeT (α : Type) [DecidableEq α] [Datum α] (K : PySem.W.Frag) : R2 := fun x y H Q => ∃ a b : α, Tv K H x a ∧ Tv K H y b ∧ Q (.bl (decide (a ≠ b))) H
theorem k_eqT {k : Nat} (hr : Room k X.A) (hd : Datum.depth α ≤ 60) (h : X.K = K := by rfl) : OpR X (compareOp .Eq) (oEqT α K) := by
  subst h
  intro pins s σ H x y v u Q I rx ry h
  obtain ⟨a, b, ha, hb, q⟩ := h
  have un := hr.units
  exact eq_datum (ha.holds I rx) (hb.holds I ry) (by omega) ⟨.bl _, H, I, rfl, q⟩
theorem k_neT {k : Nat} (hr : Room k X.A) (hd : Datum.depth α ≤ 60) (h : X.K = K := by rfl) : OpR X (compareOp .NotEq) (oNeT α K) := by
  subst h
  intro pins s σ H x y v u Q I rx ry h
  obtain ⟨a, b, ha, hb, q⟩ := h
  have un := hr.units
  exact ne_datum (ha.holds I rx) (hb.holds I ry) (by omega) ⟨.bl _, H, I, rfl, q⟩
def oInL (α : Type) [DecidableEq α] [Datum α] (K : PySem.W.Frag) : R2 := fun x y H Q => ∃ (a : α) (xs : List α), Tv K H x a ∧ Tv K H y xs ∧ Q (.bl (decide (a ∈ xs))) H
def oNinL (α : Type) [DecidableEq α] [Datum α] (K : PySem.W.Frag) : R2 := fun x y H Q => ∃ (a : α) (xs : List α), Tv K H x a ∧ Tv K H y xs ∧ Q (.bl (decide (a ∉ xs))) H
def oInU (α : Type) [DecidableEq α] [Datum α] (K : PySem.W.Frag) : R2 := fun x y H Q => ∃ (a : α) (xs : List α), Tv K H x a ∧ Tv K H y (Tup.mk xs) ∧ Q (.bl (decide (a ∈ xs))) H
def oNinU (α : Type) [DecidableEq α] [Datum α] (K : PySem.W.Frag) : R2 := fun x y H Q => ∃ (a : α) (xs : List α), Tv K H x a ∧ Tv K H y (Tup.mk xs) ∧ Q (.bl (decide (a ∉ xs))) H
theorem lst_holds {a : Addr} {vs : List V} {xs : List α} (I : Inv X pins σ H s) (h1 : SqL X.K H a vs) (h2 : Tva X.K H vs xs) : ∃ us, s.heap.IsList a us ∧ HoldAll s.heap us.toList xs := by
  obtain ⟨its, r, pl, hz⟩ := I.list h1
  exact ⟨_, pl.isList, Dp.readsAll I _ _ _ h2 r⟩
theorem tup_holds {a : Addr} {vs : List V} {xs : List α} (I : Inv X pins σ H s) (h1 : SqT X.K H a vs) (h2 : Tva X.K H vs xs) : ∃ us, s.heap.IsTuple a us ∧ HoldAll s.heap us.toList xs := by
  obtain ⟨its, r, pl, hz⟩ := I.tuple h1
  exact ⟨_, pl, Dp.readsAll I _ _ _ h2 r⟩
theorem k_inL {k : Nat} (hr : Room k X.A) (hd : Datum.depth α ≤ 60) (h : X.K = K := by rfl) : OpR X (compareOp .In) (oInL α K) := by
  subst h
  intro pins s σ H x y v u Q I rx ry h
  obtain ⟨a, xs, ha, hb, q⟩ := h
  have un := hr.units
  obtain ⟨l, vs, rfl, h1, h2⟩ := is_lst hb
  cases ry
  obtain ⟨us, g1, g2⟩ := lst_holds I h1 h2
  exact in_list_datum g1 g2 (ha.holds I rx) (by omega) ⟨.bl _, H, I, rfl, q⟩
theorem k_ninL {k : Nat} (hr : Room k X.A) (hd : Datum.depth α ≤ 60) (h : X.K = K := by rfl) : OpR X (compareOp .NotIn) (oNinL α K) := by
  subst h
  intro pins s σ H x y v u Q I rx ry h
  obtain ⟨a, xs, ha, hb, q⟩ := h
  have un := hr.units
  obtain ⟨l, vs, rfl, h1, h2⟩ := is_lst hb
  cases ry
  obtain ⟨us, g1, g2⟩ := lst_holds I h1 h2
  exact notIn_list_datum g1 g2 (ha.holds I rx) (by omega) ⟨.bl _, H, I, rfl, q⟩
theorem k_inU {k : Nat} (hr : Room k X.A) (hd : Datum.depth α ≤ 60) (h : X.K = K := by rfl) : OpR X (compareOp .In) (oInU α K) := by
  subst h
  intro pins s σ H x y v u Q I rx ry h
  obtain ⟨a, xs, ha, hb, q⟩ := h
  have un := hr.units
  obtain ⟨l, vs, rfl, h1, h2⟩ := is_tup hb
  cases ry
  obtain ⟨us, g1, g2⟩ := tup_holds I h1 h2
  exact in_tuple_datum g1 g2 (ha.holds I rx) (by omega) ⟨.bl _, H, I, rfl, q⟩
theorem k_ninU {k : Nat} (hr : Room k X.A) (hd : Datum.depth α ≤ 60) (h : X.K = K := by rfl) : OpR X (compareOp .NotIn) (oNinU α K) := by
  subst h
  intro pins s σ H x y v u Q I rx ry h
  obtain ⟨a, xs, ha, hb, q⟩ := h
  have un := hr.units
  obtain ⟨l, vs, rfl, h1, h2⟩ := is_tup hb
  cases ry
  obtain ⟨us, g1, g2⟩ := tup_holds I h1 h2
  exact notIn_tuple_datum g1 g2 (ha.holds I rx) (by omega) ⟨.bl _, H, I, rfl, q⟩
end
section
variable {α : Type} [DecidableEq α] [Datum α] {K : PySem.W.Frag} {H : Hp} {Q : VK} {x y : V}
theorem w_eqT {a b : α} (h1 : Tv K H x a) (h2 : Tv K H y b) (q : Q (.bl (decide (a = b))) H) : oEqT α K x y H Q := ⟨a, b, h1, h2, q⟩
theorem w_neT {a b : α} (h1 : Tv K H x a) (h2 : Tv K H y b) (q : Q (.bl (decide (a ≠ b))) H) : oNeT α K x y H Q := ⟨a, b, h1, h2, q⟩
theorem w_inL {a : α} {xs : List α} (h1 : Tv K H x a) (h2 : Tv K H y xs) (q : Q (.bl (decide (a ∈ xs))) H) : oInL α K x y H Q := ⟨a, xs, h1, h2, q⟩
theorem w_ninL {a : α} {xs : List α} (h1 : Tv K H x a) (h2 : Tv K H y xs) (q : Q (.bl (decide (a ∉ xs))) H) : oNinL α K x y H Q := ⟨a, xs, h1, h2, q⟩
theorem w_inU {a : α} {xs : List α} (h1 : Tv K H x a) (h2 : Tv K H y (Tup.mk xs)) (q : Q (.bl (decide (a ∈ xs))) H) : oInU α K x y H Q := ⟨a, xs, h1, h2, q⟩
theorem w_ninU {a : α} {xs : List α} (h1 : Tv K H x a) (h2 : Tv K H y (Tup.mk xs)) (q : Q (.bl (decide (a ∉ xs))) H) : oNinU α K x y H Q := ⟨a, xs, h1, h2, q⟩
/-- repr of typed data -/
theorem w_reprT {a : Addr} {z : α} (h : Tv K H (.ref a) z) (h1 : PyData.showable (Datum.toD z) = true) (h2 : PyData.hasDict (Datum.toD z) = false) (h3 : Datum.depth α ≤ 60) (h4 : (PyData.shown (Datum.toD z)).length ≤ sizeLine) (q : Q (.str (PyData.shown (Datum.toD z))) H) : rReprD K [.ref a] H Q :=
  ⟨a, _, rfl, h, h1, h2, Nat.le_trans (Datum.depth_le z) h3, h4, q⟩
end
end RT
set_option Elab.async false
set_option linter.all false
set_option maxRecDepth 100000
set_option maxHeartbeats 4000000
namespace RT
open PySem PySem.Spec PyProof.Rows L2
local macro_rules | `(tactic| walk_at "w0") => `(tactic| dsimp only [L2.start, cxOf, Cx.nox, Cx.wish, List.map, List.length_cons, List.length_nil, List.replicate_succ, List.replicate_zero, List.cons_append, List.nil_append, Nat.reduceAdd, Nat.reduceSub, List.set_cons_zero, List.set_cons_succ])
local macro_rules | `(tactic| walk_at "w1") => `(tactic| first
  | with_reducible refine w_seq ?_
  | with_reducible refine w_asg ?_
  | with_reducible refine w_var rfl ?_
  | with_reducible refine w_c ?_
  | with_reducible refine w_op ?_
  | with_reducible refine w_cons ?_
  | with_reducible refine w_nil ?_
  | with_reducible refine w_gname ?_
  | with_reducible refine w_cb ?_
  | with_reducible refine w_I0 ?_
  | with_reducible refine w_bl ?_
  | ((with_reducible refine' w_ixL ?s0 ?s1 ?q); (case s0 => assumption); (case s1 => rfl))
  | ((with_reducible refine' w_ixT ?s0 ?s1 ?q); (case s0 => assumption); (case s1 => rfl))
  | with_reducible refine w_gsub ?_
  | with_reducible refine w_ifS ?_
  | with_reducible refine w_test ?_
  | with_reducible refine w_call ?_
  | with_reducible refine w_ret ?_
  | with_reducible refine w_int1 ?_
  | with_reducible refine w_int ?_
  | with_reducible refine w_next ?_
  | with_reducible refine w_drop ?_
  | ((with_reducible refine' w_mod ?s0 ?q); (case s0 => omega))
  | ((with_reducible refine' w_div ?s0 ?q); (case s0 => omega))
  | ((with_reducible refine' w_mul ?s0 ?q); (case s0 => omega))
  | ((with_reducible refine' w_pow ?s0 ?q); (case s0 => decide))
  | with_reducible refine w_B ?_
  | with_reducible refine w_and ?_
  | with_reducible refine w_or ?_
  | with_reducible refine w_not ?_
  | with_reducible refine w_T ?_
  | with_reducible refine w_F ?_
  | with_reducible refine w_nT ?_
  | with_reducible refine w_nF ?_
  | with_reducible refine w_un ?_
  | with_reducible refine w_U ?_
  | with_reducible refine w_if ?_
  | with_reducible refine w_lst ?_
  | with_reducible refine w_tup ?_
  | with_reducible refine w_sl ?_
  | with_reducible refine w_part ?_
  | with_reducible refine w_nopart ?_
  | with_reducible refine w_eqI ?_
  | with_reducible refine w_neI ?_
  | with_reducible refine w_eqS ?_
  | with_reducible refine w_neS ?_
  | with_reducible refine w_abs ?_
  | with_reducible refine w_max2 ?_
  | with_reducible refine w_min2 ?_
  | ((with_reducible refine' w_lenL ?s0 ?q); (case s0 => assumption))
  | ((with_reducible refine' w_lenH ?s0 ?q); (case s0 => assumption))
  | ((with_reducible refine' w_lenT ?s0 ?q); (case s0 => assumption))
  | ((with_reducible refine' w_lenS ?s0 ?q); (case s0 => first | assumption | omega | decide +kernel))
  | with_reducible refine w_inC ?_
  | with_reducible refine w_ninC ?_
  | with_reducible refine w_m1 ?_
  | with_reducible refine w_m0 ?_
  | with_reducible refine w_isstr ?_
  | with_reducible refine w_andV ?_
  | with_reducible refine w_orV ?_
  | with_reducible refine w_notV ?_
  | with_reducible refine w_chain ?_
  | with_reducible refine w_retN ?_
  | with_reducible refine w_break ?_
  | with_reducible refine w_cont ?_
  | with_reducible refine w_yes ?_
  | with_reducible refine w_for ?_
  | with_reducible refine w_lc ?_
  | with_reducible refine w_iList ?_
  | with_reducible refine w_iTup ?_
  | with_reducible refine w_iStr ?_
  | with_reducible refine w_iR1 ?_
  | with_reducible refine w_iR2 ?_
  | ((with_reducible refine' w_onL ?s0 ?q); (case s0 => assumption))
  | ((with_reducible refine' w_onQ ?s0 ?q); (case s0 => assumption))
  | ((with_reducible refine' w_onT ?s0 ?q); (case s0 => assumption))
  | ((with_reducible refine' w_onU ?s0 ?q); (case s0 => assumption))
  | with_reducible refine w_onS ?_
  | ((with_reducible refine' w_onR1 ?s0 ?q); (case s0 => omega))
  | ((with_reducible refine' w_onR2 ?s0 ?q); (case s0 => omega))
  | with_reducible refine w_revL ?_
  | ((with_reducible refine' w_all ?s0 ?q); (case s0 => assumption))
  | ((with_reducible refine' w_any ?s0 ?q); (case s0 => assumption))
  | with_reducible refine w_bm ?_
  | with_reducible refine w_bm0 ?_
  | ((with_reducible refine' w_islst ?s0 ?q); (case s0 => assumption))
  | with_reducible refine w_kw ?_
  | ((with_reducible refine' w_isi ?s0 ?s1 ?q); (case s0 => assumption); (case s1 => assumption))
  | ((with_reducible refine' w_addS ?s0 ?q); (case s0 => first | omega | decide +kernel))
  | with_reducible refine w_dnew ?_
  | with_reducible refine w_pnil ?_
  | with_reducible refine w_pcons ?_
  | ((with_reducible refine' w_slS ?s0 ?q); (case s0 => first | assumption | omega))
  | ((with_reducible refine' w_inLS ?s0 ?q); (case s0 => assumption))
  | ((with_reducible refine' w_ninLS ?s0 ?q); (case s0 => assumption))
  | ((with_reducible refine' w_inTS ?s0 ?q); (case s0 => assumption))
  | with_reducible refine w_par ?_
  | with_reducible refine w_parEnd ?_
  | with_reducible refine w_par3 ?_
  | with_reducible refine w_parEnd3 ?_
  | ((with_reducible refine' w_upper ?s0 ?q); (case s0 => first | assumption | omega | decide +kernel))
  | dsimp only [wipe, List.set_cons_zero, List.set_cons_succ])
local macro_rules | `(tactic| walk_at "w") => `(tactic| repeat walk_at "w1")
def topS (i : Nat) : Stmt := PySem.Challenge.pw_raggedtotals_k02_links.main.body.getD i (.Pass ⟨0, 0, 0, 0⟩)
def k__LETTERS : Str := Str.ofString "abcdefghijklmnopqrstuvwxyz"
def k__SIGNS : Str := Str.ofString "abcdefghijklmnopqrstuvwxyz0123456789"
structure Txt (K : PySem.W.Frag) (mg : Str → Option Value) : Prop where
  z_abs : mg "abs" = none
  z_all : mg "all" = none
  z_int : mg "int" = none
  z_isinstance : mg "isinstance" = none
  z_len : mg "len" = none
  z_max : mg "max" = none
  z_min : mg "min" = none
  z_range : mg "range" = none
  z_repr : mg "repr" = none
  z_str : mg "str" = none
  z_tuple : mg "tuple" = none
  g__LETTERS : ∃ u, mg "_LETTERS" = some u ∧ RelV (.str k__LETTERS) u
  g__SIGNS : ∃ u, mg "_SIGNS" = some u ∧ RelV (.str k__SIGNS) u
  g__LONGEST : ∃ u, mg "_LONGEST" = some u ∧ RelV (.int 8) u
/-- a bag of draws stands at a -/
def Bag (H : Hp) (a : Addr) : Prop := ∃ g s t : Int, 0 ≤ s ∧ s < 2147483629 ∧ H a = some (.lst [.int g, .int s, .int t])
def spDraw : Sp := fun vs H Q _ => ∃ (a : Addr) (n : Int), vs = [.ref a, .int n] ∧ 0 < n ∧ n < 1000000 ∧ Bag H a ∧ ∀ (d : Int) (J : Hp), 0 ≤ d → d < n → Ext a H J → Bag J a → Q (.int d) J
/-- the script's ints -/
def spCell (K : PySem.W.Frag) : Sp := fun vs H Q _ => ∃ (a : Addr) (n : Int) (ns : List Int), vs = [.ref a, .int n] ∧ 0 ≤ n ∧ n < 1000000 ∧ SqL K H a (ns.map V.int) ∧ ∀ (d : Int) (J : Hp), Same H J → Q (.int d) J
def spBag : Sp := fun vs H Q _ => ∃ (n : Int), vs = [.int n] ∧ ∀ (a : Addr) (J : Hp), H a = none → Same H J → Bag J a → Q (.ref a) J
abbrev s__law_draw : Stmt := topS 9
theorem sc__law_draw : FnScope ["bag", "many", "digit", "seed", "shift"] ["bag", "many"] (defScope s__law_draw) := ⟨rfl, rfl, rfl, by decide +kernel, rfl, by decide +kernel, by decide +kernel⟩
abbrev s__law_cell : Stmt := topS 7
theorem sc__law_cell : FnScope ["script", "k", "number", "cell"] ["script", "k"] (defScope s__law_cell) := ⟨rfl, rfl, rfl, by decide +kernel, rfl, by decide +kernel, by decide +kernel⟩
abbrev s__law_bag : Stmt := topS 8
theorem sc__law_bag : FnScope ["cell", "great"] ["cell"] (defScope s__law_bag) := ⟨rfl, rfl, rfl, by decide +kernel, rfl, by decide +kernel, by decide +kernel⟩
section
variable {P : Program} {w : World} {K : PySem.W.Frag} {mg : Str → Option Value} {base : Heap}
theorem ok__law_draw {f : Addr} {fd : FuncData} (F : Fun K "_law_draw" "_law_draw" s__law_draw f fd) (T : Txt K mg) : FnOk P w K mg base CX0 1 f fd ["bag", "many"] spDraw := by
  refine F.ok sc__law_draw (fun vs H Q E h => ?_) (fun cdv A outer s H vs Q E hr h => ?_)
  · obtain ⟨a, n, rfl, _⟩ := h
    rfl
  · obtain ⟨a, n, rfl, n0, n1, ⟨g, s0, t, h0, h1, ha⟩, q⟩ := h
    refine ⟨_, (pss_cons (ps_asg (pe_op op_add (pe_ix (k_ixL (K := K)) (pv 0) pe_int (fun _ _ => rfl)) pe_int) (pg_sub (pv 0) pe_int set_list))
  (pss_cons (ps_if (pt_cmpR op_gt (pe_ix (k_ixL (K := K)) (pv 0) pe_int (fun _ _ => rfl)) pe_int (nomark _))
    (pss_cons (ps_set (i := 2) sc__law_draw.nd rfl (by first | exact Or.inl rfl | exact Or.inr rfl) (pe_op op_mod (pe_callTy c_int (by rfl) T.z_int (by decide +kernel) (pa_cons (pe_ix (k_ixL (K := K)) (pv 0) pe_int (fun _ _ => rfl)) pa_nil)) (pv 1)))
  (pss_cons (ps_asg (pe_op op_fdiv (pe_ix (k_ixL (K := K)) (pv 0) pe_int (fun _ _ => rfl)) (pv 1)) (pg_sub (pv 0) pe_int set_list))
  (pss_one (ps_ret (pv 2)))))
    pss_nil)
  (pss_cons (ps_set (i := 3) sc__law_draw.nd rfl (by first | exact Or.inl rfl | exact Or.inr rfl) (pe_ix (k_ixL (K := K)) (pv 0) pe_int (fun _ _ => rfl)))
  (pss_cons (ps_set (i := 4) sc__law_draw.nd rfl (by first | exact Or.inl rfl | exact Or.inr rfl) (pe_op op_add pe_int (pe_op op_mul pe_int (pe_ix (k_ixL (K := K)) (pv 0) pe_int (fun _ _ => rfl)))))
  (pss_cons (ps_asg (pe_op op_mod (pe_callTy c_int (by rfl) T.z_int (by decide +kernel) (pa_cons (pe_op op_add (pe_op op_add (pe_op op_mul (pv 3) (pe_op op_add (pv 3) (pv 4))) (pe_op op_mul pe_int (pe_ix (k_ixL (K := K)) (pv 0) pe_int (fun _ _ => rfl)))) pe_int) pa_nil)) pe_int) (pg_sub (pv 0) pe_int set_list))
  (pss_one (ps_ret (pe_op op_mod (pe_callTy c_int (by rfl) T.z_int (by decide +kernel) (pa_cons (pe_op op_fdiv (pe_ix (k_ixL (K := K)) (pv 0) pe_int (fun _ _ => rfl)) pe_int) pa_nil)) (pv 1))))))))), ?_⟩
    walk_at "w0"
    walk_at "w"
    refine w_setL ha (by rfl) fun J1 e1 ha1 => ?_
    replace ha1 : J1 a = some (.lst [.int g, .int s0, .int (t + 1)]) := ha1
    walk_at "w"
    refine w_dec (fun _ => ?_) (fun _ => ?_)
    · walk_at "w"
      refine w_setL ha1 (by rfl) fun J2 e2 ha2 => ?_
      walk_at "w"
      exact q _ J2 (Int.emod_nonneg _ (by omega)) (Int.emod_lt_of_pos _ n0) (e1.trans e2) ⟨_, s0, _, h0, h1, ha2⟩
    · walk_at "w"
      refine w_setL ha1 (by rfl) fun J2 e2 ha2 => ?_
      walk_at "w"
      exact q _ J2 (Int.emod_nonneg _ (by omega)) (Int.emod_lt_of_pos _ n0) (e1.trans e2) ⟨_, _, _, Int.emod_nonneg _ (by decide), Int.emod_lt_of_pos _ (by decide), ha2⟩
theorem w_draw {H : Hp} {Q : VK} {E : XK} {a : Addr} {n : Int} (h0 : 0 < n) (h1 : n < 1000000) (hb : Bag H a) (q : ∀ (d : Int) (J : Hp), 0 ≤ d → d < n → Ext a H J → Bag J a → Q (.int d) J) : spDraw [.ref a, .int n] H Q E := ⟨a, n, rfl, h0, h1, hb, q⟩
theorem Bag.keep {H J : Hp} {a b : Addr} (h : Bag H a) (e : Ext b H J) (ne : a ≠ b) : Bag J a := by
  obtain ⟨g, s, t, h0, h1, h2⟩ := h
  exact ⟨g, s, t, h0, h1, e a _ ne h2⟩
theorem Bag.same {H J : Hp} {a : Addr} (h : Bag H a) (e : Same H J) : Bag J a := by
  obtain ⟨g, s, t, h0, h1, h2⟩ := h
  exact ⟨g, s, t, h0, h1, e a _ h2⟩
theorem Bag.ne {H : Hp} {a b : Addr} (h : Bag H a) (n : H b = none) : b ≠ a := by
  obtain ⟨g, s, t, h0, h1, h2⟩ := h
  exact fun e => by
    rw [e, h2] at n
    cases n
theorem ok__law_bag {f : Addr} {fd : FuncData} (F : Fun K "_law_bag" "_law_bag" s__law_bag f fd) (T : Txt K mg) : FnOk P w K mg base CX0 1 f fd ["cell"] spBag := by
  refine F.ok sc__law_bag (fun vs H Q E h => ?_) (fun cdv A outer s H vs Q E hr h => ?_)
  · obtain ⟨n, rfl, _⟩ := h
    rfl
  · obtain ⟨n, rfl, q⟩ := h
    refine ⟨_, (pss_cons (ps_set (i := 1) sc__law_bag.nd rfl (by first | exact Or.inl rfl | exact Or.inr rfl) (pe_ifExp (PW.pt (pw_or (pt_cmpR op_lt (pv 0) pe_int (nomark _)) (pw_or1 (pt_cmpR op_ge (pv 0) (pe_op op_pow pe_int pe_int) (nomark _))))) (pe_callB c_abs (by rfl) T.z_abs (by decide +kernel) (pa_cons (pv 0) pa_nil)) pe_int))
  (pss_one (ps_ret (pe_lst (pa_cons (pv 1) (pa_cons (pe_op op_mod (pe_callTy c_int (by rfl) T.z_int (by decide +kernel) (pa_cons (pv 0) pa_nil)) pe_int) (pa_cons pe_int pa_nil))))))), ?_⟩
    walk_at "w0"
    walk_at "w"
    have fin : ∀ z : Int, ∀ (a : Addr) (J : Hp), H a = none → Same H J → J a = some (.lst [.int z, .int (n % 2147483629), .int 0]) → Q (.ref a) J := fun z a J h1 h2 h3 =>
      q a J h1 h2 ⟨_, _, _, Int.emod_nonneg _ (by decide), Int.emod_lt_of_pos _ (by decide), h3⟩
    refine w_dec (fun _ => ?_) (fun _ => ?_)
    · walk_at "w"
      exact w_newL rfl (fin _)
    · walk_at "w"
      refine w_dec (fun _ => ?_) (fun _ => ?_)
      · walk_at "w"
        exact w_newL rfl (fin _)
      · walk_at "w"
        exact w_newL rfl (fin _)
theorem ok__law_cell {f : Addr} {fd : FuncData} (F : Fun K "_law_cell" "_law_cell" s__law_cell f fd) (T : Txt K mg) : FnOk P w K mg base CX0 1 f fd ["script", "k"] (spCell K) := by
  refine F.ok sc__law_cell (fun vs H Q E h => ?_) (fun cdv A outer s H vs Q E hr h => ?_)
  · obtain ⟨a, n, ns, rfl, _⟩ := h
    rfl
  · obtain ⟨a, n, ns, rfl, n0, n1, hs, q⟩ := h
    refine ⟨_, (pss_cons (ps_if (pt_cmpR op_lt (pv 1) (pe_callB (k_lenQ (K := K)) (by rfl) T.z_len (by decide +kernel) (pa_cons (pv 0) pa_nil)) (nomark _))
    (pss_one (ps_ret (pe_callTy c_int (by rfl) T.z_int (by decide +kernel) (pa_cons (pe_ix (k_ixL (K := K)) (pv 0) (pv 1) (fun _ _ => rfl)) pa_nil))))
    pss_nil)
  (pss_cons (ps_set (i := 2) sc__law_cell.nd rfl (by first | exact Or.inl rfl | exact Or.inr rfl) (pe_op op_add pe_int (pe_op op_mul (pe_op op_mul pe_int (pv 1)) (pv 1))))
  (pss_cons (ps_for PassesOwn.never rfl (k_iL (K := K) (pe_slice (k_slL (K := K)) (pv 0) po_none (po_some pe_int))) (pg_name (i := 3) sc__law_cell.nd rfl (by first | exact Or.inl rfl | exact Or.inr rfl))
    (pss_one (ps_set (i := 2) sc__law_cell.nd rfl (by first | exact Or.inl rfl | exact Or.inr rfl) (pe_op op_mod (pe_callTy c_int (by rfl) T.z_int (by decide +kernel) (pa_cons (pe_op op_add (pe_op op_add (pe_op op_mul (pv 2) pe_int) (pe_op op_mul (pe_op op_mod (pe_callTy c_int (by rfl) T.z_int (by decide +kernel) (pa_cons (pv 3) pa_nil)) pe_int) (pe_op op_add (pv 1) pe_int))) pe_int) pa_nil)) pe_int))))
  (pss_one (ps_ret (pv 2)))))), ?_⟩
    walk_at "w0"
    walk_at "w"
    refine w_dec (fun hl => ?_) (fun _ => ?_)
    · walk_at "w"
      obtain ⟨v, e, hv⟩ := at_in (xs := ns.map V.int) n0 hl
      obtain ⟨z, _, rfl⟩ := List.mem_map.mp hv
      refine w_ixQ hs e ?_
      walk_at "w"
      exact q z H (Same.refl H)
    · walk_at "w"
      refine w_slL hs fun p L _ s1 hp => ?_
      walk_at "w"
      refine w_loop walk_list (fun _ σ M => (∃ (z : Int) (o : Option V), 0 ≤ z ∧ z < 2147483629000 * 2147483629000 ∧ σ = [some (.ref a), some (.int n), some (.int z), o]) ∧ Same L M) ⟨⟨_, none, ?_, ?_, rfl⟩, Same.refl _⟩ (fun _ _ M _ h => h.2.seq (SqL.of hp)) (fun i x σ M N hi h hy => ?_) (fun σ M h => ?_)
      · have : 0 ≤ n * n := Int.mul_nonneg n0 n0
        have : 0 ≤ 7919 * n * n := by
          rw [Int.mul_assoc]
          omega
        omega
      · have : n * n ≤ 1000000 * 1000000 := Int.mul_le_mul (by omega) (by omega) n0 (by omega)
        have : 7919 * n * n = 7919 * (n * n) := Int.mul_assoc _ _ _
        omega
      · obtain ⟨⟨z, o, z0, z1, rfl⟩, h2⟩ := h
        obtain ⟨rfl, hx⟩ := hy
        obtain ⟨v, rfl⟩ : ∃ v, x = V.int v := by
          have : x ∈ ns.map V.int := List.mem_of_mem_drop (List.mem_of_mem_take (List.mem_of_getElem? hx))
          obtain ⟨v, _, e⟩ := List.mem_map.mp this
          exact ⟨v, e.symm⟩
        walk_at "w"
        exact ⟨⟨_, _, Int.emod_nonneg _ (by decide), Int.lt_of_lt_of_le (Int.emod_lt_of_pos _ (by decide)) (by decide), rfl⟩, h2⟩
      · obtain ⟨⟨z, o, z0, z1, rfl⟩, h2⟩ := h
        walk_at "w"
        exact q z M (s1.trans h2)
end

end RT
set_option Elab.async false
set_option linter.all false
set_option maxRecDepth 100000
set_option maxHeartbeats 4000000
namespace RT
open PySem PySem.Spec PyProof.Rows L2
local macro_rules | `(tactic| walk_at "w0") => `(tactic| dsimp only [L2.start, cxOf, Cx.nox, Cx.wish, List.map, List.length_cons, List.length_nil, List.replicate_succ, List.replicate_zero, List.cons_append, List.nil_append, Nat.reduceAdd, Nat.reduceSub, List.set_cons_zero, List.set_cons_succ])
local macro_rules | `(tactic| walk_at "w1") => `(tactic| first
  | with_reducible refine w_seq ?_
  | with_reducible refine w_asg ?_
  | with_reducible refine w_var rfl ?_
  | with_reducible refine w_c ?_
  | with_reducible refine w_op ?_
  | with_reducible refine w_cons ?_
  | with_reducible refine w_nil ?_
  | with_reducible refine w_gname ?_
  | with_reducible refine w_cb ?_
  | with_reducible refine w_I0 ?_
  | with_reducible refine w_bl ?_
  | ((with_reducible refine' w_ixL ?s0 ?s1 ?q); (case s0 => assumption); (case s1 => rfl))
  | ((with_reducible refine' w_ixT ?s0 ?s1 ?q); (case s0 => assumption); (case s1 => rfl))
  | with_reducible refine w_gsub ?_
  | with_reducible refine w_ifS ?_
  | with_reducible refine w_test ?_
  | with_reducible refine w_call ?_
  | with_reducible refine w_ret ?_
  | with_reducible refine w_int1 ?_
  | with_reducible refine w_int ?_
  | with_reducible refine w_next ?_
  | with_reducible refine w_drop ?_
  | ((with_reducible refine' w_mod ?s0 ?q); (case s0 => omega))
  | ((with_reducible refine' w_div ?s0 ?q); (case s0 => omega))
  | ((with_reducible refine' w_mul ?s0 ?q); (case s0 => omega))
  | ((with_reducible refine' w_pow ?s0 ?q); (case s0 => decide))
  | with_reducible refine w_B ?_
  | with_reducible refine w_and ?_
  | with_reducible refine w_or ?_
  | with_reducible refine w_not ?_
  | with_reducible refine w_T ?_
  | with_reducible refine w_F ?_
  | with_reducible refine w_nT ?_
  | with_reducible refine w_nF ?_
  | with_reducible refine w_un ?_
  | with_reducible refine w_U ?_
  | with_reducible refine w_if ?_
  | with_reducible refine w_lst ?_
  | with_reducible refine w_tup ?_
  | with_reducible refine w_sl ?_
  | with_reducible refine w_part ?_
  | with_reducible refine w_nopart ?_
  | with_reducible refine w_eqI ?_
  | with_reducible refine w_neI ?_
  | with_reducible refine w_eqS ?_
  | with_reducible refine w_neS ?_
  | with_reducible refine w_abs ?_
  | with_reducible refine w_max2 ?_
  | with_reducible refine w_min2 ?_
  | ((with_reducible refine' w_lenL ?s0 ?q); (case s0 => assumption))
  | ((with_reducible refine' w_lenH ?s0 ?q); (case s0 => assumption))
  | ((with_reducible refine' w_lenT ?s0 ?q); (case s0 => assumption))
  | ((with_reducible refine' w_lenS ?s0 ?q); (case s0 => first | assumption | omega | decide +kernel))
  | with_reducible refine w_inC ?_
  | with_reducible refine w_ninC ?_
  | with_reducible refine w_m1 ?_
  | with_reducible refine w_m0 ?_
  | with_reducible refine w_isstr ?_
  | with_reducible refine w_andV ?_
  | with_reducible refine w_orV ?_
  | with_reducible refine w_notV ?_
  | with_reducible refine w_chain ?_
  | with_reducible refine w_retN ?_
  | with_reducible refine w_break ?_
  | with_reducible refine w_cont ?_
  | with_reducible refine w_yes ?_
  | with_reducible refine w_for ?_
  | with_reducible refine w_lc ?_
  | with_reducible refine w_iList ?_
  | with_reducible refine w_iTup ?_
  | with_reducible refine w_iStr ?_
  | with_reducible refine w_iR1 ?_
  | with_reducible refine w_iR2 ?_
  | ((with_reducible refine' w_onL ?s0 ?q); (case s0 => assumption))
  | ((with_reducible refine' w_onQ ?s0 ?q); (case s0 => assumption))
  | ((with_reducible refine' w_onT ?s0 ?q); (case s0 => assumption))
  | ((with_reducible refine' w_onU ?s0 ?q); (case s0 => assumption))
  | with_reducible refine w_onS ?_
  | ((with_reducible refine' w_onR1 ?s0 ?q); (case s0 => omega))
  | ((with_reducible refine' w_onR2 ?s0 ?q); (case s0 => omega))
  | with_reducible refine w_revL ?_
  | ((with_reducible refine' w_all ?s0 ?q); (case s0 => assumption))
  | ((with_reducible refine' w_any ?s0 ?q); (case s0 => assumption))
  | with_reducible refine w_bm ?_
  | with_reducible refine w_bm0 ?_
  | ((with_reducible refine' w_islst ?s0 ?q); (case s0 => assumption))
  | with_reducible refine w_kw ?_
  | ((with_reducible refine' w_isi ?s0 ?s1 ?q); (case s0 => assumption); (case s1 => assumption))
  | ((with_reducible refine' w_addS ?s0 ?q); (case s0 => first | omega | decide +kernel))
  | with_reducible refine w_dnew ?_
  | with_reducible refine w_pnil ?_
  | with_reducible refine w_pcons ?_
  | ((with_reducible refine' w_slS ?s0 ?q); (case s0 => first | assumption | omega))
  | ((with_reducible refine' w_inLS ?s0 ?q); (case s0 => assumption))
  | ((with_reducible refine' w_ninLS ?s0 ?q); (case s0 => assumption))
  | ((with_reducible refine' w_inTS ?s0 ?q); (case s0 => assumption))
  | with_reducible refine w_par ?_
  | with_reducible refine w_parEnd ?_
  | with_reducible refine w_par3 ?_
  | with_reducible refine w_parEnd3 ?_
  | ((with_reducible refine' w_upper ?s0 ?q); (case s0 => first | assumption | omega | decide +kernel))
  | dsimp only [wipe, List.set_cons_zero, List.set_cons_succ])
local macro_rules | `(tactic| walk_at "w") => `(tactic| repeat walk_at "w1")
/-- a thing as the law makes it -/
def Thing (H : Hp) (v : V) : Prop := (∃ z, v = .str z ∧ z.length ≤ 1000) ∨ ((v = .non ∨ (∃ b, v = .bl b) ∨ ∃ i, v = .int i) ∨ ∃ b, v = .ref b ∧ ((∃ xs, H b = some (.lst xs)) ∨ (∃ xs, H b = some (.tup xs)) ∨ ∃ kvs, H b = some (.dK kvs)))
theorem Thing.keep {H J : Hp} {v : V} {a : Addr} (h : Thing H v) (e : Ext a H J) (la : ∃ ys, J a = some (.lst ys)) (lh : ∃ ys, H a = some (.lst ys)) : Thing J v := by
  rcases h with h | h | ⟨b, rfl, h⟩
  · exact .inl h
  · exact .inr (.inl h)
  · refine .inr (.inr ⟨b, rfl, ?_⟩)
    by_cases z : b = a
    · subst z
      exact .inl la
    · rcases h with ⟨xs, h⟩ | ⟨xs, h⟩ | ⟨xs, h⟩
      · exact .inl ⟨xs, e b _ z h⟩
      · exact .inr (.inl ⟨xs, e b _ z h⟩)
      · exact .inr (.inr ⟨xs, e b _ z h⟩)
theorem Thing.same {H J : Hp} {v : V} (h : Thing H v) (e : Same H J) : Thing J v := by
  rcases h with h | h | ⟨b, rfl, h⟩
  · exact .inl h
  · exact .inr (.inl h)
  · refine .inr (.inr ⟨b, rfl, ?_⟩)
    rcases h with ⟨xs, h⟩ | ⟨xs, h⟩ | ⟨xs, h⟩
    · exact .inl ⟨xs, e b _ h⟩
    · exact .inr (.inl ⟨xs, e b _ h⟩)
    · exact .inr (.inr ⟨xs, e b _ h⟩)
theorem Bag.lst {H : Hp} {a : Addr} (h : Bag H a) : ∃ ys, H a = some (.lst ys) := by
  obtain ⟨g, s, t, _, _, h⟩ := h
  exact ⟨_, h⟩

end RT
set_option Elab.async false
set_option linter.all false
set_option maxRecDepth 100000
set_option maxHeartbeats 4000000
namespace RT
open PySem PySem.Spec PyProof.Rows L2
local macro_rules | `(tactic| walk_at "w0") => `(tactic| dsimp only [L2.start, cxOf, Cx.nox, Cx.wish, List.map, List.length_cons, List.length_nil, List.replicate_succ, List.replicate_zero, List.cons_append, List.nil_append, Nat.reduceAdd, Nat.reduceSub, List.set_cons_zero, List.set_cons_succ])
local macro_rules | `(tactic| walk_at "w1") => `(tactic| first
  | with_reducible refine w_seq ?_
  | with_reducible refine w_asg ?_
  | with_reducible refine w_var rfl ?_
  | with_reducible refine w_c ?_
  | with_reducible refine w_op ?_
  | with_reducible refine w_cons ?_
  | with_reducible refine w_nil ?_
  | with_reducible refine w_gname ?_
  | with_reducible refine w_cb ?_
  | with_reducible refine w_I0 ?_
  | with_reducible refine w_bl ?_
  | ((with_reducible refine' w_ixL ?s0 ?s1 ?q); (case s0 => assumption); (case s1 => rfl))
  | ((with_reducible refine' w_ixT ?s0 ?s1 ?q); (case s0 => assumption); (case s1 => rfl))
  | with_reducible refine w_gsub ?_
  | with_reducible refine w_ifS ?_
  | with_reducible refine w_test ?_
  | with_reducible refine w_call ?_
  | with_reducible refine w_ret ?_
  | with_reducible refine w_int1 ?_
  | with_reducible refine w_int ?_
  | with_reducible refine w_next ?_
  | with_reducible refine w_drop ?_
  | ((with_reducible refine' w_mod ?s0 ?q); (case s0 => omega))
  | ((with_reducible refine' w_div ?s0 ?q); (case s0 => omega))
  | ((with_reducible refine' w_mul ?s0 ?q); (case s0 => omega))
  | ((with_reducible refine' w_pow ?s0 ?q); (case s0 => decide))
  | with_reducible refine w_B ?_
  | with_reducible refine w_and ?_
  | with_reducible refine w_or ?_
  | with_reducible refine w_not ?_
  | with_reducible refine w_T ?_
  | with_reducible refine w_F ?_
  | with_reducible refine w_nT ?_
  | with_reducible refine w_nF ?_
  | with_reducible refine w_un ?_
  | with_reducible refine w_U ?_
  | with_reducible refine w_if ?_
  | with_reducible refine w_lst ?_
  | with_reducible refine w_tup ?_
  | with_reducible refine w_sl ?_
  | with_reducible refine w_part ?_
  | with_reducible refine w_nopart ?_
  | with_reducible refine w_eqI ?_
  | with_reducible refine w_neI ?_
  | with_reducible refine w_eqS ?_
  | with_reducible refine w_neS ?_
  | with_reducible refine w_abs ?_
  | with_reducible refine w_max2 ?_
  | with_reducible refine w_min2 ?_
  | ((with_reducible refine' w_lenL ?s0 ?q); (case s0 => assumption))
  | ((with_reducible refine' w_lenH ?s0 ?q); (case s0 => assumption))
  | ((with_reducible refine' w_lenT ?s0 ?q); (case s0 => assumption))
  | ((with_reducible refine' w_lenS ?s0 ?q); (case s0 => first | assumption | omega | decide +kernel))
  | with_reducible refine w_inC ?_
  | with_reducible refine w_ninC ?_
  | with_reducible refine w_m1 ?_
  | with_reducible refine w_m0 ?_
  | with_reducible refine w_isstr ?_
  | with_reducible refine w_andV ?_
  | with_reducible refine w_orV ?_
  | with_reducible refine w_notV ?_
  | with_reducible refine w_chain ?_
  | with_reducible refine w_retN ?_
  | with_reducible refine w_break ?_
  | with_reducible refine w_cont ?_
  | with_reducible refine w_yes ?_
  | with_reducible refine w_for ?_
  | with_reducible refine w_lc ?_
  | with_reducible refine w_iList ?_
  | with_reducible refine w_iTup ?_
  | with_reducible refine w_iStr ?_
  | with_reducible refine w_iR1 ?_
  | with_reducible refine w_iR2 ?_
  | ((with_reducible refine' w_onL ?s0 ?q); (case s0 => assumption))
  | ((with_reducible refine' w_onQ ?s0 ?q); (case s0 => assumption))
  | ((with_reducible refine' w_onT ?s0 ?q); (case s0 => assumption))
  | ((with_reducible refine' w_onU ?s0 ?q); (case s0 => assumption))
  | with_reducible refine w_onS ?_
  | ((with_reducible refine' w_onR1 ?s0 ?q); (case s0 => omega))
  | ((with_reducible refine' w_onR2 ?s0 ?q); (case s0 => omega))
  | with_reducible refine w_revL ?_
  | ((with_reducible refine' w_all ?s0 ?q); (case s0 => assumption))
  | ((with_reducible refine' w_any ?s0 ?q); (case s0 => assumption))
  | with_reducible refine w_bm ?_
  | with_reducible refine w_bm0 ?_
  | ((with_reducible refine' w_islst ?s0 ?q); (case s0 => assumption))
  | with_reducible refine w_kw ?_
  | ((with_reducible refine' w_isi ?s0 ?s1 ?q); (case s0 => assumption); (case s1 => assumption))
  | ((with_reducible refine' w_addS ?s0 ?q); (case s0 => first | omega | decide +kernel))
  | with_reducible refine w_dnew ?_
  | with_reducible refine w_pnil ?_
  | with_reducible refine w_pcons ?_
  | ((with_reducible refine' w_slS ?s0 ?q); (case s0 => first | assumption | omega))
  | ((with_reducible refine' w_inLS ?s0 ?q); (case s0 => assumption))
  | ((with_reducible refine' w_ninLS ?s0 ?q); (case s0 => assumption))
  | ((with_reducible refine' w_inTS ?s0 ?q); (case s0 => assumption))
  | with_reducible refine w_par ?_
  | with_reducible refine w_parEnd ?_
  | with_reducible refine w_par3 ?_
  | with_reducible refine w_parEnd3 ?_
  | ((with_reducible refine' w_upper ?s0 ?q); (case s0 => first | assumption | omega | decide +kernel))
  | dsimp only [wipe, List.set_cons_zero, List.set_cons_succ])
local macro_rules | `(tactic| walk_at "w") => `(tactic| repeat walk_at "w1")
/-! ### names -/
def nameS (x : Str) : Bool := decide (1 ≤ x.length ∧ x.length ≤ 8) && (decide (x.cps.toList.getD 0 0 ∈ k__LETTERS.cps.toList) && x.cps.toList.all fun c => decide (c ∈ k__SIGNS.cps.toList))
def nameV : V → Bool
  | .str x => nameS x
  | _ => false
/-- what may be asked: a text that is not too long, or another thing of a known kind -/
def Askable (K : PySem.W.Frag) (H : Hp) (v : V) : Prop := (∃ x, v = .str x ∧ x.length ≤ 1000000) ∨ (nameV v = false ∧ ∃ t, TyX K H v t ∧ PySem.W.kitOne K t (.type "str") = some false)
def spName (K : PySem.W.Frag) : Sp := fun vs H Q _ => ∃ v, vs = [v] ∧ Askable K H v ∧ ∀ J, Same H J → Q (.bl (nameV v)) J
theorem ask_thing {K : PySem.W.Frag} {H : Hp} {v : V} (h : Thing H v) : Askable K H v := by
  rcases h with ⟨z, rfl, hz⟩ | h | ⟨b, rfl, h⟩
  · exact .inl ⟨z, rfl, by omega⟩
  · rcases h with rfl | ⟨b, rfl⟩ | ⟨i, rfl⟩
    · exact .inr ⟨rfl, _, .base .non, kit_ty (by decide +kernel)⟩
    · exact .inr ⟨rfl, _, .base (.bl b), kit_ty (by decide +kernel)⟩
    · exact .inr ⟨rfl, _, .base (.int i), kit_ty (by decide +kernel)⟩
  · rcases h with ⟨xs, h⟩ | ⟨xs, h⟩ | ⟨xs, h⟩
    · exact .inr ⟨rfl, _, .base (.lst h), kit_ty (by decide +kernel)⟩
    · exact .inr ⟨rfl, _, .base (.tup h), kit_ty (by decide +kernel)⟩
    · exact .inr ⟨rfl, _, .base (.dK h), kit_ty (by decide +kernel)⟩
/-- what the signs of a text say, sign by sign -/
def signBits (x z : Str) : List Bool := x.cps.toList.map fun c => decide (c ∈ z.cps.toList)
theorem bits_all (x : Str) : (signBits x k__SIGNS).all id = x.cps.toList.all fun c => decide (c ∈ k__SIGNS.cps.toList) := by
  unfold signBits
  rw [List.all_map]
  rfl
theorem bits_next {x z : Str} {i c : Nat} (h : x.cps[i]? = some c) : ((x.cps.toList.take i).map fun c => V.bl (decide (c ∈ z.cps.toList))) ++ [V.bl (decide (c ∈ z.cps.toList))] = (x.cps.toList.take (i + 1)).map fun c => V.bl (decide (c ∈ z.cps.toList)) := by
  rw [List.take_add_one, Array.getElem?_toList, h, List.map_append]
  rfl
theorem bits_end (x z : Str) : ((x.cps.toList.take x.cps.size).map fun c => V.bl (decide (c ∈ z.cps.toList))) = (signBits x z).map V.bl := by
  rw [List.take_of_length_le (by rw [Array.length_toList]; exact Nat.le_refl _), signBits, List.map_map]
  rfl
theorem first_at {x : Str} (h : 1 ≤ x.length) : atI x.cps.toList 0 = some (x.cps.toList.getD 0 0) := by
  have h2 : 0 < x.cps.toList.length := by
    rw [str_len] at h
    exact h
  refine (atI_nat (j := 0) (v := x.cps.toList.getD 0 0) ?_ : atI x.cps.toList ((0 : Nat) : Int) = _)
  rw [List.getD_eq_getElem?_getD, List.getElem?_eq_getElem h2]
  rfl
theorem nameS_of {x : Str} (h : 1 ≤ x.length ∧ x.length ≤ 8) : nameS x = (decide (x.cps.toList.getD 0 0 ∈ k__LETTERS.cps.toList) && (signBits x k__SIGNS).all id) := by
  unfold nameS
  rw [decide_eq_true h, bits_all]
  rfl
theorem nameS_not {x : Str} (h : ¬ (1 ≤ x.length ∧ x.length ≤ 8)) : nameS x = false := by
  unfold nameS
  rw [decide_eq_false h]
  rfl
abbrev s_is_name : Stmt := topS 4
theorem sc_is_name : FnScope ["value", "sign"] ["value"] (defScope s_is_name) := ⟨rfl, rfl, rfl, by decide +kernel, rfl, by decide +kernel, by decide +kernel⟩
section
variable {P : Program} {w : World} {K : PySem.W.Frag} {mg : Str → Option Value} {base : Heap}
theorem ok_is_name {f : Addr} {fd : FuncData} (F : Fun K "is_name" "is_name" s_is_name f fd) (T : Txt K mg) : FnOk P w K mg base CX0 1 f fd ["value"] (spName K) := by
  refine F.ok sc_is_name (fun vs H Q E h => ?_) (fun cdv A outer s H vs Q E hr h => ?_)
  · obtain ⟨v, rfl, _⟩ := h
    rfl
  · obtain ⟨v, rfl, hv, q⟩ := h
    refine ⟨_, (pss_cons (ps_if (PW.pt (pw_or (pt_not (pt_val (pe_callB (k_isi (K := K)) (by rfl) T.z_isinstance (by decide +kernel) (pa_cons (pv 0) (pa_cons (pe_bltn (v := .ty "str") (u := .type "str") (by rfl) T.z_str (by decide +kernel) rfl) pa_nil))))) (pw_or (pt_cmpR op_lt (pe_callB c_lenS (by rfl) T.z_len (by decide +kernel) (pa_cons (pv 0) pa_nil)) pe_int (nomark _)) (pw_or1 (pt_cmpR op_gt (pe_callB c_lenS (by rfl) T.z_len (by decide +kernel) (pa_cons (pv 0) pa_nil)) (pe_gc rfl T.g__LONGEST) (nomark _))))))
    (pss_one (ps_ret pe_bl))
    pss_nil)
  (pss_one (ps_ret (pe_and (pe_cmpR o_inC (pe_ix ix_str (pv 0) pe_int (fun _ _ => rfl)) (pe_gc rfl T.g__LETTERS) rfl) (pe_one (pe_callB (k_all (K := K) rfl) (by rfl) T.z_all (by decide +kernel) (pa_cons (pe_lc (own := [("sign", 1)]) (g := (gName 1)) (tt := tYes) rfl sc_is_name.nd (pi_str (pv 0)) (blkOk_by (own := [("sign", 1)]) (N := ["value", "sign"]) (sc := defScope s_is_name) (by decide +kernel)) (fun _ _ _ _ _ => (pg_name (i := 1) sc_is_name.nd rfl (Or.inl rfl))) (fun _ _ _ _ _ => pts_nil) (fun _ _ _ _ _ => (pe_cmpR o_inC (pv 1) (pe_gc rfl T.g__SIGNS) rfl))) pa_nil))))))), ?_⟩
    walk_at "w0"
    rcases hv with ⟨x, rfl, hx⟩ | ⟨nv, t, ty, kt⟩
    · walk_at "w"
      refine w_isi (.base (.str x)) (kit_ty (b := "str") (r := true) (by decide +kernel)) ?_
      walk_at "w"
      refine w_dec (fun h0 => ?_) (fun h0 => ?_)
      · walk_at "w"
        have e : nameV (.str x) = false := nameS_not (by omega)
        have q1 := q H (Same.refl H)
        rw [e] at q1
        exact q1
      · walk_at "w"
        refine w_dec (fun h1 => ?_) (fun h1 => ?_)
        · walk_at "w"
          have e : nameV (.str x) = false := nameS_not (by omega)
          have q1 := q H (Same.refl H)
          rw [e] at q1
          exact q1
        · walk_at "w"
          have e : nameV (.str x) = _ := nameS_of (x := x) (by omega)
          rw [e] at q
          refine w_ixS hx (first_at (by omega)) ?_
          walk_at "w"
          refine w_bool (fun h2 => ?_) (fun h2 => ?_)
          · rw [show decide (x.cps.toList.getD 0 0 ∈ k__LETTERS.cps.toList) = true from h2] at q
            walk_at "w"
            intro D nD
            refine w_comp walk_str (fun i acc L => acc = (x.cps.toList.take i).map (fun c => V.bl (decide (c ∈ k__SIGNS.cps.toList))) ∧ Same H L) nD (fun L s1 _ => ⟨rfl, s1⟩) (fun _ _ _ _ => trivial) ?_ ?_
            · rintro i acc y L M hi hl ⟨rfl, s1⟩ hD ⟨rfl, c, hc, rfl⟩
              walk_at "w"
              refine ⟨rfl, ?_⟩
              walk_at "w"
              exact w_put hD hl (by have : x.cps.size = x.length := rfl; omega) fun Z e4 hZ => ⟨bits_next hc, Same.ofExt s1 nD e4⟩
            · rintro acc L hl hD ⟨rfl, s1⟩
              rw [bits_end] at hD
              walk_at "w"
              exact q L s1
          · rw [show decide (x.cps.toList.getD 0 0 ∈ k__LETTERS.cps.toList) = false from h2] at q
            walk_at "w"
            exact q H (Same.refl H)
    · walk_at "w"
      have q1 := q H (Same.refl H)
      rw [nv] at q1
      exact q1
end

end RT
set_option Elab.async false
set_option linter.all false
set_option maxRecDepth 100000
set_option maxHeartbeats 4000000
namespace RT
open PySem PySem.Spec PyProof.Rows L2
local macro_rules | `(tactic| walk_at "w0") => `(tactic| dsimp only [L2.start, cxOf, Cx.nox, Cx.wish, List.map, List.length_cons, List.length_nil, List.replicate_succ, List.replicate_zero, List.cons_append, List.nil_append, Nat.reduceAdd, Nat.reduceSub, List.set_cons_zero, List.set_cons_succ])
local macro_rules | `(tactic| walk_at "w1") => `(tactic| first
  | with_reducible refine w_seq ?_
  | with_reducible refine w_asg ?_
  | with_reducible refine w_var rfl ?_
  | with_reducible refine w_c ?_
  | with_reducible refine w_op ?_
  | with_reducible refine w_cons ?_
  | with_reducible refine w_nil ?_
  | with_reducible refine w_gname ?_
  | with_reducible refine w_cb ?_
  | with_reducible refine w_I0 ?_
  | with_reducible refine w_bl ?_
  | ((with_reducible refine' w_ixL ?s0 ?s1 ?q); (case s0 => assumption); (case s1 => rfl))
  | ((with_reducible refine' w_ixT ?s0 ?s1 ?q); (case s0 => assumption); (case s1 => rfl))
  | with_reducible refine w_gsub ?_
  | with_reducible refine w_ifS ?_
  | with_reducible refine w_test ?_
  | with_reducible refine w_call ?_
  | with_reducible refine w_ret ?_
  | with_reducible refine w_int1 ?_
  | with_reducible refine w_int ?_
  | with_reducible refine w_next ?_
  | with_reducible refine w_drop ?_
  | ((with_reducible refine' w_mod ?s0 ?q); (case s0 => omega))
  | ((with_reducible refine' w_div ?s0 ?q); (case s0 => omega))
  | ((with_reducible refine' w_mul ?s0 ?q); (case s0 => omega))
  | ((with_reducible refine' w_pow ?s0 ?q); (case s0 => decide))
  | with_reducible refine w_B ?_
  | with_reducible refine w_and ?_
  | with_reducible refine w_or ?_
  | with_reducible refine w_not ?_
  | with_reducible refine w_T ?_
  | with_reducible refine w_F ?_
  | with_reducible refine w_nT ?_
  | with_reducible refine w_nF ?_
  | with_reducible refine w_un ?_
  | with_reducible refine w_U ?_
  | with_reducible refine w_if ?_
  | with_reducible refine w_lst ?_
  | with_reducible refine w_tup ?_
  | with_reducible refine w_sl ?_
  | with_reducible refine w_part ?_
  | with_reducible refine w_nopart ?_
  | with_reducible refine w_eqI ?_
  | with_reducible refine w_neI ?_
  | with_reducible refine w_eqS ?_
  | with_reducible refine w_neS ?_
  | with_reducible refine w_abs ?_
  | with_reducible refine w_max2 ?_
  | with_reducible refine w_min2 ?_
  | ((with_reducible refine' w_lenL ?s0 ?q); (case s0 => assumption))
  | ((with_reducible refine' w_lenH ?s0 ?q); (case s0 => assumption))
  | ((with_reducible refine' w_lenT ?s0 ?q); (case s0 => assumption))
  | ((with_reducible refine' w_lenS ?s0 ?q); (case s0 => first | assumption | omega | decide +kernel))
  | with_reducible refine w_inC ?_
  | with_reducible refine w_ninC ?_
  | with_reducible refine w_m1 ?_
  | with_reducible refine w_m0 ?_
  | with_reducible refine w_isstr ?_
  | with_reducible refine w_andV ?_
  | with_reducible refine w_orV ?_
  | with_reducible refine w_notV ?_
  | with_reducible refine w_chain ?_
  | with_reducible refine w_retN ?_
  | with_reducible refine w_break ?_
  | with_reducible refine w_cont ?_
  | with_reducible refine w_yes ?_
  | with_reducible refine w_for ?_
  | with_reducible refine w_lc ?_
  | with_reducible refine w_iList ?_
  | with_reducible refine w_iTup ?_
  | with_reducible refine w_iStr ?_
  | with_reducible refine w_iR1 ?_
  | with_reducible refine w_iR2 ?_
  | ((with_reducible refine' w_onL ?s0 ?q); (case s0 => assumption))
  | ((with_reducible refine' w_onQ ?s0 ?q); (case s0 => assumption))
  | ((with_reducible refine' w_onT ?s0 ?q); (case s0 => assumption))
  | ((with_reducible refine' w_onU ?s0 ?q); (case s0 => assumption))
  | with_reducible refine w_onS ?_
  | ((with_reducible refine' w_onR1 ?s0 ?q); (case s0 => omega))
  | ((with_reducible refine' w_onR2 ?s0 ?q); (case s0 => omega))
  | with_reducible refine w_revL ?_
  | ((with_reducible refine' w_all ?s0 ?q); (case s0 => assumption))
  | ((with_reducible refine' w_any ?s0 ?q); (case s0 => assumption))
  | with_reducible refine w_bm ?_
  | with_reducible refine w_bm0 ?_
  | ((with_reducible refine' w_islst ?s0 ?q); (case s0 => assumption))
  | with_reducible refine w_kw ?_
  | ((with_reducible refine' w_isi ?s0 ?s1 ?q); (case s0 => assumption); (case s1 => assumption))
  | ((with_reducible refine' w_addS ?s0 ?q); (case s0 => first | omega | decide +kernel))
  | with_reducible refine w_dnew ?_
  | with_reducible refine w_pnil ?_
  | with_reducible refine w_pcons ?_
  | ((with_reducible refine' w_slS ?s0 ?q); (case s0 => first | assumption | omega))
  | ((with_reducible refine' w_inLS ?s0 ?q); (case s0 => assumption))
  | ((with_reducible refine' w_ninLS ?s0 ?q); (case s0 => assumption))
  | ((with_reducible refine' w_inTS ?s0 ?q); (case s0 => assumption))
  | with_reducible refine w_par ?_
  | with_reducible refine w_parEnd ?_
  | with_reducible refine w_par3 ?_
  | with_reducible refine w_parEnd3 ?_
  | ((with_reducible refine' w_upper ?s0 ?q); (case s0 => first | assumption | omega | decide +kernel))
  | dsimp only [wipe, List.set_cons_zero, List.set_cons_succ])
local macro_rules | `(tactic| walk_at "w") => `(tactic| repeat walk_at "w1")
abbrev s__law_is_name : Stmt := topS 12
theorem sc__law_is_name : FnScope ["thing", "small", "sign"] ["thing"] (defScope s__law_is_name) := ⟨rfl, rfl, rfl, by decide +kernel, rfl, by decide +kernel, by decide +kernel⟩
section
variable {P : Program} {w : World} {K : PySem.W.Frag} {mg : Str → Option Value} {base : Heap}
theorem ok__law_is_name {f : Addr} {fd : FuncData} (F : Fun K "_law_is_name" "_law_is_name" s__law_is_name f fd) (T : Txt K mg) : FnOk P w K mg base CX0 1 f fd ["thing"] (spName K) := by
  refine F.ok sc__law_is_name (fun vs H Q E h => ?_) (fun cdv A outer s H vs Q E hr h => ?_)
  · obtain ⟨v, rfl, _⟩ := h
    rfl
  · obtain ⟨v, rfl, hv, q⟩ := h
    refine ⟨_, (pss_cons (ps_if (PW.pt (pw_or (pt_not (pt_val (pe_callB (k_isi (K := K)) (by rfl) T.z_isinstance (by decide +kernel) (pa_cons (pv 0) (pa_cons (pe_bltn (v := .ty "str") (u := .type "str") (by rfl) T.z_str (by decide +kernel) rfl) pa_nil))))) (pw_or1 (pt_not (pt_chain op_lt op_lt pe_int (pe_callB c_lenS (by rfl) T.z_len (by decide +kernel) (pa_cons (pv 0) pa_nil)) pe_int)))))
    (pss_one (ps_ret pe_bl))
    pss_nil)
  (pss_cons (ps_set (i := 1) sc__law_is_name.nd rfl (by first | exact Or.inl rfl | exact Or.inr rfl) pe_str)
  (pss_one (ps_ret (pe_and (pe_cmpR o_inC (pe_ix ix_str (pv 0) pe_int (fun _ _ => rfl)) (pv 1) rfl) (pe_one (pe_callB (k_all (K := K) rfl) (by rfl) T.z_all (by decide +kernel) (pa_cons (pe_lc (own := [("sign", 2)]) (g := (gName 2)) (tt := tYes) rfl sc__law_is_name.nd (pi_str (pv 0)) (blkOk_by (own := [("sign", 2)]) (N := ["thing", "small", "sign"]) (sc := defScope s__law_is_name) (by decide +kernel)) (fun _ _ _ _ _ => (pg_name (i := 2) sc__law_is_name.nd rfl (Or.inl rfl))) (fun _ _ _ _ _ => pts_nil) (fun _ _ _ _ _ => (pe_cmpR o_inC (pv 2) (pe_op o_addS (pv 1) pe_str) rfl))) pa_nil)))))))), ?_⟩
    walk_at "w0"
    rcases hv with ⟨x, rfl, hx⟩ | ⟨nv, t, ty, kt⟩
    · walk_at "w"
      refine w_isi (.base (.str x)) (kit_ty (b := "str") (r := true) (by decide +kernel)) ?_
      walk_at "w"
      refine w_dec (fun h0 => ?_) (fun h0 => ?_)
      · walk_at "w"
        refine w_ndec (fun h1 => ?_) (fun h1 => ?_)
        · walk_at "w"
          have e : nameV (.str x) = false := nameS_not (by omega)
          have q1 := q H (Same.refl H)
          rw [e] at q1
          exact q1
        · walk_at "w"
          have e : nameV (.str x) = _ := nameS_of (x := x) (by omega)
          rw [e] at q
          refine w_ixS hx (first_at (by omega)) ?_
          walk_at "w"
          refine w_bool (fun h2 => ?_) (fun h2 => ?_)
          · rw [show decide (x.cps.toList.getD 0 0 ∈ k__LETTERS.cps.toList) = true from h2] at q
            walk_at "w"
            intro D nD
            refine w_comp walk_str (fun i acc L => acc = (x.cps.toList.take i).map (fun c => V.bl (decide (c ∈ k__SIGNS.cps.toList))) ∧ Same H L) nD (fun L s1 _ => ⟨rfl, s1⟩) (fun _ _ _ _ => trivial) ?_ ?_
            · rintro i acc y L M hi hl ⟨rfl, s1⟩ hD ⟨rfl, c, hc, rfl⟩
              walk_at "w"
              refine ⟨rfl, ?_⟩
              walk_at "w"
              rw [show Str.ofString "abcdefghijklmnopqrstuvwxyz" ++ Str.ofString "0123456789" = k__SIGNS by decide +kernel]
              exact w_put hD hl (by have : x.cps.size = x.length := rfl; omega) fun Z e4 hZ => ⟨bits_next hc, Same.ofExt s1 nD e4⟩
            · rintro acc L hl hD ⟨rfl, s1⟩
              rw [bits_end] at hD
              walk_at "w"
              exact q L s1
          · rw [show decide (x.cps.toList.getD 0 0 ∈ k__LETTERS.cps.toList) = false from h2] at q
            walk_at "w"
            exact q H (Same.refl H)
      · walk_at "w"
        have e : nameV (.str x) = false := nameS_not (by omega)
        have q1 := q H (Same.refl H)
        rw [e] at q1
        exact q1
    · walk_at "w"
      have q1 := q H (Same.refl H)
      rw [nv] at q1
      exact q1
end

end RT
set_option Elab.async false
set_option linter.all false
set_option maxRecDepth 100000
set_option maxHeartbeats 4000000
namespace RT
open PySem PySem.Spec PyProof.Rows L2
local macro_rules | `(tactic| walk_at "w0") => `(tactic| dsimp only [L2.start, cxOf, Cx.nox, Cx.wish, List.map, List.length_cons, List.length_nil, List.replicate_succ, List.replicate_zero, List.cons_append, List.nil_append, Nat.reduceAdd, Nat.reduceSub, List.set_cons_zero, List.set_cons_succ])
local macro_rules | `(tactic| walk_at "w1") => `(tactic| first
  | with_reducible refine w_seq ?_
  | with_reducible refine w_asg ?_
  | with_reducible refine w_var rfl ?_
  | with_reducible refine w_c ?_
  | with_reducible refine w_op ?_
  | with_reducible refine w_cons ?_
  | with_reducible refine w_nil ?_
  | with_reducible refine w_gname ?_
  | with_reducible refine w_cb ?_
  | with_reducible refine w_I0 ?_
  | with_reducible refine w_bl ?_
  | ((with_reducible refine' w_ixL ?s0 ?s1 ?q); (case s0 => assumption); (case s1 => rfl))
  | ((with_reducible refine' w_ixT ?s0 ?s1 ?q); (case s0 => assumption); (case s1 => rfl))
  | with_reducible refine w_gsub ?_
  | with_reducible refine w_ifS ?_
  | with_reducible refine w_test ?_
  | with_reducible refine w_call ?_
  | with_reducible refine w_ret ?_
  | with_reducible refine w_int1 ?_
  | with_reducible refine w_int ?_
  | with_reducible refine w_next ?_
  | with_reducible refine w_drop ?_
  | ((with_reducible refine' w_mod ?s0 ?q); (case s0 => omega))
  | ((with_reducible refine' w_div ?s0 ?q); (case s0 => omega))
  | ((with_reducible refine' w_mul ?s0 ?q); (case s0 => omega))
  | ((with_reducible refine' w_pow ?s0 ?q); (case s0 => decide))
  | with_reducible refine w_B ?_
  | with_reducible refine w_and ?_
  | with_reducible refine w_or ?_
  | with_reducible refine w_not ?_
  | with_reducible refine w_T ?_
  | with_reducible refine w_F ?_
  | with_reducible refine w_nT ?_
  | with_reducible refine w_nF ?_
  | with_reducible refine w_un ?_
  | with_reducible refine w_U ?_
  | with_reducible refine w_if ?_
  | with_reducible refine w_lst ?_
  | with_reducible refine w_tup ?_
  | with_reducible refine w_sl ?_
  | with_reducible refine w_part ?_
  | with_reducible refine w_nopart ?_
  | with_reducible refine w_eqI ?_
  | with_reducible refine w_neI ?_
  | with_reducible refine w_eqS ?_
  | with_reducible refine w_neS ?_
  | with_reducible refine w_abs ?_
  | with_reducible refine w_max2 ?_
  | with_reducible refine w_min2 ?_
  | ((with_reducible refine' w_lenL ?s0 ?q); (case s0 => assumption))
  | ((with_reducible refine' w_lenH ?s0 ?q); (case s0 => assumption))
  | ((with_reducible refine' w_lenT ?s0 ?q); (case s0 => assumption))
  | ((with_reducible refine' w_lenS ?s0 ?q); (case s0 => first | assumption | omega | decide +kernel))
  | with_reducible refine w_inC ?_
  | with_reducible refine w_ninC ?_
  | with_reducible refine w_m1 ?_
  | with_reducible refine w_m0 ?_
  | with_reducible refine w_isstr ?_
  | with_reducible refine w_andV ?_
  | with_reducible refine w_orV ?_
  | with_reducible refine w_notV ?_
  | with_reducible refine w_chain ?_
  | with_reducible refine w_retN ?_
  | with_reducible refine w_break ?_
  | with_reducible refine w_cont ?_
  | with_reducible refine w_yes ?_
  | with_reducible refine w_for ?_
  | with_reducible refine w_lc ?_
  | with_reducible refine w_iList ?_
  | with_reducible refine w_iTup ?_
  | with_reducible refine w_iStr ?_
  | with_reducible refine w_iR1 ?_
  | with_reducible refine w_iR2 ?_
  | ((with_reducible refine' w_onL ?s0 ?q); (case s0 => assumption))
  | ((with_reducible refine' w_onQ ?s0 ?q); (case s0 => assumption))
  | ((with_reducible refine' w_onT ?s0 ?q); (case s0 => assumption))
  | ((with_reducible refine' w_onU ?s0 ?q); (case s0 => assumption))
  | with_reducible refine w_onS ?_
  | ((with_reducible refine' w_onR1 ?s0 ?q); (case s0 => omega))
  | ((with_reducible refine' w_onR2 ?s0 ?q); (case s0 => omega))
  | with_reducible refine w_revL ?_
  | ((with_reducible refine' w_all ?s0 ?q); (case s0 => assumption))
  | ((with_reducible refine' w_any ?s0 ?q); (case s0 => assumption))
  | with_reducible refine w_bm ?_
  | with_reducible refine w_bm0 ?_
  | ((with_reducible refine' w_islst ?s0 ?q); (case s0 => assumption))
  | with_reducible refine w_kw ?_
  | ((with_reducible refine' w_isi ?s0 ?s1 ?q); (case s0 => assumption); (case s1 => assumption))
  | ((with_reducible refine' w_addS ?s0 ?q); (case s0 => first | omega | decide +kernel))
  | with_reducible refine w_dnew ?_
  | with_reducible refine w_pnil ?_
  | with_reducible refine w_pcons ?_
  | ((with_reducible refine' w_slS ?s0 ?q); (case s0 => first | assumption | omega))
  | ((with_reducible refine' w_inLS ?s0 ?q); (case s0 => assumption))
  | ((with_reducible refine' w_ninLS ?s0 ?q); (case s0 => assumption))
  | ((with_reducible refine' w_inTS ?s0 ?q); (case s0 => assumption))
  | with_reducible refine w_par ?_
  | with_reducible refine w_parEnd ?_
  | with_reducible refine w_par3 ?_
  | with_reducible refine w_parEnd3 ?_
  | ((with_reducible refine' w_upper ?s0 ?q); (case s0 => first | assumption | omega | decide +kernel))
  | dsimp only [wipe, List.set_cons_zero, List.set_cons_succ])
local macro_rules | `(tactic| walk_at "w") => `(tactic| repeat walk_at "w1")
/-! ### drawn names -/
theorem name_of {z : Str} {c : Nat} {cs : List Nat} (e : z.cps.toList = c :: cs) (h1 : c ∈ k__LETTERS.cps.toList) (h2 : ∀ x ∈ c :: cs, x ∈ k__SIGNS.cps.toList) (hl : cs.length ≤ 7) : nameS z = true := by
  have hz : z.length = cs.length + 1 := by rw [str_len, e, List.length_cons]
  rw [nameS_of (by omega), e, bits_all, e]
  rw [show (c :: cs).getD 0 0 = c from rfl, decide_eq_true h1, Bool.true_and, List.all_eq_true]
  exact fun x hx => decide_eq_true (h2 x hx)
theorem name_is {z : Str} (h : nameS z = true) : ∃ c cs, z.cps.toList = c :: cs ∧ c ∈ k__LETTERS.cps.toList ∧ (∀ x ∈ c :: cs, x ∈ k__SIGNS.cps.toList) ∧ cs.length ≤ 7 := by
  by_cases hl : 1 ≤ z.length ∧ z.length ≤ 8
  · rw [nameS_of hl, bits_all, Bool.and_eq_true] at h
    cases e : z.cps.toList with
    | nil =>
      rw [str_len, e] at hl
      exact absurd hl.1 (by decide)
    | cons c cs =>
      rw [e] at h
      refine ⟨c, cs, rfl, of_decide_eq_true h.1, fun x hx => of_decide_eq_true (List.all_eq_true.mp h.2 x hx), ?_⟩
      rw [str_len, e, List.length_cons] at hl
      omega
  · rw [nameS_not hl] at h
    cases h
theorem low_sig : ∀ c ∈ k__LETTERS.cps.toList, c ∈ k__SIGNS.cps.toList := by
  have e : k__LETTERS.cps.toList.all (fun c => decide (c ∈ k__SIGNS.cps.toList)) = true := by decide +kernel
  exact fun c hc => of_decide_eq_true (List.all_eq_true.mp e c hc)
theorem name_len {z : Str} (h : nameS z = true) : 1 ≤ z.length ∧ z.length ≤ 8 := by
  obtain ⟨c, cs, e, _, _, hl⟩ := name_is h
  rw [str_len, e, List.length_cons]
  omega
theorem pick_ok {H : Hp} {p : Addr} {xs : List V} {d n : Int} (_ : H p = some (.lst xs)) (ok : xs.all nameV = true) (d0 : 0 ≤ d) (d1 : d < n) (e : ((xs.length : Nat) : Int) = n) : ∃ z, atI xs d = some (.str z) ∧ nameS z = true := by
  obtain ⟨v, hv, hm⟩ := at_in (xs := xs) d0 (by omega)
  have h := List.all_eq_true.mp ok v hm
  cases v with
  | str z => exact ⟨z, hv, h⟩
  | _ => cases h
def spName1 : Sp := fun vs H Q _ => ∃ a : Addr, vs = [.ref a] ∧ Bag H a ∧ ∀ (z : Str) (J : Hp), nameS z = true → Ext a H J → Bag J a → Q (.str z) J
def spNames : Sp := fun vs H Q _ => ∃ (a : Addr) (n : Nat), vs = [.ref a, .int (n : Int)] ∧ n ≤ 10 ∧ Bag H a ∧ ∀ (p : Addr) (zs : List Str) (J : Hp), H p = none → zs.length = n → zs.Nodup → (∀ z ∈ zs, nameS z = true) → J p = some (.lst (zs.map V.str)) → Ext a H J → Bag J a → Q (.ref p) J
abbrev s__law_name : Stmt := topS 10
theorem sc__law_name : FnScope ["bag", "words", "way", "small", "more", "k"] ["bag"] (defScope s__law_name) := ⟨rfl, rfl, rfl, by decide +kernel, rfl, by decide +kernel, by decide +kernel⟩
abbrev s__law_names : Stmt := topS 11
theorem sc__law_names : FnScope ["bag", "many", "found", "k", "name", "menu", "j", "each"] ["bag", "many"] (defScope s__law_names) := ⟨rfl, rfl, rfl, by decide +kernel, rfl, by decide +kernel, by decide +kernel⟩
/-- the wards' texts: first six signs and a digit -/
def cand (z : Str) (j : Nat) : Str := cutS z none (some 6) ++ Str.ofString (toString ((j : Nat) : Int))
theorem cut6 (z : Str) : (cutS z none (some 6)).cps.toList = z.cps.toList.take 6 := by
  rw [C8.cutS_slice]
  have e := SX.slice_to (a := z.cps.toList) (i := 6) (by decide)
  rw [SX.S_tl] at e
  rw [e]
  rfl
theorem cut7 (z : Str) : (cutS z none (some 7)).cps.toList = z.cps.toList.take 7 := by
  rw [C8.cutS_slice]
  have e := SX.slice_to (a := z.cps.toList) (i := 7) (by decide)
  rw [SX.S_tl] at e
  rw [e]
  rfl
theorem cand_list {z : Str} {j : Nat} (h : j < 10) : (cand z j).cps.toList = z.cps.toList.take 6 ++ [48 + j] := by
  unfold cand
  rw [show (cutS z none (some 6) ++ Str.ofString (toString ((j : Nat) : Int))).cps.toList = (cutS z none (some 6)).cps.toList ++ (Str.ofString (toString ((j : Nat) : Int))).cps.toList from TL.tl_append _ _, cut6, show (Str.ofString (toString ((j : Nat) : Int))).cps.toList = TL.numL j from TL.tl_num j, TL.numL_lt h]
theorem digit_sig {j : Nat} (h : j < 10) : 48 + j ∈ k__SIGNS.cps.toList := by
  have e : (List.range 10).all (fun j => decide (48 + j ∈ k__SIGNS.cps.toList)) = true := by decide +kernel
  exact of_decide_eq_true (List.all_eq_true.mp e j (List.mem_range.mpr h))
theorem cand_name {z : Str} {j : Nat} (hz : nameS z = true) (h : j < 10) : nameS (cand z j) = true := by
  obtain ⟨c, cs, e, h1, h2, hl⟩ := name_is hz
  have e2 : (cand z j).cps.toList = c :: (cs.take 5 ++ [48 + j]) := by rw [cand_list h, e]; rfl
  refine name_of e2 h1 (fun x hx => ?_) (by rw [List.length_append, List.length_take]; show min 5 cs.length + 1 ≤ 7; omega)
  rcases List.mem_cons.mp hx with rfl | hx
  · exact h2 _ (List.mem_cons_self ..)
  · rcases List.mem_append.mp hx with hx | hx
    · exact h2 _ (List.mem_cons_of_mem _ (List.mem_of_mem_take hx))
    · rw [List.mem_singleton.mp hx]
      exact digit_sig h
theorem cand_inj {z : Str} {i j : Nat} (hi : i < 10) (hj : j < 10) (e : cand z i = cand z j) : i = j := by
  have h : (cand z i).cps.toList = (cand z j).cps.toList := by rw [e]
  rw [cand_list hi, cand_list hj] at h
  have := List.append_cancel_left h
  have := (List.cons.inj this).1
  omega
theorem cands_nodup (z : Str) : ∀ n : Nat, n ≤ 10 → ((List.range n).map (cand z)).Nodup := by
  intro n hn
  refine List.pairwise_map.mpr (List.Pairwise.imp_of_mem (fun {a b} ha hb ne e => ne ?_) (List.nodup_range (n := n)))
  rw [List.mem_range] at ha hb
  exact cand_inj (by omega) (by omega) e
/-- the menu has a text that is not among fewer ones -/
theorem menu_new {z : Str} {n : Nat} {zs : List Str} (hn : n ≤ 10) (h : zs.length < n) : ∃ y, y ∈ (z :: (List.range n).map (cand z)).filter (fun y => !decide (y ∈ zs)) := by
  by_cases all : ∀ y ∈ (List.range n).map (cand z), y ∈ zs
  · have := length_le_of_nodup_of_subset _ _ (cands_nodup z n hn) all
    rw [List.length_map, List.length_range] at this
    omega
  · obtain ⟨y, hy⟩ := Classical.not_forall.mp all
    obtain ⟨h1, h2⟩ := Classical.not_imp.mp hy
    exact ⟨y, List.mem_filter.mpr ⟨List.mem_cons_of_mem _ h1, by rw [decide_eq_false h2]; rfl⟩⟩
section
variable {P : Program} {w : World} {K : PySem.W.Frag} {mg : Str → Option Value} {base : Heap}
theorem ok__law_name {f : Addr} {fd : FuncData} (F : Fun K "_law_name" "_law_name" s__law_name f fd) (T : Txt K mg) (c__law_draw : Cal P w K mg base 1 "_law_draw" spDraw) : FnOk P w K mg base CX0 2 f fd ["bag"] spName1 := by
  refine F.ok sc__law_name (fun vs H Q E h => ?_) (fun cdv A outer s H vs Q E hr h => ?_)
  · obtain ⟨a, rfl, _⟩ := h
    rfl
  · obtain ⟨a, rfl, hb, q⟩ := h
    refine ⟨_, (pss_cons (ps_set (i := 1) sc__law_name.nd rfl (by first | exact Or.inl rfl | exact Or.inr rfl) (pe_lst (pa_cons pe_str (pa_cons pe_str (pa_cons pe_str (pa_cons pe_str (pa_cons pe_str (pa_cons pe_str (pa_cons pe_str (pa_cons pe_str (pa_cons pe_str (pa_cons pe_str (pa_cons pe_str (pa_cons pe_str (pa_cons pe_str pa_nil)))))))))))))))
  (pss_cons (ps_set (i := 1) sc__law_name.nd rfl (by first | exact Or.inl rfl | exact Or.inr rfl) (pe_op op_cat (pv 1) (pe_lst (pa_cons pe_str (pa_cons pe_str (pa_cons pe_str (pa_cons pe_str (pa_cons pe_str pa_nil))))))))
  (pss_cons (ps_set (i := 2) sc__law_name.nd rfl (by first | exact Or.inl rfl | exact Or.inr rfl) (pe_c c__law_draw hr (by decide) (by rfl) (pa_cons (pv 0) (pa_cons pe_int pa_nil))))
  (pss_cons (ps_if (pt_cmpR op_eq (pv 2) pe_int (nomark _))
    (pss_one (ps_ret (pe_ix (k_ixL (K := K)) (pv 1) (pe_c c__law_draw hr (by decide) (by rfl) (pa_cons (pv 0) (pa_cons pe_int pa_nil))) (fun _ _ => rfl))))
    pss_nil)
  (pss_cons (ps_set (i := 3) sc__law_name.nd rfl (by first | exact Or.inl rfl | exact Or.inr rfl) pe_str)
  (pss_cons (ps_setLc (i := 4) (own := [("k", 5)]) (g := (gName 5)) (tt := tYes) rfl sc__law_name.nd rfl rfl (sw_true rfl rfl rfl (by decide +kernel)) (pi_range1 rfl T.z_range (pa_cons (pe_ix (k_ixL (K := K)) (pe_lst (pa_cons pe_int (pa_cons pe_int (pa_cons pe_int (pa_cons pe_int (pa_cons pe_int (pa_cons pe_int pa_nil))))))) (pv 2) (fun _ _ => rfl)) pa_nil)) (blkOk_by (own := [("k", 5)]) (N := ["bag", "words", "way", "small", "more", "k"]) (sc := defScope s__law_name) (by decide +kernel)) (fun _ _ _ _ _ => (pg_name (i := 5) sc__law_name.nd rfl (Or.inl rfl))) (fun _ _ _ _ _ => pts_nil) (fun _ _ _ _ _ => (pe_ix ix_str (pe_op o_addS (pv 3) pe_str) (pe_c c__law_draw hr (by decide) (by rfl) (pa_cons (pv 0) (pa_cons pe_int pa_nil))) (fun _ _ => rfl))))
  (pss_one (ps_ret (pe_op o_addS (pe_ix ix_str (pv 3) (pe_c c__law_draw hr (by decide) (by rfl) (pa_cons (pv 0) (pa_cons pe_int pa_nil))) (fun _ _ => rfl)) (k_join (K := K) pe_str (pv 4))))))))))), ?_⟩
    walk_at "w0"
    walk_at "w"
    refine w_newL rfl fun p1 L1 n1 s1 h1 => ?_
    walk_at "w"
    refine w_newL rfl fun p2 L2 n2 s2 h2 => ?_
    refine w_cat (s2 _ _ h1) h2 (Nat.le_of_ble_eq_true rfl) fun p L n3 s3 hp => ?_
    walk_at "w"
    have sL : Same H L := (s1.trans s2).trans s3
    refine w_draw (by decide) (by decide) (hb.same sL) fun d J d0 d1 e1 b1 => ?_
    have hJ : J p = some _ := e1 p _ (((hb.same s1).same s2).ne n3) hp
    walk_at "w"
    refine w_dec (fun _ => ?_) (fun _ => ?_)
    · walk_at "w"
      refine w_draw (by decide) (by decide) b1 fun d2 J2 d20 d21 e2 b2 => ?_
      have hJ2 : J2 p = some _ := e2 p _ (((hb.same s1).same s2).ne n3) hJ
      obtain ⟨z, hv, hz⟩ := pick_ok hJ2 (by decide +kernel) d20 d21 rfl
      refine w_ixL hJ2 hv ?_
      exact q z J2 hz (((Ext.same sL).trans e1).trans e2) b2
    · walk_at "w"
      refine w_newL rfl fun p4 L4 n4 s4 h4 => ?_
      walk_at "w"
      have eL : Ext a H L4 := ((Ext.same sL).trans e1).trans (.same s4)
      have b4 := b1.same s4
      obtain ⟨v, hv, hm⟩ := at_in (xs := [V.int 0, V.int 0, V.int 1, V.int 1, V.int 3, V.int 7]) d0 d1
      obtain ⟨n, rfl, n0, n7⟩ : ∃ n : Int, v = .int n ∧ 0 ≤ n ∧ n ≤ 7 := by
        simp only [List.mem_cons, List.not_mem_nil, or_false] at hm
        rcases hm with rfl | rfl | rfl | rfl | rfl | rfl <;> exact ⟨_, rfl, by decide, by decide⟩
      refine w_ixL h4 hv ?_
      walk_at "w"
      intro D nD
      refine w_comp walk_range (fun i acc L => Ext a L4 L ∧ Bag L a ∧ ∃ cs : List Nat, acc = cs.map (fun c => V.str ⟨#[c]⟩) ∧ ∀ c ∈ cs, c ∈ k__SIGNS.cps.toList) nD (fun L s1 _ => ⟨.same s1, b4.same s1, [], rfl, fun _ h => nomatch h⟩) (fun _ _ _ _ => trivial) ?_ ?_
      · rintro i acc x L M hi hl ⟨e2, b2, cs, rfl, hcs⟩ hD ⟨rfl, rfl⟩
        walk_at "w"
        refine ⟨rfl, ?_⟩
        walk_at "w"
        refine w_draw (by decide) (by decide) b2 fun d2 U d0 d1 e3 b3 => ?_
        obtain ⟨c, hc, hcm⟩ := sign_at (z := Str.ofString "abcdefghijklmnopqrstuvwxyz" ++ Str.ofString "0123456789") d0 (lt_len d1 (by decide +kernel))
        refine w_ixS (by decide +kernel) hc ?_
        have nDa : D ≠ a := b4.ne nD
        refine w_put (e3 D _ nDa hD) hl (by omega) fun Z e4 hZ => ⟨(e2.trans e3).put nD e4, b3.keep e4 nDa.symm, cs ++ [c], by rw [List.map_append]; rfl, fun x hx => ?_⟩
        rcases List.mem_append.mp hx with hx | hx
        · exact hcs x hx
        · rw [List.mem_singleton.mp hx]
          rw [show Str.ofString "abcdefghijklmnopqrstuvwxyz" ++ Str.ofString "0123456789" = k__SIGNS by decide +kernel] at hcm
          exact hcm
      · rintro acc L hl hD ⟨e2, b2, cs, rfl, hcs⟩
        walk_at "w"
        refine w_draw (by decide) (by decide) b2 fun d2 U d0 d1 e3 b3 => ?_
        obtain ⟨c, hc, hcm⟩ := sign_at (z := k__LETTERS) d0 (lt_len d1 (by decide +kernel))
        refine w_ixS (by decide +kernel) hc ?_
        walk_at "w"
        rw [List.length_map] at hl
        refine w_joinC (e3 D _ (b4.ne nD) hD) (by omega) fun z hzl hz => ?_
        refine w_addS (by rw [hz]; show 1 + _ ≤ _; omega) ?_
        refine q _ _ (name_of (c := c) (cs := cs) ?_ hcm (fun x hx => ?_) (by omega)) ((eL.trans e2).trans e3) b3
        · rw [show (({ cps := #[c] } : Str) ++ z).cps.toList = (({ cps := #[c] } : Str)).cps.toList ++ z.cps.toList from TL.tl_append _ _, hzl]
          rfl
        · rcases List.mem_cons.mp hx with rfl | hx
          · exact low_sig _ hcm
          · exact hcs x hx
theorem ok__law_names {f : Addr} {fd : FuncData} (F : Fun K "_law_names" "_law_names" s__law_names f fd) (T : Txt K mg) (c__law_draw : Cal P w K mg base 1 "_law_draw" spDraw) (c__law_name : Cal P w K mg base 2 "_law_name" spName1) : FnOk P w K mg base CX0 3 f fd ["bag", "many"] spNames := by
  refine F.ok sc__law_names (fun vs H Q E h => ?_) (fun cdv A outer s H vs Q E hr h => ?_)
  · obtain ⟨a, n, rfl, _⟩ := h
    rfl
  · obtain ⟨a, n, rfl, n10, hb, q⟩ := h
    refine ⟨_, (pss_cons (ps_set (i := 2) sc__law_names.nd rfl (by first | exact Or.inl rfl | exact Or.inr rfl) (pe_lst pa_nil))
  (pss_cons (ps_for PassesOwn.never rfl (pi_range1 rfl T.z_range (pa_cons (pv 1) pa_nil)) (pg_name (i := 3) sc__law_names.nd rfl (by first | exact Or.inl rfl | exact Or.inr rfl))
    (pss_cons (ps_set (i := 4) sc__law_names.nd rfl (by first | exact Or.inl rfl | exact Or.inr rfl) (pe_c c__law_name hr (by decide) (by rfl) (pa_cons (pv 0) pa_nil)))
  (C8.pss_cut (ps_if (PW.pt (pw_and (pt_cmpR (k_neT (α := List Str) (K := K) hr (by decide)) (pv 2) (pe_lst pa_nil) (nomark _)) (pw_and1 (pt_cmpR op_eq (pe_c c__law_draw hr (by decide) (by rfl) (pa_cons (pv 0) (pa_cons pe_int pa_nil))) pe_int (nomark _)))))
    (pss_one (ps_set (i := 4) sc__law_names.nd rfl (by first | exact Or.inl rfl | exact Or.inr rfl) (pe_op o_addS (pe_slice sl_str (pe_ix (k_ixL (K := K)) (pv 2) (pe_c c__law_draw hr (by decide) (by rfl) (pa_cons (pv 0) (pa_cons (pe_callB (k_lenQ (K := K)) (by rfl) T.z_len (by decide +kernel) (pa_cons (pv 2) pa_nil)) pa_nil))) (fun _ _ => rfl)) po_none (po_some pe_int)) (pe_ix ix_str pe_str (pe_c c__law_draw hr (by decide) (by rfl) (pa_cons (pv 0) (pa_cons pe_int pa_nil))) (fun _ _ => rfl)))))
    pss_nil)
  (pss_cons (ps_set (i := 5) sc__law_names.nd rfl (by first | exact Or.inl rfl | exact Or.inr rfl) (pe_op op_cat (pe_lst (pa_cons (pv 4) pa_nil)) (pe_lc (own := [("j", 6)]) (g := (gName 6)) (tt := tYes) rfl sc__law_names.nd (pi_range1 rfl T.z_range (pa_cons (pv 1) pa_nil)) (blkOk_by (own := [("j", 6)]) (N := ["bag", "many", "found", "k", "name", "menu", "j", "each"]) (sc := defScope s__law_names) (by decide +kernel)) (fun _ _ _ _ _ => (pg_name (i := 6) sc__law_names.nd rfl (Or.inl rfl))) (fun _ _ _ _ _ => pts_nil) (fun _ _ _ _ _ => (pe_op o_addS (pe_slice sl_str (pv 4) po_none (po_some pe_int)) (pe_callTy c_strI (by rfl) T.z_str (by decide +kernel) (pa_cons (pv 6) pa_nil)))))))
  (pss_one (ps_expr (k_bm (K := K) (pe_bm PySem.F.plainAttrs_list PySem.F.slot_list_append PySem.F.type_list_append mt_append (pv 2) (pa_cons (pe_ix (k_ixL (K := K)) (pe_lc (own := [("each", 7)]) (g := (gName 7)) rfl sc__law_names.nd (k_iL (K := K) (pv 5)) (blkOk_by (own := [("each", 7)]) (N := ["bag", "many", "found", "k", "name", "menu", "j", "each"]) (sc := defScope s__law_names) (by decide +kernel)) (fun _ _ _ _ _ => (pg_name (i := 7) sc__law_names.nd rfl (Or.inl rfl))) (fun _ _ _ _ _ => (pts_one (pt_cmpR (k_nin (K := K)) (pv 7) (pv 2) rfl))) (fun _ _ _ _ _ => (pv 7))) pe_int (fun _ _ => rfl)) pa_nil)))))))))
  (pss_one (ps_ret (pv 2))))), ?_⟩
    walk_at "w0"
    walk_at "w"
    refine w_newL rfl fun p L0 np s1 h1 => ?_
    walk_at "w"
    have npa : p ≠ a := hb.ne np
    refine w_loop walk_range (fun i σ M => ∃ zs o3 o4 o5 o6 o7, σ = [some (.ref a), some (.int n), some (.ref p), o3, o4, o5, o6, o7] ∧ M p = some (.lst (zs.map V.str)) ∧ zs.length = i ∧ zs.Nodup ∧ (∀ z ∈ zs, nameS z = true) ∧ Bag M a ∧ Ext a H M) ⟨[], _, _, _, _, _, rfl, h1, rfl, List.nodup_nil, fun _ h => (nomatch h), hb.same s1, .same s1⟩ (fun _ _ _ _ _ => trivial) ?_ ?_
    · rintro i x σ M0 M hi ⟨zs, o3, o4, o5, o6, o7, rfl, hp, hlz, nd, ok, hb, e0⟩ ⟨rfl, rfl⟩
      have hin : i < n := by omega
      walk_at "w"
      refine ⟨a, rfl, hb, fun z J hz e1 b1 => ?_⟩
      have hp1 : J p = some _ := e1 p _ npa hp
      have e01 := e0.trans e1
      walk_at "w"
      -- the name, perhaps bent: what holds behind the if
      refine w_cut (fun σ M => ∃ z, σ = [some (.ref a), some (.int n), some (.ref p), some (.int (0 + i)), some (.str z), o5, o6, o7] ∧ nameS z = true ∧ M p = some (.lst (zs.map V.str)) ∧ Bag M a ∧ Ext a H M) ?_ ?_
      · walk_at "w"
        refine w_newL rfl fun p5 L5 n5 s5 h5 => ?_
        have e05 := e01.trans (.same s5)
        refine w_neT (a := zs) (b := []) (tv_lst (s5 _ _ hp1) (tva_strs zs)) (tv_lst h5 .nil) ?_
        walk_at "w"
        have hp5 := s5 _ _ hp1
        refine w_dec (fun hne => ?_) (fun _ => ?_)
        · walk_at "w"
          refine w_draw (by decide) (by decide) (b1.same s5) fun d J2 d0 d1 e2 b2 => ?_
          have hp2 : J2 p = some _ := e2 p _ npa hp5
          walk_at "w"
          refine w_dec (fun _ => ?_) (fun _ => ?_)
          · walk_at "w"
            have hpos : 0 < zs.length := List.length_pos_iff.mpr hne
            refine w_draw (by rw [List.length_map]; omega) (by rw [List.length_map]; omega) b2 fun d3 J3 d30 d31 e3 b3 => ?_
            have hp3 : J3 p = some _ := e3 p _ npa hp2
            obtain ⟨y, hy, okY, _⟩ := pick_str ok d30 d31 (by rw [List.length_map])
            have := name_len okY
            refine w_ixL hp3 hy ?_
            walk_at "w"
            refine w_draw (by decide) (by decide) b3 fun d4 J4 d40 d41 e4 b4 => ?_
            obtain ⟨c, hc, hcm⟩ := sign_at (z := Str.ofString "0123456789z") d40 (lt_len d41 (by decide +kernel))
            refine w_ixS (by decide +kernel) hc ?_
            have hcut := len_cut y none (some 7)
            refine w_addS (by show _ + 1 ≤ _; omega) ?_
            walk_at "w"
            refine ⟨_, rfl, ?_, e4 p _ npa hp3, b4, ((e05.trans e2).trans e3).trans e4⟩
            obtain ⟨c0, cs, ey, h1, h2, hl7⟩ := name_is okY
            have el : (cutS y none (some 7) ++ ({ cps := #[c] } : Str)).cps.toList = c0 :: (cs.take 6 ++ [c]) := by
              rw [show (cutS y none (some 7) ++ ({ cps := #[c] } : Str)).cps.toList = (cutS y none (some 7)).cps.toList ++ ({ cps := #[c] } : Str).cps.toList from TL.tl_append _ _, cut7, ey]
              rfl
            refine name_of el h1 (fun x hx => ?_) (by rw [List.length_append, List.length_take]; show min 6 cs.length + 1 ≤ 7; omega)
            rcases List.mem_cons.mp hx with rfl | hx
            · exact h2 _ (List.mem_cons_self ..)
            · rcases List.mem_append.mp hx with hx | hx
              · exact h2 _ (List.mem_cons_of_mem _ (List.mem_of_mem_take hx))
              · rw [List.mem_singleton.mp hx]
                have e : (Str.ofString "0123456789z").cps.toList.all (fun c => decide (c ∈ k__SIGNS.cps.toList)) = true := by decide +kernel
                exact of_decide_eq_true (List.all_eq_true.mp e c hcm)
          · walk_at "w"
            exact ⟨z, rfl, hz, hp2, b2, e05.trans e2⟩
        · walk_at "w"
          exact ⟨z, rfl, hz, hp5, b1.same s5, e05⟩
      · rintro σ M ⟨z, rfl, hz, hp, hb, e0⟩
        have hzl := name_len hz
        walk_at "w"
        refine w_newL rfl fun p5 L5 n5 s5 h5 => ?_
        walk_at "w"
        intro D nD
        have hb5 := hb.same s5
        refine w_comp walk_range (fun i acc L => acc = ((List.range i).map (cand z)).map V.str ∧ Same L5 L) nD (fun L s1 _ => ⟨rfl, s1⟩) (fun _ _ _ _ => trivial) ?_ ?_
        · rintro j acc x L M hj hl ⟨rfl, s1⟩ hD ⟨rfl, rfl⟩
          walk_at "w"
          refine ⟨rfl, ?_⟩
          walk_at "w"
          refine w_strI (small_log (by omega)) ?_
          rw [show ((0 : Int) + (j : Nat)) = ((j : Nat) : Int) by omega]
          have hc : (cand z j).length ≤ 7 := by
            rw [str_len, cand_list (by omega), List.length_append, List.length_take]
            show min 6 _ + 1 ≤ 7
            omega
          have hc2 := len_add (cutS z none (some 6)) (Str.ofString (toString ((j : Nat) : Int)))
          refine w_addS (by unfold cand at hc; omega) ?_
          refine w_put hD hl (by omega) fun Z e4 hZ => ⟨?_, Same.ofExt s1 nD e4⟩
          rw [List.range_succ, List.map_append, List.map_append]
          rfl
        · rintro acc L hl hD ⟨rfl, s1⟩
          walk_at "w"
          rw [List.length_map, List.length_map, List.length_range] at hl
          refine w_cat (s1 _ _ h5) hD (by rw [List.length_map, List.length_map, List.length_range]; show 1 + _ ≤ _; omega) fun p6 L6 n6 s6 h6 => ?_
          have h6' : L6 p6 = some (.lst ((z :: (List.range n).map (cand z)).map V.str)) := h6
          have s56 := (s5.trans s1).trans s6
          have hp6 : L6 p = some _ := s56 _ _ hp
          walk_at "w"
          intro D2 nD2
          refine w_comp walk_list (fun i acc L => acc = (((z :: (List.range n).map (cand z)).take i).filter (fun y => !decide (y ∈ zs))).map V.str ∧ Same L6 L) nD2 (fun L s1 _ => ⟨rfl, s1⟩) (fun _ _ _ h => h.2.seq (SqL.of h6')) ?_ ?_
          · rintro j acc x L M hj hl2 ⟨rfl, s7⟩ hD2 ⟨rfl, hx⟩
            rw [List.getElem?_map] at hx
            obtain ⟨y, hy, rfl⟩ := Option.map_eq_some_iff.mp hx
            have hp7 : M p = some _ := s7 _ _ hp6
            walk_at "w"
            refine ⟨rfl, ?_⟩
            walk_at "w"
            have tk : (z :: (List.range n).map (cand z)).take (j + 1) = (z :: (List.range n).map (cand z)).take j ++ [y] := by
              rw [List.take_add_one, hy]
              rfl
            rw [List.length_map, List.length_cons, List.length_map, List.length_range] at hj
            refine w_ndec (fun hn => ?_) (fun hn => ?_)
            · walk_at "w"
              refine w_put hD2 hl2 (by omega) fun Z e4 hZ => ⟨?_, Same.ofExt s7 nD2 e4⟩
              rw [tk, List.filter_append, List.map_append]
              simp only [List.filter_cons, decide_eq_false hn, List.filter_nil]
              rfl
            · refine w_skip hD2 hl2 ⟨?_, s7⟩
              rw [tk, List.filter_append]
              simp only [List.filter_cons, decide_eq_true hn, List.filter_nil]
              simp
          · rintro acc L hl2 hD2 ⟨rfl, s7⟩
            rw [List.length_map, List.take_length] at hD2
            obtain ⟨y, hy⟩ := menu_new (z := z) n10 (show zs.length < n by omega)
            obtain ⟨y, r, hf⟩ : ∃ y r, (z :: (List.range n).map (cand z)).filter (fun y => !decide (y ∈ zs)) = y :: r := by
              cases h : (z :: (List.range n).map (cand z)).filter (fun y => !decide (y ∈ zs)) with
              | nil =>
                rw [h] at hy
                cases hy
              | cons y r => exact ⟨y, r, rfl⟩
            rw [hf] at hD2
            have hm : y ∈ (z :: (List.range n).map (cand z)).filter (fun y => !decide (y ∈ zs)) := by
              rw [hf]
              exact List.mem_cons_self ..
            obtain ⟨hm1, hm2⟩ := List.mem_filter.mp hm
            have hnew : y ∉ zs := by
              intro hin
              rw [decide_eq_true hin] at hm2
              cases hm2
            have okY : nameS y = true := by
              rcases List.mem_cons.mp hm1 with rfl | hm1
              · exact hz
              · obtain ⟨j, hj, rfl⟩ := List.mem_map.mp hm1
                exact cand_name hz (by rw [List.mem_range] at hj; omega)
            have hp7 : L p = some _ := s7 _ _ hp6
            walk_at "w"
            refine w_ixL hD2 (show atI ((y :: r).map V.str) ((0 : Nat) : Int) = some (.str y) from atI_nat rfl) ?_
            walk_at "w"
            refine w_append hp7 (by rw [List.length_map]; omega) fun J e8 h8 => ?_
            walk_at "w"
            refine ⟨zs ++ [y], _, _, _, _, _, rfl, ?_, by rw [List.length_append, hlz]; rfl, ?_, fun u hu => ?_, (((hb.same s56).same s7).keep e8 npa.symm), ?_⟩
            · rw [h8, List.map_append]
              rfl
            · rw [List.nodup_append]
              exact ⟨nd, List.pairwise_singleton .., fun a ha b hb e => hnew (by rw [← List.mem_singleton.mp hb, ← e]; exact ha)⟩
            · rcases List.mem_append.mp hu with hu | hu
              · exact ok u hu
              · rw [List.mem_singleton.mp hu]
                exact okY
            · exact ((e0.trans (.same s56)).trans (.same s7)).put np e8
    · rintro σ M ⟨zs, o3, o4, o5, o6, o7, rfl, hp, hl, nd, ok, hb, e0⟩
      walk_at "w"
      exact q p zs M np (by omega) nd ok hp e0 hb
end

end RT
set_option Elab.async false
set_option linter.all false
set_option maxRecDepth 100000
set_option maxHeartbeats 4000000
namespace RT
open PySem PySem.Spec PyProof.Rows L2
local macro_rules | `(tactic| walk_at "w0") => `(tactic| dsimp only [L2.start, cxOf, Cx.nox, Cx.wish, List.map, List.length_cons, List.length_nil, List.replicate_succ, List.replicate_zero, List.cons_append, List.nil_append, Nat.reduceAdd, Nat.reduceSub, List.set_cons_zero, List.set_cons_succ])
local macro_rules | `(tactic| walk_at "w1") => `(tactic| first
  | with_reducible refine w_seq ?_
  | with_reducible refine w_asg ?_
  | with_reducible refine w_var rfl ?_
  | with_reducible refine w_c ?_
  | with_reducible refine w_op ?_
  | with_reducible refine w_cons ?_
  | with_reducible refine w_nil ?_
  | with_reducible refine w_gname ?_
  | with_reducible refine w_cb ?_
  | with_reducible refine w_I0 ?_
  | with_reducible refine w_bl ?_
  | ((with_reducible refine' w_ixL ?s0 ?s1 ?q); (case s0 => assumption); (case s1 => rfl))
  | ((with_reducible refine' w_ixT ?s0 ?s1 ?q); (case s0 => assumption); (case s1 => rfl))
  | with_reducible refine w_gsub ?_
  | with_reducible refine w_ifS ?_
  | with_reducible refine w_test ?_
  | with_reducible refine w_call ?_
  | with_reducible refine w_ret ?_
  | with_reducible refine w_int1 ?_
  | with_reducible refine w_int ?_
  | with_reducible refine w_next ?_
  | with_reducible refine w_drop ?_
  | ((with_reducible refine' w_mod ?s0 ?q); (case s0 => omega))
  | ((with_reducible refine' w_div ?s0 ?q); (case s0 => omega))
  | ((with_reducible refine' w_mul ?s0 ?q); (case s0 => omega))
  | ((with_reducible refine' w_pow ?s0 ?q); (case s0 => decide))
  | with_reducible refine w_B ?_
  | with_reducible refine w_and ?_
  | with_reducible refine w_or ?_
  | with_reducible refine w_not ?_
  | with_reducible refine w_T ?_
  | with_reducible refine w_F ?_
  | with_reducible refine w_nT ?_
  | with_reducible refine w_nF ?_
  | with_reducible refine w_un ?_
  | with_reducible refine w_U ?_
  | with_reducible refine w_if ?_
  | with_reducible refine w_lst ?_
  | with_reducible refine w_tup ?_
  | with_reducible refine w_sl ?_
  | with_reducible refine w_part ?_
  | with_reducible refine w_nopart ?_
  | with_reducible refine w_eqI ?_
  | with_reducible refine w_neI ?_
  | with_reducible refine w_eqS ?_
  | with_reducible refine w_neS ?_
  | with_reducible refine w_abs ?_
  | with_reducible refine w_max2 ?_
  | with_reducible refine w_min2 ?_
  | ((with_reducible refine' w_lenL ?s0 ?q); (case s0 => assumption))
  | ((with_reducible refine' w_lenH ?s0 ?q); (case s0 => assumption))
  | ((with_reducible refine' w_lenT ?s0 ?q); (case s0 => assumption))
  | ((with_reducible refine' w_lenS ?s0 ?q); (case s0 => first | assumption | omega | decide +kernel))
  | with_reducible refine w_inC ?_
  | with_reducible refine w_ninC ?_
  | with_reducible refine w_m1 ?_
  | with_reducible refine w_m0 ?_
  | with_reducible refine w_isstr ?_
  | with_reducible refine w_andV ?_
  | with_reducible refine w_orV ?_
  | with_reducible refine w_notV ?_
  | with_reducible refine w_chain ?_
  | with_reducible refine w_retN ?_
  | with_reducible refine w_break ?_
  | with_reducible refine w_cont ?_
  | with_reducible refine w_yes ?_
  | with_reducible refine w_for ?_
  | with_reducible refine w_lc ?_
  | with_reducible refine w_iList ?_
  | with_reducible refine w_iTup ?_
  | with_reducible refine w_iStr ?_
  | with_reducible refine w_iR1 ?_
  | with_reducible refine w_iR2 ?_
  | ((with_reducible refine' w_onL ?s0 ?q); (case s0 => assumption))
  | ((with_reducible refine' w_onQ ?s0 ?q); (case s0 => assumption))
  | ((with_reducible refine' w_onT ?s0 ?q); (case s0 => assumption))
  | ((with_reducible refine' w_onU ?s0 ?q); (case s0 => assumption))
  | with_reducible refine w_onS ?_
  | ((with_reducible refine' w_onR1 ?s0 ?q); (case s0 => omega))
  | ((with_reducible refine' w_onR2 ?s0 ?q); (case s0 => omega))
  | with_reducible refine w_revL ?_
  | ((with_reducible refine' w_all ?s0 ?q); (case s0 => assumption))
  | ((with_reducible refine' w_any ?s0 ?q); (case s0 => assumption))
  | with_reducible refine w_bm ?_
  | with_reducible refine w_bm0 ?_
  | ((with_reducible refine' w_islst ?s0 ?q); (case s0 => assumption))
  | with_reducible refine w_kw ?_
  | ((with_reducible refine' w_isi ?s0 ?s1 ?q); (case s0 => assumption); (case s1 => assumption))
  | ((with_reducible refine' w_addS ?s0 ?q); (case s0 => first | omega | decide +kernel))
  | with_reducible refine w_dnew ?_
  | with_reducible refine w_pnil ?_
  | with_reducible refine w_pcons ?_
  | ((with_reducible refine' w_slS ?s0 ?q); (case s0 => first | assumption | omega))
  | ((with_reducible refine' w_inLS ?s0 ?q); (case s0 => assumption))
  | ((with_reducible refine' w_ninLS ?s0 ?q); (case s0 => assumption))
  | ((with_reducible refine' w_inTS ?s0 ?q); (case s0 => assumption))
  | with_reducible refine w_par ?_
  | with_reducible refine w_parEnd ?_
  | with_reducible refine w_par3 ?_
  | with_reducible refine w_parEnd3 ?_
  | ((with_reducible refine' w_upper ?s0 ?q); (case s0 => first | assumption | omega | decide +kernel))
  | dsimp only [wipe, List.set_cons_zero, List.set_cons_succ])
local macro_rules | `(tactic| walk_at "w") => `(tactic| repeat walk_at "w1")
/-! ### things that may be links -/
/-- pairs, their parts, other things -/
def LThing (H : Hp) (v : V) : Prop := (∃ z, v = .str z ∧ z.length ≤ 1000) ∨ ((v = .non ∨ (∃ b, v = .bl b) ∨ ∃ i, v = .int i) ∨ ∃ b, v = .ref b ∧ ((∃ xs, H b = some (.lst xs)) ∨ (∃ xs, H b = some (.tup xs) ∧ ∀ x ∈ xs, Thing H x) ∨ ∃ kvs, H b = some (.dK kvs)))
theorem LThing.keep {H J : Hp} {v : V} {a : Addr} (h : LThing H v) (e : Ext a H J) (la : ∃ ys, J a = some (.lst ys)) (lh : ∃ ys, H a = some (.lst ys)) : LThing J v := by
  rcases h with h | h | ⟨b, rfl, h⟩
  · exact .inl h
  · exact .inr (.inl h)
  · refine .inr (.inr ⟨b, rfl, ?_⟩)
    by_cases z : b = a
    · subst z
      exact .inl la
    · rcases h with ⟨xs, h⟩ | ⟨xs, h, hx⟩ | ⟨xs, h⟩
      · exact .inl ⟨xs, e b _ z h⟩
      · exact .inr (.inl ⟨xs, e b _ z h, fun x hm => (hx x hm).keep e la lh⟩)
      · exact .inr (.inr ⟨xs, e b _ z h⟩)
theorem LThing.same {H J : Hp} {v : V} (h : LThing H v) (e : Same H J) : LThing J v := by
  rcases h with h | h | ⟨b, rfl, h⟩
  · exact .inl h
  · exact .inr (.inl h)
  · refine .inr (.inr ⟨b, rfl, ?_⟩)
    rcases h with ⟨xs, h⟩ | ⟨xs, h, hx⟩ | ⟨xs, h⟩
    · exact .inl ⟨xs, e b _ h⟩
    · exact .inr (.inl ⟨xs, e b _ h, fun x hm => (hx x hm).same e⟩)
    · exact .inr (.inr ⟨xs, e b _ h⟩)
theorem LThing.thing {H : Hp} {v : V} (h : LThing H v) : Thing H v := by
  rcases h with h | h | ⟨b, rfl, h | ⟨xs, h, _⟩ | h⟩
  · exact .inl h
  · exact .inr (.inl h)
  · exact .inr (.inr ⟨b, rfl, .inl h⟩)
  · exact .inr (.inr ⟨b, rfl, .inr (.inl ⟨xs, h⟩)⟩)
  · exact .inr (.inr ⟨b, rfl, .inr (.inr h)⟩)
theorem LThing.tupOf {H : Hp} {p : Addr} {xs : List V} (h : H p = some (.tup xs)) (hx : ∀ x ∈ xs, Thing H x) : LThing H (.ref p) := .inr (.inr ⟨p, rfl, .inr (.inl ⟨xs, h, hx⟩)⟩)
theorem LThing.lstOf {H : Hp} {p : Addr} {xs : List V} (h : H p = some (.lst xs)) : LThing H (.ref p) := .inr (.inr ⟨p, rfl, .inl ⟨xs, h⟩⟩)
theorem Thing.tupOf {H : Hp} {p : Addr} {xs : List V} (h : H p = some (.tup xs)) : Thing H (.ref p) := .inr (.inr ⟨p, rfl, .inr (.inl ⟨xs, h⟩)⟩)
/-- the names at p -/
def Names (H : Hp) (p : Addr) (zs : List Str) : Prop := H p = some (.lst (zs.map V.str)) ∧ (∀ z ∈ zs, nameS z = true)
def spSide : Sp := fun vs H Q _ => ∃ (a p : Addr) (zs : List Str), vs = [.ref a, .ref p] ∧ p ≠ a ∧ Names H p zs ∧ 0 < zs.length ∧ zs.length ≤ 10 ∧ Bag H a ∧ ∀ (v : V) (J : Hp), LThing J v → Ext a H J → Bag J a → Q v J
abbrev s__law_side : Stmt := topS 13
theorem sc__law_side : FnScope ["bag", "names", "way", "name", "menu"] ["bag", "names"] (defScope s__law_side) := ⟨rfl, rfl, rfl, by decide +kernel, rfl, by decide +kernel, by decide +kernel⟩
abbrev s__law_thing : Stmt := topS 14
theorem sc__law_thing : FnScope ["bag", "names", "one", "two", "way", "menu"] ["bag", "names"] (defScope s__law_thing) := ⟨rfl, rfl, rfl, by decide +kernel, rfl, by decide +kernel, by decide +kernel⟩
section
variable {P : Program} {w : World} {K : PySem.W.Frag} {mg : Str → Option Value} {base : Heap}
theorem ok__law_side {f : Addr} {fd : FuncData} (F : Fun K "_law_side" "_law_side" s__law_side f fd) (T : Txt K mg) (c__law_draw : Cal P w K mg base 1 "_law_draw" spDraw) : FnOk P w K mg base CX0 2 f fd ["bag", "names"] spSide := by
  refine F.ok sc__law_side (fun vs H Q E h => ?_) (fun cdv A outer s H vs Q E hr h => ?_)
  · obtain ⟨a, p, zs, rfl, _⟩ := h
    rfl
  · obtain ⟨a, p, zs, rfl, npa, ⟨hp, ok⟩, z0, z10, hb, q⟩ := h
    refine ⟨_, (pss_cons (ps_par (i := 2) (j := 3) (by rfl) sc__law_side.nd rfl rfl (by decide) rfl rfl (pa_cons (pe_c c__law_draw hr (by decide) (by rfl) (pa_cons (pv 0) (pa_cons pe_int pa_nil))) (pa_cons (pe_ix (k_ixL (K := K)) (pv 1) (pe_c c__law_draw hr (by decide) (by rfl) (pa_cons (pv 0) (pa_cons (pe_callB (k_lenQ (K := K)) (by rfl) T.z_len (by decide +kernel) (pa_cons (pv 1) pa_nil)) pa_nil))) (fun _ _ => rfl)) pa_nil)) (by rfl))
  (pss_cons (ps_if (pt_cmpR op_gt (pv 2) pe_int (nomark _))
    (pss_one (ps_ret (pv 3)))
    pss_nil)
  (pss_cons (ps_set (i := 4) sc__law_side.nd rfl (by first | exact Or.inl rfl | exact Or.inr rfl) (pe_lst (pa_cons pe_non (pa_cons pe_bl (pa_cons pe_int (pa_cons pe_str (pa_cons (pe_op o_addS (pv 3) pe_str) (pa_cons (p_upper (pv 3)) (pa_cons (pe_op o_addS pe_str (pv 3)) pa_nil)))))))))
  (pss_cons (ps_set (i := 4) sc__law_side.nd rfl (by first | exact Or.inl rfl | exact Or.inr rfl) (pe_op op_cat (pv 4) (pe_lst (pa_cons (pe_op o_addS (pv 3) pe_str) (pa_cons (pe_tup (pa_cons (pv 3) pa_nil)) (pa_cons (pe_lst (pa_cons (pv 3) pa_nil)) (pa_cons (pe_disp (pps_cons (pv 3) pe_int pps_nil) (by rfl) (by rfl) (fun z => by cases z) (by decide)) (pa_cons (pe_op o_mulS (pv 3) pe_int) pa_nil))))))))
  (pss_one (ps_ret (pe_ix (k_ixL (K := K)) (pv 4) (pe_c c__law_draw hr (by decide) (by rfl) (pa_cons (pv 0) (pa_cons pe_int pa_nil))) (fun _ _ => rfl)))))))), ?_⟩
    walk_at "w0"
    walk_at "w"
    refine w_draw (by decide) (by decide) hb fun d J d0 d1 e1 b1 => ?_
    have hp1 : J p = some _ := e1 p _ npa hp
    walk_at "w"
    refine w_draw (by rw [List.length_map]; omega) (by rw [List.length_map]; omega) b1 fun d2 J2 d20 d21 e2 b2 => ?_
    obtain ⟨z, hz, okz, _⟩ := pick_str ok d20 d21 (by rw [List.length_map])
    have hl := name_len okz
    refine w_ixL (e2 p _ npa hp1) hz ?_
    walk_at "w"
    have e12 := e1.trans e2
    refine w_dec (fun _ => ?_) (fun _ => ?_)
    · walk_at "w"
      exact q _ _ (.inl ⟨z, rfl, by omega⟩) e12 b2
    · walk_at "w"
      refine w_addS (by show _ + 1 ≤ _; omega) ?_
      walk_at "w"
      refine w_addS (by show 1 + _ ≤ _; omega) ?_
      walk_at "w"
      refine w_newL rfl fun p1 L1 n1 s1 h1 => ?_
      walk_at "w"
      refine w_addS (by show _ + 1 ≤ _; omega) ?_
      walk_at "w"
      refine w_newT rfl fun p2 L2 n2 s2 h2 => ?_
      walk_at "w"
      refine w_newL rfl fun p3 L3 n3 s3 h3 => ?_
      walk_at "w"
      refine w_disp fun p4 L4 n4 s4 h4 => ?_
      walk_at "w"
      refine w_dEnd [(Sum.inr z, .int 0)] h4 rfl (Nat.le_of_ble_eq_true rfl) fun L5 s5 h5 => ?_
      walk_at "w"
      refine w_mulS ⟨by omega, by omega⟩ (by decide) ?_
      walk_at "w"
      refine w_newL rfl fun p6 L6 n6 s6 h6 => ?_
      have s35 : Same L3 L5 := Same.ofExt s4 n4 s5
      have s15 : Same L1 L5 := (s2.trans s3).trans s35
      refine w_cat (s15.trans s6 _ _ h1) h6 (Nat.le_of_ble_eq_true rfl) fun p7 L7 n7 s7 h7 => ?_
      walk_at "w"
      have b7 : Bag L7 a := (((b2.same s1).same s15).same s6).same s7
      refine w_draw (by decide) (by decide) b7 fun d8 J8 d80 d81 e8 b8 => ?_
      have n7a : p7 ≠ a := (((b2.same s1).same s15).same s6).ne n7
      have e18 : Ext a H J8 := (e12.trans (.same (((s1.trans s15).trans s6).trans s7))).trans e8
      have all : ∀ v ∈ ([V.non, V.bl true, V.int 0, V.str (Str.ofString ""), V.str (z ++ Str.ofString " "), V.str (Txt.upper z), V.str (Str.ofString "7" ++ z)] ++ [V.str (z ++ Str.ofString "-"), V.ref p2, V.ref p3, V.ref p4, V.str (repS z 9)] : List V), LThing L7 v := by
        intro v hv
        have sv : ∀ y : Str, y.length ≤ 1000 → LThing L7 (.str y) := fun y hy => .inl ⟨y, rfl, hy⟩
        have u2 : L7 p2 = some _ := ((s3.trans s35).trans s6).trans s7 _ _ h2
        simp only [List.mem_append, List.mem_cons, List.not_mem_nil, or_false] at hv
        rcases hv with (rfl | rfl | rfl | rfl | rfl | rfl | rfl) | (rfl | rfl | rfl | rfl | rfl)
        · exact .inr (.inl (.inl rfl))
        · exact .inr (.inl (.inr (.inl ⟨_, rfl⟩)))
        · exact .inr (.inl (.inr (.inr ⟨_, rfl⟩)))
        · exact sv _ (by decide)
        · exact sv _ (by rw [len_add]; show _ + 1 ≤ _; omega)
        · exact sv _ (by have := PyProof.Rows.len_upper z; omega)
        · exact sv _ (by rw [len_add]; show 1 + _ ≤ _; omega)
        · exact sv _ (by rw [len_add]; show _ + 1 ≤ _; omega)
        · exact .inr (.inr ⟨p2, rfl, .inr (.inl ⟨_, u2, fun x hx => .inl ⟨z, List.mem_singleton.mp hx, by omega⟩⟩)⟩)
        · exact .inr (.inr ⟨p3, rfl, .inl ⟨_, (s35.trans s6).trans s7 _ _ h3⟩⟩)
        · exact .inr (.inr ⟨p4, rfl, .inr (.inr ⟨_, s6.trans s7 _ _ h5⟩)⟩)
        · exact sv _ (by rw [repS_len]; show 9 * _ ≤ _; omega)
      obtain ⟨v, hv, hm⟩ := at_in (xs := [V.non, V.bl true, V.int 0, V.str (Str.ofString ""), V.str (z ++ Str.ofString " "), V.str (Txt.upper z), V.str (Str.ofString "7" ++ z)] ++ [V.str (z ++ Str.ofString "-"), V.ref p2, V.ref p3, V.ref p4, V.str (repS z 9)]) d80 d81
      refine w_ixL (e8 p7 _ n7a h7) hv ?_
      exact q _ _ ((all v hm).keep e8 b8.lst b7.lst) e18 b8
theorem ok__law_thing {f : Addr} {fd : FuncData} (F : Fun K "_law_thing" "_law_thing" s__law_thing f fd) (T : Txt K mg) (c__law_draw : Cal P w K mg base 1 "_law_draw" spDraw) (c__law_side : Cal P w K mg base 2 "_law_side" spSide) : FnOk P w K mg base CX0 3 f fd ["bag", "names"] spSide := by
  refine F.ok sc__law_thing (fun vs H Q E h => ?_) (fun cdv A outer s H vs Q E hr h => ?_)
  · obtain ⟨a, p, zs, rfl, _⟩ := h
    rfl
  · obtain ⟨a, p, zs, rfl, npa, ⟨hp, ok⟩, z0, z10, hb, q⟩ := h
    refine ⟨_, (pss_cons (ps_par3 (i := 2) (j := 3) (l := 4) (by rfl) sc__law_thing.nd rfl rfl rfl (by decide) (by decide) (by decide) rfl rfl rfl (pa_cons (pe_c c__law_side hr (by decide) (by rfl) (pa_cons (pv 0) (pa_cons (pv 1) pa_nil))) (pa_cons (pe_c c__law_side hr (by decide) (by rfl) (pa_cons (pv 0) (pa_cons (pv 1) pa_nil))) (pa_cons (pe_c c__law_draw hr (by decide) (by rfl) (pa_cons (pv 0) (pa_cons pe_int pa_nil))) pa_nil))) (by rfl))
  (pss_cons (ps_if (pt_cmpR op_lt (pv 4) pe_int (nomark _))
    (pss_one (ps_ret (pe_tup (pa_cons (pv 2) (pa_cons (pv 3) pa_nil)))))
    pss_nil)
  (pss_cons (ps_if (pt_cmpR op_eq (pv 4) pe_int (nomark _))
    (pss_one (ps_ret (pe_tup (pa_cons (pv 2) (pa_cons (pv 2) pa_nil)))))
    pss_nil)
  (pss_cons (ps_set (i := 5) sc__law_thing.nd rfl (by first | exact Or.inl rfl | exact Or.inr rfl) (pe_lst (pa_cons (pe_lst (pa_cons (pv 2) (pa_cons (pv 3) pa_nil))) (pa_cons (pe_tup (pa_cons (pv 2) pa_nil)) (pa_cons (pe_tup (pa_cons (pv 2) (pa_cons (pv 3) (pa_cons (pv 2) pa_nil)))) (pa_cons (pv 2) (pa_cons (pe_tup (pa_cons (pe_tup (pa_cons (pv 2) (pa_cons (pv 3) pa_nil))) pa_nil)) pa_nil)))))))
  (pss_cons (ps_set (i := 5) sc__law_thing.nd rfl (by first | exact Or.inl rfl | exact Or.inr rfl) (pe_op op_cat (pv 5) (pe_lst (pa_cons (pe_tup (pa_cons (pv 2) (pa_cons (pe_tup (pa_cons (pv 3) pa_nil)) pa_nil))) (pa_cons (pe_tup pa_nil) (pa_cons pe_non (pa_cons pe_str (pa_cons (pe_lst (pa_cons (pe_tup (pa_cons (pv 2) (pa_cons (pv 3) pa_nil))) pa_nil)) pa_nil))))))))
  (pss_one (ps_ret (pe_ix (k_ixL (K := K)) (pv 5) (pe_c c__law_draw hr (by decide) (by rfl) (pa_cons (pv 0) (pa_cons pe_int pa_nil))) (fun _ _ => rfl))))))))), ?_⟩
    walk_at "w0"
    walk_at "w"
    refine ⟨a, p, zs, rfl, npa, ⟨hp, ok⟩, z0, z10, hb, fun v J hv e1 b1 => ?_⟩
    walk_at "w"
    refine ⟨a, p, zs, rfl, npa, ⟨e1 p _ npa hp, ok⟩, z0, z10, b1, fun u J2 hu e2 b2 => ?_⟩
    walk_at "w"
    refine w_draw (by decide) (by decide) b2 fun d J3 d0 d1 e3 b3 => ?_
    have hv3 : Thing J3 v := ((hv.thing.keep e2 b2.lst b1.lst).keep e3 b3.lst b2.lst)
    have hu3 : Thing J3 u := hu.thing.keep e3 b3.lst b2.lst
    have e13 := (e1.trans e2).trans e3
    walk_at "w"
    refine w_dec (fun _ => ?_) (fun _ => ?_)
    · walk_at "w"
      refine w_newT rfl fun p1 L1 n1 s1 h1 => ?_
      refine q _ _ (LThing.tupOf h1 ?_) (e13.trans (.same s1)) (b3.same s1)
      intro x hx
      simp only [List.mem_cons, List.not_mem_nil, or_false] at hx
      rcases hx with rfl | rfl
      · exact hv3.same s1
      · exact hu3.same s1
    · walk_at "w"
      refine w_dec (fun _ => ?_) (fun _ => ?_)
      · walk_at "w"
        refine w_newT rfl fun p1 L1 n1 s1 h1 => ?_
        refine q _ _ (LThing.tupOf h1 ?_) (e13.trans (.same s1)) (b3.same s1)
        intro x hx
        simp only [List.mem_cons, List.not_mem_nil, or_false] at hx
        rcases hx with rfl | rfl
        · exact hv3.same s1
        · exact hv3.same s1
      · walk_at "w"
        refine w_newL rfl fun p1 L1 n1 s1 h1 => ?_
        walk_at "w"
        refine w_newT rfl fun p2 L2 n2 s2 h2 => ?_
        walk_at "w"
        refine w_newT rfl fun p3 L3 n3 s3 h3 => ?_
        walk_at "w"
        refine w_newT rfl fun p4 L4 n4 s4 h4 => ?_
        walk_at "w"
        refine w_newT rfl fun p5 L5 n5 s5 h5 => ?_
        walk_at "w"
        refine w_newL rfl fun p6 L6 n6 s6 h6 => ?_
        walk_at "w"
        refine w_newT rfl fun p7 L7 n7 s7 h7 => ?_
        walk_at "w"
        refine w_newT rfl fun p8 L8 n8 s8 h8 => ?_
        walk_at "w"
        refine w_newT rfl fun p9 L9 n9 s9 h9 => ?_
        walk_at "w"
        refine w_newT rfl fun p10 L10 n10 s10 h10 => ?_
        walk_at "w"
        refine w_newL rfl fun p11 L11 n11 s11 h11 => ?_
        walk_at "w"
        refine w_newL rfl fun p12 L12 n12 s12 h12 => ?_
        walk_at "w"
        have s611 : Same L6 L11 := (((s7.trans s8).trans s9).trans s10).trans s11
        refine w_cat ((s611.trans s12) _ _ h6) h12 (Nat.le_of_ble_eq_true rfl) fun p13 L13 n13 s13 h13 => ?_
        walk_at "w"
        have s16 : Same L1 L6 := (((s2.trans s3).trans s4).trans s5).trans s6
        have s613 : Same L6 L13 := (s611.trans s12).trans s13
        have sall : Same J3 L13 := (s1.trans s16).trans s613
        have b13 : Bag L13 a := b3.same sall
        refine w_draw (by decide) (by decide) b13 fun d8 J8 d80 d81 e8 b8 => ?_
        have n13a : p13 ≠ a := (b3.same ((s1.trans s16).trans (s611.trans s12))).ne n13
        have hvE : LThing J8 v := ((((hv.keep e2 b2.lst b1.lst).keep e3 b3.lst b2.lst).same sall).keep e8 b8.lst b13.lst)
        have hv13 : Thing L13 v := hv3.same sall
        have hu13 : Thing L13 u := hu3.same sall
        have all : ∀ x ∈ ([V.ref p1, V.ref p2, V.ref p3, v, V.ref p5] ++ [V.ref p8, V.ref p9, V.non, V.str (Str.ofString "ab"), V.ref p11] : List V), LThing L13 x := by
          intro x hx
          simp only [List.mem_append, List.mem_cons, List.not_mem_nil, or_false] at hx
          rcases hx with (rfl | rfl | rfl | rfl | rfl) | (rfl | rfl | rfl | rfl | rfl)
          · exact .lstOf ((s16.trans s613) _ _ h1)
          · exact .tupOf (((((s3.trans s4).trans s5).trans s6).trans s613) _ _ h2) (fun x hx => by rw [List.mem_singleton.mp hx]; exact hv13)
          · refine .tupOf ((((s4.trans s5).trans s6).trans s613) _ _ h3) fun x hx => ?_
            simp only [List.mem_cons, List.not_mem_nil, or_false] at hx
            rcases hx with rfl | rfl | rfl
            · exact hv13
            · exact hu13
            · exact hv13
          · exact ((hv.keep e2 b2.lst b1.lst).keep e3 b3.lst b2.lst).same sall
          · exact .tupOf ((s6.trans s613) _ _ h5) (fun x hx => by rw [List.mem_singleton.mp hx]; exact .tupOf (((s5.trans s6).trans s613) _ _ h4))
          · refine .tupOf ((((s9.trans s10).trans s11).trans s12).trans s13 _ _ h8) fun x hx => ?_
            simp only [List.mem_cons, List.not_mem_nil, or_false] at hx
            rcases hx with rfl | rfl
            · exact hv13
            · exact .tupOf (((((s8.trans s9).trans s10).trans s11).trans s12).trans s13 _ _ h7)
          · exact .tupOf (((s10.trans s11).trans s12).trans s13 _ _ h9) (fun x hx => by cases hx)
          · exact .inr (.inl (.inl rfl))
          · exact .inl ⟨_, rfl, by decide⟩
          · exact .lstOf ((s12.trans s13) _ _ h11)
        obtain ⟨x, hx, hm⟩ := at_in (xs := ([V.ref p1, V.ref p2, V.ref p3, v, V.ref p5] ++ [V.ref p8, V.ref p9, V.non, V.str (Str.ofString "ab"), V.ref p11] : List V)) d80 d81
        refine w_ixL (e8 p13 _ n13a h13) hx ?_
        exact q _ _ ((all x hm).keep e8 b8.lst b13.lst) ((e13.trans (.same sall)).trans e8) b8
end

end RT
set_option Elab.async false
set_option linter.all false
set_option maxRecDepth 100000
set_option maxHeartbeats 4000000
namespace RT
open PySem PySem.Spec PyProof.Rows L2
local macro_rules | `(tactic| walk_at "w0") => `(tactic| dsimp only [L2.start, cxOf, Cx.nox, Cx.wish, List.map, List.length_cons, List.length_nil, List.replicate_succ, List.replicate_zero, List.cons_append, List.nil_append, Nat.reduceAdd, Nat.reduceSub, List.set_cons_zero, List.set_cons_succ])
local macro_rules | `(tactic| walk_at "w1") => `(tactic| first
  | with_reducible refine w_seq ?_
  | with_reducible refine w_asg ?_
  | with_reducible refine w_var rfl ?_
  | with_reducible refine w_c ?_
  | with_reducible refine w_op ?_
  | with_reducible refine w_cons ?_
  | with_reducible refine w_nil ?_
  | with_reducible refine w_gname ?_
  | with_reducible refine w_cb ?_
  | with_reducible refine w_I0 ?_
  | with_reducible refine w_bl ?_
  | ((with_reducible refine' w_ixL ?s0 ?s1 ?q); (case s0 => assumption); (case s1 => rfl))
  | ((with_reducible refine' w_ixT ?s0 ?s1 ?q); (case s0 => assumption); (case s1 => rfl))
  | with_reducible refine w_gsub ?_
  | with_reducible refine w_ifS ?_
  | with_reducible refine w_test ?_
  | with_reducible refine w_call ?_
  | with_reducible refine w_ret ?_
  | with_reducible refine w_int1 ?_
  | with_reducible refine w_int ?_
  | with_reducible refine w_next ?_
  | with_reducible refine w_drop ?_
  | ((with_reducible refine' w_mod ?s0 ?q); (case s0 => omega))
  | ((with_reducible refine' w_div ?s0 ?q); (case s0 => omega))
  | ((with_reducible refine' w_mul ?s0 ?q); (case s0 => omega))
  | ((with_reducible refine' w_pow ?s0 ?q); (case s0 => decide))
  | with_reducible refine w_B ?_
  | with_reducible refine w_and ?_
  | with_reducible refine w_or ?_
  | with_reducible refine w_not ?_
  | with_reducible refine w_T ?_
  | with_reducible refine w_F ?_
  | with_reducible refine w_nT ?_
  | with_reducible refine w_nF ?_
  | with_reducible refine w_un ?_
  | with_reducible refine w_U ?_
  | with_reducible refine w_if ?_
  | with_reducible refine w_lst ?_
  | with_reducible refine w_tup ?_
  | with_reducible refine w_sl ?_
  | with_reducible refine w_part ?_
  | with_reducible refine w_nopart ?_
  | with_reducible refine w_eqI ?_
  | with_reducible refine w_neI ?_
  | with_reducible refine w_eqS ?_
  | with_reducible refine w_neS ?_
  | with_reducible refine w_abs ?_
  | with_reducible refine w_max2 ?_
  | with_reducible refine w_min2 ?_
  | ((with_reducible refine' w_lenL ?s0 ?q); (case s0 => assumption))
  | ((with_reducible refine' w_lenH ?s0 ?q); (case s0 => assumption))
  | ((with_reducible refine' w_lenT ?s0 ?q); (case s0 => assumption))
  | ((with_reducible refine' w_lenS ?s0 ?q); (case s0 => first | assumption | omega | decide +kernel))
  | with_reducible refine w_inC ?_
  | with_reducible refine w_ninC ?_
  | with_reducible refine w_m1 ?_
  | with_reducible refine w_m0 ?_
  | with_reducible refine w_isstr ?_
  | with_reducible refine w_andV ?_
  | with_reducible refine w_orV ?_
  | with_reducible refine w_notV ?_
  | with_reducible refine w_chain ?_
  | with_reducible refine w_retN ?_
  | with_reducible refine w_break ?_
  | with_reducible refine w_cont ?_
  | with_reducible refine w_yes ?_
  | with_reducible refine w_for ?_
  | with_reducible refine w_lc ?_
  | with_reducible refine w_iList ?_
  | with_reducible refine w_iTup ?_
  | with_reducible refine w_iStr ?_
  | with_reducible refine w_iR1 ?_
  | with_reducible refine w_iR2 ?_
  | ((with_reducible refine' w_onL ?s0 ?q); (case s0 => assumption))
  | ((with_reducible refine' w_onQ ?s0 ?q); (case s0 => assumption))
  | ((with_reducible refine' w_onT ?s0 ?q); (case s0 => assumption))
  | ((with_reducible refine' w_onU ?s0 ?q); (case s0 => assumption))
  | with_reducible refine w_onS ?_
  | ((with_reducible refine' w_onR1 ?s0 ?q); (case s0 => omega))
  | ((with_reducible refine' w_onR2 ?s0 ?q); (case s0 => omega))
  | with_reducible refine w_revL ?_
  | ((with_reducible refine' w_all ?s0 ?q); (case s0 => assumption))
  | ((with_reducible refine' w_any ?s0 ?q); (case s0 => assumption))
  | with_reducible refine w_bm ?_
  | with_reducible refine w_bm0 ?_
  | ((with_reducible refine' w_islst ?s0 ?q); (case s0 => assumption))
  | with_reducible refine w_kw ?_
  | ((with_reducible refine' w_isi ?s0 ?s1 ?q); (case s0 => assumption); (case s1 => assumption))
  | ((with_reducible refine' w_addS ?s0 ?q); (case s0 => first | omega | decide +kernel))
  | with_reducible refine w_dnew ?_
  | with_reducible refine w_pnil ?_
  | with_reducible refine w_pcons ?_
  | ((with_reducible refine' w_slS ?s0 ?q); (case s0 => first | assumption | omega))
  | ((with_reducible refine' w_inLS ?s0 ?q); (case s0 => assumption))
  | ((with_reducible refine' w_ninLS ?s0 ?q); (case s0 => assumption))
  | ((with_reducible refine' w_inTS ?s0 ?q); (case s0 => assumption))
  | with_reducible refine w_par ?_
  | with_reducible refine w_parEnd ?_
  | with_reducible refine w_par3 ?_
  | with_reducible refine w_parEnd3 ?_
  | ((with_reducible refine' w_upper ?s0 ?q); (case s0 => first | assumption | omega | decide +kernel))
  | dsimp only [wipe, List.set_cons_zero, List.set_cons_succ])
local macro_rules | `(tactic| walk_at "w") => `(tactic| repeat walk_at "w1")
/-! ### links -/
def linkX : List V → Bool
  | [.str x, .str y] => nameS x && nameS y && decide (x ≠ y)
  | _ => false
theorem linkX_len {xs : List V} (h : xs.length ≠ 2) : linkX xs = false := by
  unfold linkX
  split
  · exact absurd rfl h
  · rfl
theorem linkX_of {x y : V} : linkX [x, y] = (nameV x && (nameV y && match x, y with | .str a, .str b => decide (a ≠ b) | _, _ => false)) := by
  cases x <;> cases y <;> simp only [linkX, nameV, Bool.false_and, Bool.and_false, Bool.and_assoc]
/-- what may be asked -/
def LAsk (K : PySem.W.Frag) (H : Hp) (v : V) (b : Bool) : Prop := (b = false ∧ ∃ t, TyX K H v t ∧ PySem.W.kitOne K t (.type "tuple") = some false) ∨ ∃ p xs, v = .ref p ∧ H p = some (.tup xs) ∧ (∀ x ∈ xs, Thing H x) ∧ b = linkX xs
def spLink (K : PySem.W.Frag) : Sp := fun vs H Q _ => ∃ v b, vs = [v] ∧ LAsk K H v b ∧ ∀ J, Same H J → Q (.bl b) J
theorem ask_link {K : PySem.W.Frag} {H : Hp} {v : V} (h : LThing H v) : ∃ b, LAsk K H v b := by
  rcases h with ⟨z, rfl, hz⟩ | h | ⟨b, rfl, h⟩
  · exact ⟨false, .inl ⟨rfl, _, .base (.str z), kit_ty (by decide +kernel)⟩⟩
  · rcases h with rfl | ⟨b, rfl⟩ | ⟨i, rfl⟩
    · exact ⟨false, .inl ⟨rfl, _, .base .non, kit_ty (by decide +kernel)⟩⟩
    · exact ⟨false, .inl ⟨rfl, _, .base (.bl b), kit_ty (by decide +kernel)⟩⟩
    · exact ⟨false, .inl ⟨rfl, _, .base (.int i), kit_ty (by decide +kernel)⟩⟩
  · rcases h with ⟨xs, h⟩ | ⟨xs, h, hx⟩ | ⟨xs, h⟩
    · exact ⟨false, .inl ⟨rfl, _, .base (.lst h), kit_ty (by decide +kernel)⟩⟩
    · exact ⟨_, .inr ⟨b, xs, rfl, h, hx, rfl⟩⟩
    · exact ⟨false, .inl ⟨rfl, _, .base (.dK h), kit_ty (by decide +kernel)⟩⟩
theorem nameV_str {v : V} (h : nameV v = true) : ∃ x, v = .str x := by
  cases v with
  | str x => exact ⟨x, rfl⟩
  | _ => exact absurd h Bool.false_ne_true
theorem ty_same {K : PySem.W.Frag} {H J : Hp} {v : V} {t : Value} (h : TyX K H v t) (s : Same H J) : TyX K J v t := by
  cases h with
  | base h =>
    cases h with
    | non => exact .base .non
    | bl x => exact .base (.bl x)
    | int x => exact .base (.int x)
    | str x => exact .base (.str x)
    | flt x => exact .base (.flt x)
    | lst e => exact .base (.lst (s _ _ e))
    | frz e => exact .base (.frz (s _ _ e))
    | tup e => exact .base (.tup (s _ _ e))
    | dK e => exact .base (.dK (s _ _ e))
    | dT e => exact .base (.dT (s _ _ e))
    | ins e cl ha hn htk hm => exact .base (.ins (s _ _ e) cl ha hn htk hm)
  | byt b => exact .byt b
  | set e => exact .set (s _ _ e)
  | kList e c => exact .kList e c
  | kTuple e c => exact .kTuple e c
  | kDict e c => exact .kDict e c
  | fTuple e => exact .fTuple (s _ _ e)
  | fDict e => exact .fDict (s _ _ e)
theorem ask_lsame {K : PySem.W.Frag} {H J : Hp} {v : V} {b : Bool} (h : LAsk K H v b) (s : Same H J) : LAsk K J v b := by
  rcases h with ⟨rfl, u, ty, kt⟩ | ⟨p, xs, rfl, h, hx, hb⟩
  · exact .inl ⟨rfl, u, ty_same ty s, kt⟩
  · exact .inr ⟨p, xs, rfl, s _ _ h, fun x hm => (hx x hm).same s, hb⟩
theorem thing_strs {H : Hp} {zs : List Str} (h : zs.all (fun z => decide (z.length ≤ 1000)) = true) : ∀ x ∈ zs.map V.str, Thing H x := by
  intro x hx
  obtain ⟨z, hz, rfl⟩ := List.mem_map.mp hx
  exact .inl ⟨z, rfl, of_decide_eq_true (List.all_eq_true.mp h z hz)⟩

end RT
set_option Elab.async false
set_option linter.all false
set_option maxRecDepth 100000
set_option maxHeartbeats 4000000
namespace RT
open PySem PySem.Spec PyProof.Rows L2
local macro_rules | `(tactic| walk_at "w0") => `(tactic| dsimp only [L2.start, cxOf, Cx.nox, Cx.wish, List.map, List.length_cons, List.length_nil, List.replicate_succ, List.replicate_zero, List.cons_append, List.nil_append, Nat.reduceAdd, Nat.reduceSub, List.set_cons_zero, List.set_cons_succ])
local macro_rules | `(tactic| walk_at "w1") => `(tactic| first
  | with_reducible refine w_seq ?_
  | with_reducible refine w_asg ?_
  | with_reducible refine w_var rfl ?_
  | with_reducible refine w_c ?_
  | with_reducible refine w_op ?_
  | with_reducible refine w_cons ?_
  | with_reducible refine w_nil ?_
  | with_reducible refine w_gname ?_
  | with_reducible refine w_cb ?_
  | with_reducible refine w_I0 ?_
  | with_reducible refine w_bl ?_
  | ((with_reducible refine' w_ixL ?s0 ?s1 ?q); (case s0 => assumption); (case s1 => rfl))
  | ((with_reducible refine' w_ixT ?s0 ?s1 ?q); (case s0 => assumption); (case s1 => rfl))
  | with_reducible refine w_gsub ?_
  | with_reducible refine w_ifS ?_
  | with_reducible refine w_test ?_
  | with_reducible refine w_call ?_
  | with_reducible refine w_ret ?_
  | with_reducible refine w_int1 ?_
  | with_reducible refine w_int ?_
  | with_reducible refine w_next ?_
  | with_reducible refine w_drop ?_
  | ((with_reducible refine' w_mod ?s0 ?q); (case s0 => omega))
  | ((with_reducible refine' w_div ?s0 ?q); (case s0 => omega))
  | ((with_reducible refine' w_mul ?s0 ?q); (case s0 => omega))
  | ((with_reducible refine' w_pow ?s0 ?q); (case s0 => decide))
  | with_reducible refine w_B ?_
  | with_reducible refine w_and ?_
  | with_reducible refine w_or ?_
  | with_reducible refine w_not ?_
  | with_reducible refine w_T ?_
  | with_reducible refine w_F ?_
  | with_reducible refine w_nT ?_
  | with_reducible refine w_nF ?_
  | with_reducible refine w_un ?_
  | with_reducible refine w_U ?_
  | with_reducible refine w_if ?_
  | with_reducible refine w_lst ?_
  | with_reducible refine w_tup ?_
  | with_reducible refine w_sl ?_
  | with_reducible refine w_part ?_
  | with_reducible refine w_nopart ?_
  | with_reducible refine w_eqI ?_
  | with_reducible refine w_neI ?_
  | with_reducible refine w_eqS ?_
  | with_reducible refine w_neS ?_
  | with_reducible refine w_abs ?_
  | with_reducible refine w_max2 ?_
  | with_reducible refine w_min2 ?_
  | ((with_reducible refine' w_lenL ?s0 ?q); (case s0 => assumption))
  | ((with_reducible refine' w_lenH ?s0 ?q); (case s0 => assumption))
  | ((with_reducible refine' w_lenT ?s0 ?q); (case s0 => assumption))
  | ((with_reducible refine' w_lenS ?s0 ?q); (case s0 => first | assumption | omega | decide +kernel))
  | with_reducible refine w_inC ?_
  | with_reducible refine w_ninC ?_
  | with_reducible refine w_m1 ?_
  | with_reducible refine w_m0 ?_
  | with_reducible refine w_isstr ?_
  | with_reducible refine w_andV ?_
  | with_reducible refine w_orV ?_
  | with_reducible refine w_notV ?_
  | with_reducible refine w_chain ?_
  | with_reducible refine w_retN ?_
  | with_reducible refine w_break ?_
  | with_reducible refine w_cont ?_
  | with_reducible refine w_yes ?_
  | with_reducible refine w_for ?_
  | with_reducible refine w_lc ?_
  | with_reducible refine w_iList ?_
  | with_reducible refine w_iTup ?_
  | with_reducible refine w_iStr ?_
  | with_reducible refine w_iR1 ?_
  | with_reducible refine w_iR2 ?_
  | ((with_reducible refine' w_onL ?s0 ?q); (case s0 => assumption))
  | ((with_reducible refine' w_onQ ?s0 ?q); (case s0 => assumption))
  | ((with_reducible refine' w_onT ?s0 ?q); (case s0 => assumption))
  | ((with_reducible refine' w_onU ?s0 ?q); (case s0 => assumption))
  | with_reducible refine w_onS ?_
  | ((with_reducible refine' w_onR1 ?s0 ?q); (case s0 => omega))
  | ((with_reducible refine' w_onR2 ?s0 ?q); (case s0 => omega))
  | with_reducible refine w_revL ?_
  | ((with_reducible refine' w_all ?s0 ?q); (case s0 => assumption))
  | ((with_reducible refine' w_any ?s0 ?q); (case s0 => assumption))
  | with_reducible refine w_bm ?_
  | with_reducible refine w_bm0 ?_
  | ((with_reducible refine' w_islst ?s0 ?q); (case s0 => assumption))
  | with_reducible refine w_kw ?_
  | ((with_reducible refine' w_isi ?s0 ?s1 ?q); (case s0 => assumption); (case s1 => assumption))
  | ((with_reducible refine' w_addS ?s0 ?q); (case s0 => first | omega | decide +kernel))
  | with_reducible refine w_dnew ?_
  | with_reducible refine w_pnil ?_
  | with_reducible refine w_pcons ?_
  | ((with_reducible refine' w_slS ?s0 ?q); (case s0 => first | assumption | omega))
  | ((with_reducible refine' w_inLS ?s0 ?q); (case s0 => assumption))
  | ((with_reducible refine' w_ninLS ?s0 ?q); (case s0 => assumption))
  | ((with_reducible refine' w_inTS ?s0 ?q); (case s0 => assumption))
  | with_reducible refine w_par ?_
  | with_reducible refine w_parEnd ?_
  | with_reducible refine w_par3 ?_
  | with_reducible refine w_parEnd3 ?_
  | ((with_reducible refine' w_upper ?s0 ?q); (case s0 => first | assumption | omega | decide +kernel))
  | dsimp only [wipe, List.set_cons_zero, List.set_cons_succ])
local macro_rules | `(tactic| walk_at "w") => `(tactic| repeat walk_at "w1")
abbrev s_is_link : Stmt := topS 5
theorem sc_is_link : FnScope ["value"] ["value"] (defScope s_is_link) := ⟨rfl, rfl, rfl, by decide +kernel, rfl, by decide +kernel, by decide +kernel⟩
section
variable {P : Program} {w : World} {K : PySem.W.Frag} {mg : Str → Option Value} {base : Heap}
theorem ok_is_link {f : Addr} {fd : FuncData} (F : Fun K "is_link" "is_link" s_is_link f fd) (T : Txt K mg) (c_is_name : Cal P w K mg base 1 "is_name" (spName K)) : FnOk P w K mg base CX0 2 f fd ["value"] (spLink K) := by
  refine F.ok sc_is_link (fun vs H Q E h => ?_) (fun cdv A outer s H vs Q E hr h => ?_)
  · obtain ⟨v, b, rfl, _⟩ := h
    rfl
  · obtain ⟨v, b, rfl, hv, q⟩ := h
    refine ⟨_, (pss_cons (ps_if (PW.pt (pw_or (pt_not (pt_val (pe_callB (k_isi (K := K)) (by rfl) T.z_isinstance (by decide +kernel) (pa_cons (pv 0) (pa_cons (pe_bltn (v := .ty "tuple") (u := .type "tuple") (by rfl) T.z_tuple (by decide +kernel) rfl) pa_nil))))) (pw_or1 (pt_cmpR op_ne (pe_callB (k_lenQ (K := K)) (by rfl) T.z_len (by decide +kernel) (pa_cons (pv 0) pa_nil)) pe_int (nomark _)))))
    (pss_one (ps_ret pe_bl))
    pss_nil)
  (pss_one (ps_ret (pe_and (pe_c c_is_name hr (by decide) (by rfl) (pa_cons (pe_ix (k_ixT (K := K)) (pv 0) pe_int (fun _ _ => rfl)) pa_nil)) (pe_and (pe_c c_is_name hr (by decide) (by rfl) (pa_cons (pe_ix (k_ixT (K := K)) (pv 0) pe_int (fun _ _ => rfl)) pa_nil)) (pe_one (pe_cmpR op_ne (pe_ix (k_ixT (K := K)) (pv 0) pe_int (fun _ _ => rfl)) (pe_ix (k_ixT (K := K)) (pv 0) pe_int (fun _ _ => rfl)) (nomark _)))))))), ?_⟩
    walk_at "w0"
    rcases hv with ⟨rfl, t, ty, kt⟩ | ⟨p, xs, rfl, hp, hx, rfl⟩
    · walk_at "w"
      exact q H (Same.refl H)
    · walk_at "w"
      refine w_isi (.base (.tup hp)) (kit_ty (b := "tuple") (r := true) (by decide +kernel)) ?_
      walk_at "w"
      refine w_ndec (fun h0 => ?_) (fun h0 => ?_)
      · walk_at "w"
        have e : linkX xs = false := linkX_len (by omega)
        have q1 := q H (Same.refl H)
        rw [e] at q1
        exact q1
      · walk_at "w"
        obtain ⟨x, y, rfl⟩ : ∃ x y, xs = [x, y] := by
          match xs, h0 with
          | [x, y], _ => exact ⟨x, y, rfl⟩
        rw [linkX_of] at q
        refine w_ixT hp rfl ?_
        walk_at "w"
        refine ⟨x, rfl, ask_thing (hx x List.mem_cons_self), fun J s1 => ?_⟩
        walk_at "w"
        refine w_bool (fun h1 => ?_) (fun h1 => ?_)
        · rw [h1] at q
          walk_at "w"
          refine w_ixT (s1 _ _ hp) rfl ?_
          walk_at "w"
          refine ⟨y, rfl, ask_thing ((hx y (List.mem_cons_of_mem _ List.mem_cons_self)).same s1), fun J2 s2 => ?_⟩
          walk_at "w"
          refine w_bool (fun h2 => ?_) (fun h2 => ?_)
          · rw [h2] at q
            walk_at "w"
            refine w_ixT ((s1.trans s2) _ _ hp) rfl ?_
            walk_at "w"
            refine w_ixT ((s1.trans s2) _ _ hp) rfl ?_
            walk_at "w"
            obtain ⟨a, rfl⟩ := nameV_str h1
            obtain ⟨b, rfl⟩ := nameV_str h2
            refine w_neS ?_
            have q1 := q J2 (s1.trans s2)
            rw [show (true && (true && decide (a ≠ b))) = !decide (a = b) by by_cases z : a = b <;> simp [z]] at q1
            exact q1
          · rw [h2] at q
            walk_at "w"
            exact q J2 (s1.trans s2)
        · rw [h1] at q
          walk_at "w"
          exact q J s1
end

end RT
set_option Elab.async false
set_option linter.all false
set_option maxRecDepth 100000
set_option maxHeartbeats 4000000
namespace RT
open PySem PySem.Spec PyProof.Rows L2
local macro_rules | `(tactic| walk_at "w0") => `(tactic| dsimp only [L2.start, cxOf, Cx.nox, Cx.wish, List.map, List.length_cons, List.length_nil, List.replicate_succ, List.replicate_zero, List.cons_append, List.nil_append, Nat.reduceAdd, Nat.reduceSub, List.set_cons_zero, List.set_cons_succ])
local macro_rules | `(tactic| walk_at "w1") => `(tactic| first
  | with_reducible refine w_seq ?_
  | with_reducible refine w_asg ?_
  | with_reducible refine w_var rfl ?_
  | with_reducible refine w_c ?_
  | with_reducible refine w_op ?_
  | with_reducible refine w_cons ?_
  | with_reducible refine w_nil ?_
  | with_reducible refine w_gname ?_
  | with_reducible refine w_cb ?_
  | with_reducible refine w_I0 ?_
  | with_reducible refine w_bl ?_
  | ((with_reducible refine' w_ixL ?s0 ?s1 ?q); (case s0 => assumption); (case s1 => rfl))
  | ((with_reducible refine' w_ixT ?s0 ?s1 ?q); (case s0 => assumption); (case s1 => rfl))
  | with_reducible refine w_gsub ?_
  | with_reducible refine w_ifS ?_
  | with_reducible refine w_test ?_
  | with_reducible refine w_call ?_
  | with_reducible refine w_ret ?_
  | with_reducible refine w_int1 ?_
  | with_reducible refine w_int ?_
  | with_reducible refine w_next ?_
  | with_reducible refine w_drop ?_
  | ((with_reducible refine' w_mod ?s0 ?q); (case s0 => omega))
  | ((with_reducible refine' w_div ?s0 ?q); (case s0 => omega))
  | ((with_reducible refine' w_mul ?s0 ?q); (case s0 => omega))
  | ((with_reducible refine' w_pow ?s0 ?q); (case s0 => decide))
  | with_reducible refine w_B ?_
  | with_reducible refine w_and ?_
  | with_reducible refine w_or ?_
  | with_reducible refine w_not ?_
  | with_reducible refine w_T ?_
  | with_reducible refine w_F ?_
  | with_reducible refine w_nT ?_
  | with_reducible refine w_nF ?_
  | with_reducible refine w_un ?_
  | with_reducible refine w_U ?_
  | with_reducible refine w_if ?_
  | with_reducible refine w_lst ?_
  | with_reducible refine w_tup ?_
  | with_reducible refine w_sl ?_
  | with_reducible refine w_part ?_
  | with_reducible refine w_nopart ?_
  | with_reducible refine w_eqI ?_
  | with_reducible refine w_neI ?_
  | with_reducible refine w_eqS ?_
  | with_reducible refine w_neS ?_
  | with_reducible refine w_abs ?_
  | with_reducible refine w_max2 ?_
  | with_reducible refine w_min2 ?_
  | ((with_reducible refine' w_lenL ?s0 ?q); (case s0 => assumption))
  | ((with_reducible refine' w_lenH ?s0 ?q); (case s0 => assumption))
  | ((with_reducible refine' w_lenT ?s0 ?q); (case s0 => assumption))
  | ((with_reducible refine' w_lenS ?s0 ?q); (case s0 => first | assumption | omega | decide +kernel))
  | with_reducible refine w_inC ?_
  | with_reducible refine w_ninC ?_
  | with_reducible refine w_m1 ?_
  | with_reducible refine w_m0 ?_
  | with_reducible refine w_isstr ?_
  | with_reducible refine w_andV ?_
  | with_reducible refine w_orV ?_
  | with_reducible refine w_notV ?_
  | with_reducible refine w_chain ?_
  | with_reducible refine w_retN ?_
  | with_reducible refine w_break ?_
  | with_reducible refine w_cont ?_
  | with_reducible refine w_yes ?_
  | with_reducible refine w_for ?_
  | with_reducible refine w_lc ?_
  | with_reducible refine w_iList ?_
  | with_reducible refine w_iTup ?_
  | with_reducible refine w_iStr ?_
  | with_reducible refine w_iR1 ?_
  | with_reducible refine w_iR2 ?_
  | ((with_reducible refine' w_onL ?s0 ?q); (case s0 => assumption))
  | ((with_reducible refine' w_onQ ?s0 ?q); (case s0 => assumption))
  | ((with_reducible refine' w_onT ?s0 ?q); (case s0 => assumption))
  | ((with_reducible refine' w_onU ?s0 ?q); (case s0 => assumption))
  | with_reducible refine w_onS ?_
  | ((with_reducible refine' w_onR1 ?s0 ?q); (case s0 => omega))
  | ((with_reducible refine' w_onR2 ?s0 ?q); (case s0 => omega))
  | with_reducible refine w_revL ?_
  | ((with_reducible refine' w_all ?s0 ?q); (case s0 => assumption))
  | ((with_reducible refine' w_any ?s0 ?q); (case s0 => assumption))
  | with_reducible refine w_bm ?_
  | with_reducible refine w_bm0 ?_
  | ((with_reducible refine' w_islst ?s0 ?q); (case s0 => assumption))
  | with_reducible refine w_kw ?_
  | ((with_reducible refine' w_isi ?s0 ?s1 ?q); (case s0 => assumption); (case s1 => assumption))
  | ((with_reducible refine' w_addS ?s0 ?q); (case s0 => first | omega | decide +kernel))
  | with_reducible refine w_dnew ?_
  | with_reducible refine w_pnil ?_
  | with_reducible refine w_pcons ?_
  | ((with_reducible refine' w_slS ?s0 ?q); (case s0 => first | assumption | omega))
  | ((with_reducible refine' w_inLS ?s0 ?q); (case s0 => assumption))
  | ((with_reducible refine' w_ninLS ?s0 ?q); (case s0 => assumption))
  | ((with_reducible refine' w_inTS ?s0 ?q); (case s0 => assumption))
  | with_reducible refine w_par ?_
  | with_reducible refine w_parEnd ?_
  | with_reducible refine w_par3 ?_
  | with_reducible refine w_parEnd3 ?_
  | ((with_reducible refine' w_upper ?s0 ?q); (case s0 => first | assumption | omega | decide +kernel))
  | dsimp only [wipe, List.set_cons_zero, List.set_cons_succ])
local macro_rules | `(tactic| walk_at "w") => `(tactic| repeat walk_at "w1")
abbrev s__law_due : Stmt := topS 15
theorem sc__law_due : FnScope ["thing"] ["thing"] (defScope s__law_due) := ⟨rfl, rfl, rfl, by decide +kernel, rfl, by decide +kernel, by decide +kernel⟩
section
variable {P : Program} {w : World} {K : PySem.W.Frag} {mg : Str → Option Value} {base : Heap}
theorem ok__law_due {f : Addr} {fd : FuncData} (F : Fun K "_law_due" "_law_due" s__law_due f fd) (T : Txt K mg) (c__law_is_name : Cal P w K mg base 1 "_law_is_name" (spName K)) : FnOk P w K mg base CX0 2 f fd ["thing"] (spLink K) := by
  refine F.ok sc__law_due (fun vs H Q E h => ?_) (fun cdv A outer s H vs Q E hr h => ?_)
  · obtain ⟨v, b, rfl, _⟩ := h
    rfl
  · obtain ⟨v, b, rfl, hv, q⟩ := h
    refine ⟨_, (pss_cons (ps_if (PW.pt (pw_or (pt_not (pt_val (pe_callB (k_isi (K := K)) (by rfl) T.z_isinstance (by decide +kernel) (pa_cons (pv 0) (pa_cons (pe_bltn (v := .ty "tuple") (u := .type "tuple") (by rfl) T.z_tuple (by decide +kernel) rfl) pa_nil))))) (pw_or1 (pt_cmpR op_ne (pe_callB (k_lenQ (K := K)) (by rfl) T.z_len (by decide +kernel) (pa_cons (pv 0) pa_nil)) pe_int (nomark _)))))
    (pss_one (ps_ret pe_bl))
    pss_nil)
  (pss_one (ps_ret (pe_and (pe_c c__law_is_name hr (by decide) (by rfl) (pa_cons (pe_ix (k_ixT (K := K)) (pv 0) pe_int (fun _ _ => rfl)) pa_nil)) (pe_and (pe_c c__law_is_name hr (by decide) (by rfl) (pa_cons (pe_ix (k_ixT (K := K)) (pv 0) pe_int (fun _ _ => rfl)) pa_nil)) (pe_one (pe_cmpR op_ne (pe_ix (k_ixT (K := K)) (pv 0) pe_int (fun _ _ => rfl)) (pe_ix (k_ixT (K := K)) (pv 0) pe_int (fun _ _ => rfl)) (nomark _)))))))), ?_⟩
    walk_at "w0"
    rcases hv with ⟨rfl, t, ty, kt⟩ | ⟨p, xs, rfl, hp, hx, rfl⟩
    · walk_at "w"
      exact q H (Same.refl H)
    · walk_at "w"
      refine w_isi (.base (.tup hp)) (kit_ty (b := "tuple") (r := true) (by decide +kernel)) ?_
      walk_at "w"
      refine w_ndec (fun h0 => ?_) (fun h0 => ?_)
      · walk_at "w"
        have e : linkX xs = false := linkX_len (by omega)
        have q1 := q H (Same.refl H)
        rw [e] at q1
        exact q1
      · walk_at "w"
        obtain ⟨x, y, rfl⟩ : ∃ x y, xs = [x, y] := by
          match xs, h0 with
          | [x, y], _ => exact ⟨x, y, rfl⟩
        rw [linkX_of] at q
        refine w_ixT hp rfl ?_
        walk_at "w"
        refine ⟨x, rfl, ask_thing (hx x List.mem_cons_self), fun J s1 => ?_⟩
        walk_at "w"
        refine w_bool (fun h1 => ?_) (fun h1 => ?_)
        · rw [h1] at q
          walk_at "w"
          refine w_ixT (s1 _ _ hp) rfl ?_
          walk_at "w"
          refine ⟨y, rfl, ask_thing ((hx y (List.mem_cons_of_mem _ List.mem_cons_self)).same s1), fun J2 s2 => ?_⟩
          walk_at "w"
          refine w_bool (fun h2 => ?_) (fun h2 => ?_)
          · rw [h2] at q
            walk_at "w"
            refine w_ixT ((s1.trans s2) _ _ hp) rfl ?_
            walk_at "w"
            refine w_ixT ((s1.trans s2) _ _ hp) rfl ?_
            walk_at "w"
            obtain ⟨a, rfl⟩ := nameV_str h1
            obtain ⟨b, rfl⟩ := nameV_str h2
            refine w_neS ?_
            have q1 := q J2 (s1.trans s2)
            rw [show (true && (true && decide (a ≠ b))) = !decide (a = b) by by_cases z : a = b <;> simp [z]] at q1
            exact q1
          · rw [h2] at q
            walk_at "w"
            exact q J2 (s1.trans s2)
        · rw [h1] at q
          walk_at "w"
          exact q J s1
end

end RT
set_option Elab.async false
set_option linter.all false
set_option maxRecDepth 100000
set_option maxHeartbeats 4000000
namespace RT
open PySem PySem.Spec PyProof.Rows L2
local macro_rules | `(tactic| walk_at "w0") => `(tactic| dsimp only [L2.start, cxOf, Cx.nox, Cx.wish, List.map, List.length_cons, List.length_nil, List.replicate_succ, List.replicate_zero, List.cons_append, List.nil_append, Nat.reduceAdd, Nat.reduceSub, List.set_cons_zero, List.set_cons_succ])
local macro_rules | `(tactic| walk_at "w1") => `(tactic| first
  | with_reducible refine w_seq ?_
  | with_reducible refine w_asg ?_
  | with_reducible refine w_var rfl ?_
  | with_reducible refine w_c ?_
  | with_reducible refine w_op ?_
  | with_reducible refine w_cons ?_
  | with_reducible refine w_nil ?_
  | with_reducible refine w_gname ?_
  | with_reducible refine w_cb ?_
  | with_reducible refine w_I0 ?_
  | with_reducible refine w_bl ?_
  | ((with_reducible refine' w_ixL ?s0 ?s1 ?q); (case s0 => assumption); (case s1 => rfl))
  | ((with_reducible refine' w_ixT ?s0 ?s1 ?q); (case s0 => assumption); (case s1 => rfl))
  | with_reducible refine w_gsub ?_
  | with_reducible refine w_ifS ?_
  | with_reducible refine w_test ?_
  | with_reducible refine w_call ?_
  | with_reducible refine w_ret ?_
  | with_reducible refine w_int1 ?_
  | with_reducible refine w_int ?_
  | with_reducible refine w_next ?_
  | with_reducible refine w_drop ?_
  | ((with_reducible refine' w_mod ?s0 ?q); (case s0 => omega))
  | ((with_reducible refine' w_div ?s0 ?q); (case s0 => omega))
  | ((with_reducible refine' w_mul ?s0 ?q); (case s0 => omega))
  | ((with_reducible refine' w_pow ?s0 ?q); (case s0 => decide))
  | with_reducible refine w_B ?_
  | with_reducible refine w_and ?_
  | with_reducible refine w_or ?_
  | with_reducible refine w_not ?_
  | with_reducible refine w_T ?_
  | with_reducible refine w_F ?_
  | with_reducible refine w_nT ?_
  | with_reducible refine w_nF ?_
  | with_reducible refine w_un ?_
  | with_reducible refine w_U ?_
  | with_reducible refine w_if ?_
  | with_reducible refine w_lst ?_
  | with_reducible refine w_tup ?_
  | with_reducible refine w_sl ?_
  | with_reducible refine w_part ?_
  | with_reducible refine w_nopart ?_
  | with_reducible refine w_eqI ?_
  | with_reducible refine w_neI ?_
  | with_reducible refine w_eqS ?_
  | with_reducible refine w_neS ?_
  | with_reducible refine w_abs ?_
  | with_reducible refine w_max2 ?_
  | with_reducible refine w_min2 ?_
  | ((with_reducible refine' w_lenL ?s0 ?q); (case s0 => assumption))
  | ((with_reducible refine' w_lenH ?s0 ?q); (case s0 => assumption))
  | ((with_reducible refine' w_lenT ?s0 ?q); (case s0 => assumption))
  | ((with_reducible refine' w_lenS ?s0 ?q); (case s0 => first | assumption | omega | decide +kernel))
  | with_reducible refine w_inC ?_
  | with_reducible refine w_ninC ?_
  | with_reducible refine w_m1 ?_
  | with_reducible refine w_m0 ?_
  | with_reducible refine w_isstr ?_
  | with_reducible refine w_andV ?_
  | with_reducible refine w_orV ?_
  | with_reducible refine w_notV ?_
  | with_reducible refine w_chain ?_
  | with_reducible refine w_retN ?_
  | with_reducible refine w_break ?_
  | with_reducible refine w_cont ?_
  | with_reducible refine w_yes ?_
  | with_reducible refine w_for ?_
  | with_reducible refine w_lc ?_
  | with_reducible refine w_iList ?_
  | with_reducible refine w_iTup ?_
  | with_reducible refine w_iStr ?_
  | with_reducible refine w_iR1 ?_
  | with_reducible refine w_iR2 ?_
  | ((with_reducible refine' w_onL ?s0 ?q); (case s0 => assumption))
  | ((with_reducible refine' w_onQ ?s0 ?q); (case s0 => assumption))
  | ((with_reducible refine' w_onT ?s0 ?q); (case s0 => assumption))
  | ((with_reducible refine' w_onU ?s0 ?q); (case s0 => assumption))
  | with_reducible refine w_onS ?_
  | ((with_reducible refine' w_onR1 ?s0 ?q); (case s0 => omega))
  | ((with_reducible refine' w_onR2 ?s0 ?q); (case s0 => omega))
  | with_reducible refine w_revL ?_
  | ((with_reducible refine' w_all ?s0 ?q); (case s0 => assumption))
  | ((with_reducible refine' w_any ?s0 ?q); (case s0 => assumption))
  | with_reducible refine w_bm ?_
  | with_reducible refine w_bm0 ?_
  | ((with_reducible refine' w_islst ?s0 ?q); (case s0 => assumption))
  | with_reducible refine w_kw ?_
  | ((with_reducible refine' w_isi ?s0 ?s1 ?q); (case s0 => assumption); (case s1 => assumption))
  | ((with_reducible refine' w_addS ?s0 ?q); (case s0 => first | omega | decide +kernel))
  | with_reducible refine w_dnew ?_
  | with_reducible refine w_pnil ?_
  | with_reducible refine w_pcons ?_
  | ((with_reducible refine' w_slS ?s0 ?q); (case s0 => first | assumption | omega))
  | ((with_reducible refine' w_inLS ?s0 ?q); (case s0 => assumption))
  | ((with_reducible refine' w_ninLS ?s0 ?q); (case s0 => assumption))
  | ((with_reducible refine' w_inTS ?s0 ?q); (case s0 => assumption))
  | with_reducible refine w_par ?_
  | with_reducible refine w_parEnd ?_
  | with_reducible refine w_par3 ?_
  | with_reducible refine w_parEnd3 ?_
  | ((with_reducible refine' w_upper ?s0 ?q); (case s0 => first | assumption | omega | decide +kernel))
  | dsimp only [wipe, List.set_cons_zero, List.set_cons_succ])
local macro_rules | `(tactic| walk_at "w") => `(tactic| repeat walk_at "w1")
def spLaw (K : PySem.W.Frag) : Sp := fun vs H Q _ => ∃ (a : Addr) (ns : List Int), vs = [.ref a] ∧ SqL K H a (ns.map V.int) ∧ ns.length ≤ 63 ∧ ∀ J, Q (.bl true) J
abbrev s_law : Stmt := topS 16
theorem sc_law : FnScope ["script", "k", "bag", "names", "things", "turn", "thing", "seen"] ["script"] (defScope s_law) := ⟨rfl, rfl, rfl, by decide +kernel, rfl, by decide +kernel, by decide +kernel⟩
section
variable {P : Program} {w : World} {K : PySem.W.Frag} {mg : Str → Option Value} {base : Heap}
theorem ok_law {f : Addr} {fd : FuncData} (F : Fun K "law" "law" s_law f fd) (T : Txt K mg) (c__law_cell : Cal P w K mg base 1 "_law_cell" (spCell K)) (c__law_bag : Cal P w K mg base 1 "_law_bag" spBag) (c__law_names : Cal P w K mg base 3 "_law_names" spNames) (c__law_thing : Cal P w K mg base 3 "_law_thing" spSide) (c_is_link : Cal P w K mg base 2 "is_link" (spLink K)) (c__law_due : Cal P w K mg base 2 "_law_due" (spLink K))
    {f_is_link : Addr} {fd_is_link : FuncData} (F_is_link : FnOk P w K mg base CX0 2 f_is_link fd_is_link ["value"] (spLink K)) (g_is_link : mg "is_link" = some (.ref f_is_link)) (k_is_link : PySem.W.keepIn K (.ref f_is_link) = true) (kw_is_link : KBn K fd_is_link ["value"] 0 ["value"] (fun _ ws => ws) (fun _ zs => zs)) : FnG P w K mg base 4 f fd ["script"] (spLaw K) := by
  refine fn_calm F sc_law (fun vs H Q E h => ?_) (fun cdv A outer s H vs Q E hgd hr h => ?_)
  · obtain ⟨a, ns, rfl, _⟩ := h
    rfl
  · obtain ⟨a, ns, rfl, hS, hlen, q⟩ := h
    refine ⟨_, (pss_cons (ps_for PassesOwn.never rfl (pi_range1 rfl T.z_range (pa_cons (pe_callB (c_max2 rfl) (by rfl) T.z_max (by decide +kernel) (pa_cons pe_int (pa_cons (pe_callB (c_min2 rfl) (by rfl) T.z_min (by decide +kernel) (pa_cons (pe_callB (k_lenQ (K := K)) (by rfl) T.z_len (by decide +kernel) (pa_cons (pv 0) pa_nil)) (pa_cons pe_int pa_nil))) pa_nil))) pa_nil)) (pg_name (i := 1) sc_law.nd rfl (by first | exact Or.inl rfl | exact Or.inr rfl))
    (pss_cons (ps_set (i := 2) sc_law.nd rfl (by first | exact Or.inl rfl | exact Or.inr rfl) (pe_c c__law_bag hr (by decide) (by rfl) (pa_cons (pe_c c__law_cell hr (by decide) (by rfl) (pa_cons (pv 0) (pa_cons (pv 1) pa_nil))) pa_nil)))
  (pss_cons (ps_set (i := 3) sc_law.nd rfl (by first | exact Or.inl rfl | exact Or.inr rfl) (pe_c c__law_names hr (by decide) (by rfl) (pa_cons (pv 2) (pa_cons pe_int pa_nil))))
  (pss_cons (ps_set (i := 4) sc_law.nd rfl (by first | exact Or.inl rfl | exact Or.inr rfl) (pe_op op_cat (pe_lc (own := [("turn", 5)]) (g := (gName 5)) (tt := tYes) rfl sc_law.nd (pi_range1 rfl T.z_range (pa_cons pe_int pa_nil)) (blkOk_by (own := [("turn", 5)]) (N := ["script", "k", "bag", "names", "things", "turn", "thing", "seen"]) (sc := defScope s_law) (by decide +kernel)) (fun _ _ _ _ _ => (pg_name (i := 5) sc_law.nd rfl (Or.inl rfl))) (fun _ _ _ _ _ => pts_nil) (fun _ _ _ _ _ => (pe_c c__law_thing hr (by decide) (by rfl) (pa_cons (pv 2) (pa_cons (pv 3) pa_nil))))) (pe_lst (pa_cons (pe_tup (pa_cons (pe_ix (k_ixL (K := K)) (pv 3) pe_int (fun _ _ => rfl)) (pa_cons (pe_ix (k_ixL (K := K)) (pv 3) pe_int (fun _ _ => rfl)) pa_nil))) (pa_cons (pe_tup (pa_cons (pe_ix (k_ixL (K := K)) (pv 3) pe_int (fun _ _ => rfl)) (pa_cons (pe_ix (k_ixL (K := K)) (pv 3) pe_int (fun _ _ => rfl)) pa_nil))) pa_nil)))))
  (pss_one (ps_for PassesOwn.never rfl (k_iL (K := K) (pe_op op_cat (pv 4) (k_rev (K := K) (pv 4)))) (pg_name (i := 6) sc_law.nd rfl (by first | exact Or.inl rfl | exact Or.inr rfl))
    (pss_one (ps_if (pt_cmpR op_ne (pe_callB (k_repr (K := K) hr hgd) (by rfl) T.z_repr (by decide +kernel) (pa_cons (pe_lst (pa_cons (pe_c c_is_link hr (by decide) (by rfl) (pa_cons (pv 6) pa_nil)) (pa_cons (pe_kw0 F_is_link (hr.mono (by decide)) (by rfl) g_is_link k_is_link kw_is_link pass0 (pk_cons (pv 6) pk_nil)) pa_nil))) pa_nil)) (pe_callB (k_repr (K := K) hr hgd) (by rfl) T.z_repr (by decide +kernel) (pa_cons (pe_op op_rep (pe_lst (pa_cons (pe_c c__law_due hr (by decide) (by rfl) (pa_cons (pv 6) pa_nil)) pa_nil)) pe_int) pa_nil)) (nomark _))
    (pss_one (ps_ret pe_bl))
    pss_nil))))))))
  (pss_cons (ps_set (i := 7) sc_law.nd rfl (by first | exact Or.inl rfl | exact Or.inr rfl) (pe_lst (pa_cons (pe_c c_is_link hr (by decide) (by rfl) (pa_cons (pe_tup (pa_cons pe_str (pa_cons pe_str pa_nil))) pa_nil)) (pa_cons (pe_c c_is_link hr (by decide) (by rfl) (pa_cons (pe_tup (pa_cons pe_str (pa_cons pe_str pa_nil))) pa_nil)) (pa_cons (pe_c c_is_link hr (by decide) (by rfl) (pa_cons (pe_lst (pa_cons pe_str (pa_cons pe_str pa_nil))) pa_nil)) (pa_cons (pe_c c_is_link hr (by decide) (by rfl) (pa_cons pe_str pa_nil)) pa_nil))))))
  (pss_one (ps_ret (pe_cmpR op_eq (pe_callB (k_repr (K := K) hr hgd) (by rfl) T.z_repr (by decide +kernel) (pa_cons (pv 7) pa_nil)) pe_str (nomark _)))))), ?_⟩
    walk_at "w0"
    walk_at "w"
    refine w_loop walk_range (fun _ σ M => (∃ o1 o2 o3 o4 o5 o6 o7, σ = [some (.ref a), o1, o2, o3, o4, o5, o6, o7]) ∧ Same H M) ⟨⟨_, _, _, _, _, _, _, rfl⟩, Same.refl _⟩ (fun _ _ _ _ _ => trivial) ?_ ?_
    · rintro i x σ M0 M hi ⟨⟨o1, o2, o3, o4, o5, o6, o7, rfl⟩, s0⟩ ⟨rfl, rfl⟩
      walk_at "w"
      refine ⟨a, _, ns, rfl, by omega, by omega, s0.seq hS, fun d J s1 => ?_⟩
      walk_at "w"
      refine ⟨_, rfl, fun b J2 nb s2 hb => ?_⟩
      walk_at "w"
      refine ⟨b, 4, rfl, by decide, hb, fun p zs J3 np len4 nd ok hp e3 b3 => ?_⟩
      have hb0 : H b = none := Same.free (s0.trans s1) nb
      have npb : p ≠ b := hb.ne np
      obtain ⟨z0, z1, z2, z3, rfl⟩ : ∃ z0 z1 z2 z3, zs = [z0, z1, z2, z3] := by
        match zs, len4 with
        | [z0, z1, z2, z3], _ => exact ⟨z0, z1, z2, z3, rfl⟩
      walk_at "w"
      intro D nD
      have nDb : D ≠ b := b3.ne nD
      refine w_comp walk_range (fun i acc L => Ext b J3 L ∧ Bag L b ∧ ∀ v ∈ acc, LThing L v) nD (fun L s1 _ => ⟨.same s1, b3.same s1, fun v hv => by cases hv⟩) (fun _ _ _ _ => trivial) ?_ ?_
      · rintro i acc x L M hi hl ⟨e4, b4, all4⟩ hD ⟨rfl, rfl⟩
        walk_at "w"
        refine ⟨rfl, ?_⟩
        walk_at "w"
        refine ⟨b, p, _, rfl, npb, ⟨e4 p _ npb hp, ok⟩, by simp, by simp, b4, fun v J5 hv e5 b5 => ?_⟩
        have hD5 : J5 D = some _ := e5 D _ nDb hD
        refine w_put hD5 hl (by omega) fun Z e6 hZ => ⟨(e4.trans e5).put nD e6, b5.keep e6 nDb.symm, fun u hu => ?_⟩
        rcases List.mem_append.mp hu with hu | hu
        · exact ((all4 u hu).keep e5 b5.lst b4.lst).keep e6 ⟨_, hZ⟩ ⟨_, hD5⟩
        · rw [List.mem_singleton.mp hu]
          exact hv.keep e6 ⟨_, hZ⟩ ⟨_, hD5⟩
      · rintro acc L hl hD ⟨e4, b4, all4⟩
        walk_at "w"
        have hp4 : L p = some _ := e4 p _ npb hp
        refine w_ixL (n := 0) (v := .str z0) hp4 rfl ?_
        walk_at "w"
        refine w_newT rfl fun t1 L1 n1 s1' h1 => ?_
        walk_at "w"
        refine w_ixL (n := 2) (v := .str z2) (s1' _ _ hp4) rfl ?_
        walk_at "w"
        refine w_ixL (n := 2) (v := .str z2) (s1' _ _ hp4) rfl ?_
        walk_at "w"
        refine w_newT rfl fun t2 L2 n2 s2' h2 => ?_
        walk_at "w"
        refine w_newL rfl fun t3 L3 n3 s3' h3 => ?_
        walk_at "w"
        have s03 : Same L L3 := (s1'.trans s2').trans s3'
        have hD3 : L3 D = some _ := s03 _ _ hD
        refine w_cat hD3 h3 (by show acc.length + 2 ≤ _; omega) fun p4 J4 n4 s4 h4 => ?_
        walk_at "w"
        refine w_rev h4 fun p5 J5 n5 s5 h5 => ?_
        refine w_cat (s5 _ _ h4) h5 (by rw [List.length_reverse, List.length_append]; show acc.length + 2 + (acc.length + 2) ≤ _; omega) fun p6 J6 n6 s6 h6 => ?_
        walk_at "w"
        have all6 : ∀ v ∈ (acc ++ [V.ref t1, V.ref t2]) ++ (acc ++ [V.ref t1, V.ref t2]).reverse, LThing J6 v := by
          have one : ∀ v ∈ acc ++ [V.ref t1, V.ref t2], LThing J6 v := by
            intro v hv
            rcases List.mem_append.mp hv with hv | hv
            · exact (all4 v hv).same (((s03.trans s4).trans s5).trans s6)
            · simp only [List.mem_cons, List.not_mem_nil, or_false] at hv
              have short : ∀ z ∈ [z0, z1, z2, z3], z.length ≤ 1000 := fun z hz => by have := name_len (ok z hz); omega
              rcases hv with rfl | rfl
              · refine .tupOf (((((s2'.trans s3').trans s4).trans s5).trans s6) _ _ h1) fun x hx => ?_
                simp only [List.mem_cons, List.not_mem_nil, or_false] at hx
                rcases hx with rfl | rfl
                · exact .inl ⟨z0, rfl, short z0 (by simp)⟩
                · exact .inl ⟨z1, rfl, short z1 (by simp)⟩
              · refine .tupOf ((((s3'.trans s4).trans s5).trans s6) _ _ h2) fun x hx => ?_
                simp only [List.mem_cons, List.not_mem_nil, or_false] at hx
                rcases hx with rfl | rfl
                · exact .inl ⟨z2, rfl, short z2 (by simp)⟩
                · exact .inl ⟨z2, rfl, short z2 (by simp)⟩
          intro v hv
          rcases List.mem_append.mp hv with h | h
          · exact one v h
          · exact one v (List.mem_reverse.mp h)
        refine w_loop walk_list (fun i σ M => (∃ o6 o7, σ = [some (.ref a), some (.int (0 + _)), some (.ref b), some (.ref p), some (.ref p4), o5, o6, o7]) ∧ Same J6 M) ⟨⟨_, _, rfl⟩, Same.refl _⟩ (fun _ _ _ _ h => h.2.seq (SqL.of h6)) ?_ ?_
        · rintro j x σ L0 M hj ⟨⟨o6, o7, rfl⟩, s7⟩ ⟨rfl, hx2⟩
          have tx : LThing M x := (all6 x (List.mem_of_getElem? hx2)).same s7
          obtain ⟨r, hr1⟩ := ask_link (K := K) tx
          walk_at "w"
          refine ⟨x, r, rfl, hr1, fun J7 s8 => ?_⟩
          walk_at "w"
          refine ⟨rfl, x, r, rfl, ask_lsame hr1 s8, fun J8 s9 => ?_⟩
          walk_at "w"
          refine w_newL rfl fun p7 J9 n9 s10 h9 => ?_
          walk_at "w"
          refine w_reprB (bs := [r, r]) h9 (Nat.le_of_ble_eq_true rfl) ?_
          walk_at "w"
          refine ⟨x, r, rfl, ask_lsame hr1 ((s8.trans s9).trans s10), fun J10 s11 => ?_⟩
          walk_at "w"
          refine w_newL rfl fun p8 J11 n11 s12 h11 => ?_
          walk_at "w"
          refine w_rep h11 (by decide) (Nat.le_of_ble_eq_true rfl) fun p9 J12 n12 s13 h12 => ?_
          walk_at "w"
          refine w_reprB (bs := [r, r]) h12 (Nat.le_of_ble_eq_true rfl) ?_
          walk_at "w"
          refine w_ndec (fun h => absurd rfl h) fun _ => ?_
          walk_at "w"
          exact ⟨⟨_, _, rfl⟩, (((((s7.trans s8).trans s9).trans s10).trans s11).trans s12).trans s13⟩
        · rintro σ M ⟨⟨o6, o7, rfl⟩, s7⟩
          exact ⟨⟨_, _, _, _, _, _, _, rfl⟩, (Same.ofExt ((s0.trans s1).trans s2) hb0 (e3.trans e4)).trans ((((s03.trans s4).trans s5).trans s6).trans s7)⟩
    · rintro σ M ⟨⟨o1, o2, o3, o4, o5, o6, o7, rfl⟩, s0⟩
      walk_at "w"
      refine w_newT rfl fun p1 L1 n1 s1 h1 => ?_
      walk_at "w"
      refine ⟨_, true, rfl, .inr ⟨p1, _, rfl, h1, thing_strs (zs := [Str.ofString "a", Str.ofString "b"]) (by decide +kernel), by decide +kernel⟩, fun J1 s2 => ?_⟩
      walk_at "w"
      refine w_newT rfl fun p2 L2 n2 s3 h2 => ?_
      walk_at "w"
      refine ⟨_, false, rfl, .inr ⟨p2, _, rfl, h2, thing_strs (zs := [Str.ofString "a", Str.ofString "a"]) (by decide +kernel), by decide +kernel⟩, fun J2 s4 => ?_⟩
      walk_at "w"
      refine w_newL rfl fun p3 L3 n3 s5 h3 => ?_
      walk_at "w"
      refine ⟨_, false, rfl, .inl ⟨rfl, _, .base (.lst h3), kit_ty (by decide +kernel)⟩, fun J3 s6 => ?_⟩
      walk_at "w"
      refine ⟨_, false, rfl, .inl ⟨rfl, _, .base (.str _), kit_ty (by decide +kernel)⟩, fun J4 s7 => ?_⟩
      walk_at "w"
      refine w_newL rfl fun p4 L4 n4 s8 h4 => ?_
      walk_at "w"
      refine w_reprB (bs := [true, false, false, false]) h4 (Nat.le_of_ble_eq_true rfl) ?_
      walk_at "w"
      rw [show (PyData.list (List.map PyData.bool [true, false, false, false])).shown = Str.ofString "[True, False, False, False]" by decide +kernel, decide_eq_true rfl]
      exact q _
end

end RT
set_option Elab.async false
set_option linter.all false
set_option maxRecDepth 100000
set_option maxHeartbeats 4000000
namespace RT
open PySem PySem.Spec PyProof.Rows L2
theorem all_mk {l : PySem.W.OpenLaw} {w : World} {K : PySem.W.Frag} {mg : Str → Option Value} {fa : Addr} (hfa : mg "law" = some (.ref fa)) (T : Txt K mg)
    (d__law_cell : DefAt K mg "_law_cell" s__law_cell) (d__law_bag : DefAt K mg "_law_bag" s__law_bag) (d__law_draw : DefAt K mg "_law_draw" s__law_draw) (d__law_name : DefAt K mg "_law_name" s__law_name) (d__law_names : DefAt K mg "_law_names" s__law_names) (d__law_side : DefAt K mg "_law_side" s__law_side) (d__law_thing : DefAt K mg "_law_thing" s__law_thing) (d_is_name : DefAt K mg "is_name" s_is_name) (d_is_link : DefAt K mg "is_link" s_is_link) (d__law_is_name : DefAt K mg "_law_is_name" s__law_is_name) (d__law_due : DefAt K mg "_law_due" s__law_due) (d_law : DefAt K mg "law" s_law) :
    ∃ fd : FuncData, (∀ (s : Shared) (v : Value), BindsTo s fd ⟨[v], []⟩ [("script", v)]) ∧ ∀ base : Heap, K.In base → base.Ns mainGlobals mg → FnG l.prog w K mg base 4 fa fd ["script"] (spLaw K) := by
  obtain ⟨f__law_cell, fd__law_cell, F__law_cell, g__law_cell⟩ := d__law_cell
  obtain ⟨f__law_bag, fd__law_bag, F__law_bag, g__law_bag⟩ := d__law_bag
  obtain ⟨f__law_draw, fd__law_draw, F__law_draw, g__law_draw⟩ := d__law_draw
  obtain ⟨f__law_name, fd__law_name, F__law_name, g__law_name⟩ := d__law_name
  obtain ⟨f__law_names, fd__law_names, F__law_names, g__law_names⟩ := d__law_names
  obtain ⟨f__law_side, fd__law_side, F__law_side, g__law_side⟩ := d__law_side
  obtain ⟨f__law_thing, fd__law_thing, F__law_thing, g__law_thing⟩ := d__law_thing
  obtain ⟨f_is_name, fd_is_name, F_is_name, g_is_name⟩ := d_is_name
  obtain ⟨f_is_link, fd_is_link, F_is_link, g_is_link⟩ := d_is_link
  obtain ⟨f__law_is_name, fd__law_is_name, F__law_is_name, g__law_is_name⟩ := d__law_is_name
  obtain ⟨f__law_due, fd__law_due, F__law_due, g__law_due⟩ := d__law_due
  obtain ⟨f_law, fd_law, F_law, g_law⟩ := d_law
  have e := hfa.symm.trans g_law
  cases e
  have F0 := F_law
  obtain ⟨oc, od, kV, doc, pm, an, cdv, ct, osl, rfl, lk, hcd⟩ := F0.ex
  refine ⟨PySem.W.fnOf "law" "law" (defArgs s_law) (defBody s_law) (defScope s_law) .none kV doc pm an cdv ct, fun s v => .of_eq rfl, fun base _ _ => ?_⟩
  have o__law_cell : FnOk l.prog w K mg base CX0 1 f__law_cell fd__law_cell ["script", "k"] (spCell K) := ok__law_cell F__law_cell T
  have c__law_cell : Cal l.prog w K mg base 1 "_law_cell" (spCell K) := Cal.of F__law_cell g__law_cell (F__law_cell.binds (ps := ["script", "k"]) fun _ _ _ _ _ _ us hl => match us, hl with | [_, _], _ => rfl) o__law_cell
  have o__law_bag : FnOk l.prog w K mg base CX0 1 f__law_bag fd__law_bag ["cell"] spBag := ok__law_bag F__law_bag T
  have c__law_bag : Cal l.prog w K mg base 1 "_law_bag" spBag := Cal.of F__law_bag g__law_bag (F__law_bag.binds (ps := ["cell"]) fun _ _ _ _ _ _ us hl => match us, hl with | [_], _ => rfl) o__law_bag
  have o__law_draw : FnOk l.prog w K mg base CX0 1 f__law_draw fd__law_draw ["bag", "many"] spDraw := ok__law_draw F__law_draw T
  have c__law_draw : Cal l.prog w K mg base 1 "_law_draw" spDraw := Cal.of F__law_draw g__law_draw (F__law_draw.binds (ps := ["bag", "many"]) fun _ _ _ _ _ _ us hl => match us, hl with | [_, _], _ => rfl) o__law_draw
  have o__law_name : FnOk l.prog w K mg base CX0 2 f__law_name fd__law_name ["bag"] spName1 := ok__law_name F__law_name T c__law_draw
  have c__law_name : Cal l.prog w K mg base 2 "_law_name" spName1 := Cal.of F__law_name g__law_name (F__law_name.binds (ps := ["bag"]) fun _ _ _ _ _ _ us hl => match us, hl with | [_], _ => rfl) o__law_name
  have o__law_names : FnOk l.prog w K mg base CX0 3 f__law_names fd__law_names ["bag", "many"] spNames := ok__law_names F__law_names T c__law_draw c__law_name
  have c__law_names : Cal l.prog w K mg base 3 "_law_names" spNames := Cal.of F__law_names g__law_names (F__law_names.binds (ps := ["bag", "many"]) fun _ _ _ _ _ _ us hl => match us, hl with | [_, _], _ => rfl) o__law_names
  have o__law_side : FnOk l.prog w K mg base CX0 2 f__law_side fd__law_side ["bag", "names"] spSide := ok__law_side F__law_side T c__law_draw
  have c__law_side : Cal l.prog w K mg base 2 "_law_side" spSide := Cal.of F__law_side g__law_side (F__law_side.binds (ps := ["bag", "names"]) fun _ _ _ _ _ _ us hl => match us, hl with | [_, _], _ => rfl) o__law_side
  have o__law_thing : FnOk l.prog w K mg base CX0 3 f__law_thing fd__law_thing ["bag", "names"] spSide := ok__law_thing F__law_thing T c__law_draw c__law_side
  have c__law_thing : Cal l.prog w K mg base 3 "_law_thing" spSide := Cal.of F__law_thing g__law_thing (F__law_thing.binds (ps := ["bag", "names"]) fun _ _ _ _ _ _ us hl => match us, hl with | [_, _], _ => rfl) o__law_thing
  have o_is_name : FnOk l.prog w K mg base CX0 1 f_is_name fd_is_name ["value"] (spName K) := ok_is_name F_is_name T
  have c_is_name : Cal l.prog w K mg base 1 "is_name" (spName K) := Cal.of F_is_name g_is_name (F_is_name.binds (ps := ["value"]) fun _ _ _ _ _ _ us hl => match us, hl with | [_], _ => rfl) o_is_name
  have o_is_link : FnOk l.prog w K mg base CX0 2 f_is_link fd_is_link ["value"] (spLink K) := ok_is_link F_is_link T c_is_name
  have c_is_link : Cal l.prog w K mg base 2 "is_link" (spLink K) := Cal.of F_is_link g_is_link (F_is_link.binds (ps := ["value"]) fun _ _ _ _ _ _ us hl => match us, hl with | [_], _ => rfl) o_is_link
  have o__law_is_name : FnOk l.prog w K mg base CX0 1 f__law_is_name fd__law_is_name ["thing"] (spName K) := ok__law_is_name F__law_is_name T
  have c__law_is_name : Cal l.prog w K mg base 1 "_law_is_name" (spName K) := Cal.of F__law_is_name g__law_is_name (F__law_is_name.binds (ps := ["thing"]) fun _ _ _ _ _ _ us hl => match us, hl with | [_], _ => rfl) o__law_is_name
  have o__law_due : FnOk l.prog w K mg base CX0 2 f__law_due fd__law_due ["thing"] (spLink K) := ok__law_due F__law_due T c__law_is_name
  have c__law_due : Cal l.prog w K mg base 2 "_law_due" (spLink K) := Cal.of F__law_due g__law_due (F__law_due.binds (ps := ["thing"]) fun _ _ _ _ _ _ us hl => match us, hl with | [_], _ => rfl) o__law_due
  exact ok_law F_law T c__law_cell c__law_bag c__law_names c__law_thing c_is_link c__law_due o_is_link g_is_link F_is_link.kp (kw_one F_is_link fun _ _ _ _ _ _ _ => rfl)
end RT
open PySem PySem.W PyProof.Rows
set_option maxHeartbeats 0 in
theorem PySem.Challenge.cw_raggedtotals_k02_links_holds : PySem.Challenge.rw_raggedtotals_k02_links.Holds := by
  w_on; o_law; k_head; (case hw => w_witness2)
  k_fill
  refine RT.walk_calm (l := PySem.Challenge.rw_raggedtotals_k02_links) (n := 63) (k := 4) (x := "script") (sp := RT.spLaw) rfl (by decide) rfl ⟨rfl, by decide, by decide⟩ (fun w h Y => PySem.W.kIn_of Y) ?F (fun K H a ns hl _ hS => ⟨a, ns, rfl, hS, hl, fun _ => rfl⟩)
  case F =>
    intro w mg fa h KX G hmg
    refine' RT.all_mk hmg ⟨?z_abs, ?z_all, ?z_int, ?z_isinstance, ?z_len, ?z_max, ?z_min, ?z_range, ?z_repr, ?z_str, ?z_tuple, ?g__LETTERS, ?g__SIGNS, ?g__LONGEST⟩ ?d__law_cell ?d__law_bag ?d__law_draw ?d__law_name ?d__law_names ?d__law_side ?d__law_thing ?d_is_name ?d_is_link ?d__law_is_name ?d__law_due ?d_law
    (case z_abs => exact RT.non_at KX G (by k_is))
    (case z_all => exact RT.non_at KX G (by k_is))
    (case z_int => exact RT.non_at KX G (by k_is))
    (case z_isinstance => exact RT.non_at KX G (by k_is))
    (case z_len => exact RT.non_at KX G (by k_is))
    (case z_max => exact RT.non_at KX G (by k_is))
    (case z_min => exact RT.non_at KX G (by k_is))
    (case z_range => exact RT.non_at KX G (by k_is))
    (case z_repr => exact RT.non_at KX G (by k_is))
    (case z_str => exact RT.non_at KX G (by k_is))
    (case z_tuple => exact RT.non_at KX G (by k_is))
    (case g__LETTERS => (refine' RT.con_at KX G ?a ?r; (case a => k_is); (case r => exact ⟨_, rfl⟩)))
    (case g__SIGNS => (refine' RT.con_at KX G ?a ?r; (case a => k_is); (case r => exact ⟨_, rfl⟩)))
    (case g__LONGEST => (refine' RT.con_at KX G ?a ?r; (case a => k_is); (case r => exact ⟨_, rfl⟩)))
    (case d__law_cell => (refine' RT.def_at KX G ?a ?l ?c ?k; (case a => k_is); (case l => k_is); (case c => k_is); (case k => k_is)))
    (case d__law_bag => (refine' RT.def_at KX G ?a ?l ?c ?k; (case a => k_is); (case l => k_is); (case c => k_is); (case k => k_is)))
    (case d__law_draw => (refine' RT.def_at KX G ?a ?l ?c ?k; (case a => k_is); (case l => k_is); (case c => k_is); (case k => k_is)))
    (case d__law_name => (refine' RT.def_at KX G ?a ?l ?c ?k; (case a => k_is); (case l => k_is); (case c => k_is); (case k => k_is)))
    (case d__law_names => (refine' RT.def_at KX G ?a ?l ?c ?k; (case a => k_is); (case l => k_is); (case c => k_is); (case k => k_is)))
    (case d__law_side => (refine' RT.def_at KX G ?a ?l ?c ?k; (case a => k_is); (case l => k_is); (case c => k_is); (case k => k_is)))
    (case d__law_thing => (refine' RT.def_at KX G ?a ?l ?c ?k; (case a => k_is); (case l => k_is); (case c => k_is); (case k => k_is)))
    (case d_is_name => (refine' RT.def_at KX G ?a ?l ?c ?k; (case a => k_is); (case l => k_is); (case c => k_is); (case k => k_is)))
    (case d_is_link => (refine' RT.def_at KX G ?a ?l ?c ?k; (case a => k_is); (case l => k_is); (case c => k_is); (case k => k_is)))
    (case d__law_is_name => (refine' RT.def_at KX G ?a ?l ?c ?k; (case a => k_is); (case l => k_is); (case c => k_is); (case k => k_is)))
    (case d__law_due => (refine' RT.def_at KX G ?a ?l ?c ?k; (case a => k_is); (case l => k_is); (case c => k_is); (case k => k_is)))
    (case d_law => (refine' RT.def_at KX G ?a ?l ?c ?k; (case a => k_is); (case l => k_is); (case c => k_is); (case k => k_is)))
