import PyProof.Rows.All
import HandS.ForMost
import HandS.Defaults
import HandS.IsInst
import HandS.Style
import PyProof.ReprRoads
import HandS.Walk
import HandS.Codes
import KE.Datum
import HandS.ExcInit
import HandS.ExcIs
import HandS.ExcField
import HandS.ExcValue
import KE.KExcInit
import KE.KExcIs
import HandS.MakeKw
import HandS.DictComp
import HandS.SetFor
import PyProof.Rows.CountFlat
import HandS.Head0
import HandS.Head1
import HandS.Head2
import HandS.Head3
import HandS.HeadHook1
import HandS.HeadHook2
import PySem.Challenge.RW_raggedtotals_k52_errors_fields_and_bases
set_option Elab.async false
set_option linter.all false
set_option maxRecDepth 100000
/-! what the hand layer lacks for these laws: repr of data, a promise that holds where no repr is under way, f(k=v) without positional arguments, short forms of readings -/
namespace RT
open PySem PySem.Spec PyProof.Rows L2

/-! ### extensions of the abstract heap: all but what stands at a given place is kept -/
def Ext (p : Addr) (H J : Hp) : Prop := ∀ b o, b ≠ p → H b = some o → J b = some o
theorem Ext.same {p : Addr} {H J : Hp} (h : Same H J) : Ext p H J := fun b o _ e => h b o e
theorem Ext.refl {p : Addr} {H : Hp} : Ext p H H := fun _ _ _ e => e
theorem Ext.trans {p : Addr} {H J L : Hp} (a : Ext p H J) (b : Ext p J L) : Ext p H L := fun c o n e => b c o n (a c o n e)
theorem Ext.upd {p : Addr} {H : Hp} {o : HO} : Ext p H (upd H p o) := fun b u n e => by
  rw [upd_ne n]
  exact e
theorem same_new {H : Hp} {p : Addr} {o : HO} (h : H p = none) : Same H (upd H p o) := fun b u e => by
  rw [upd_ne (ne_of_none e h)]
  exact e
/-- a thing that is new to the first heap may change -/
theorem Same.mut {H J : Hp} {p : Addr} {o : HO} (h : Same H J) (n : H p = none) : Same H (upd J p o) := fun b u e => by
  rw [upd_ne (ne_of_none e n)]
  exact h b u e
theorem Ext.mut {p q : Addr} {H J : Hp} {o : HO} (h : Ext p H J) (n : H q = none) : Ext p H (L2.upd J q o) := fun b u nb e => by
  rw [upd_ne (ne_of_none e n)]
  exact h b u nb e
theorem Same.ofExt {p : Addr} {H J L : Hp} (a : Same H J) (n : H p = none) (b : Ext p J L) : Same H L := fun c o e => b c o (ne_of_none e n) (a c o e)

theorem Ext.put {p q : Addr} {H J L : Hp} (h : Ext p H J) (n : H q = none) (e : Ext q J L) : Ext p H L := fun b o nb z => e b o (ne_of_none z n) (h b o nb z)
theorem Ext.back {p q : Addr} {H J : Hp} {o : HO} (h : Ext p H J) (n : J q = none) (hp : H p = some o) (hj : J p ≠ none) : H q = none := by
  cases z : H q with
  | none => rfl
  | some u =>
    by_cases e : q = p
    · rw [e] at n
      exact absurd n hj
    · rw [h q u e z] at n
      cases n
/-! ### repr of data -/
def rReprD (K : PySem.W.Frag) : List V → Hp → VK → Prop := fun xs H Q => ∃ (a : Addr) (d : PyData), xs = [.ref a] ∧ Dp K H (.ref a) d ∧ PyData.showable d = true ∧ PyData.hasDict d = false ∧ PyData.depth d ≤ 60 ∧ (PyData.shown d).length ≤ sizeLine ∧ Q (.str (PyData.shown d)) H
theorem call_repr_data {X : Cx} {k : Nat} (hr : Room k X.A) (hgd : X.A.guards = some []) : CallR X (.builtin "repr") (rReprD X.K) := by
  intro pins s σ H xs us Q I rv h
  obtain ⟨a, d, rfl, hd, hs, hn, h60, hz, q⟩ := h
  obtain ⟨u, rfl, ru⟩ := vals1 rv
  obtain ⟨as, hrd⟩ := Dp.reads I d (.ref a) u hd ru
  have un := hr.units
  cases ru
  refine repr_of_reads' hrd hs (fun e => by rw [hn] at e; cases e) hgd (by omega) (fun _ _ e => e) (fun h' u tk hk => ?_) hz
  exact ⟨.str _, H, I.kept hk, ⟨_, rfl⟩, q⟩

/-! ### f(k = v), no positional argument -/
section
variable {X : Cx} {CX : CXT} {k : Nat} {f : Addr} {fd : FuncData} {ps ks : List Str} {sp : Sp} {E : XK} {x : Str} {p pos : Pos} {kws : List Keyword} {tk : TA} {g : List Value → List Value → List Value} {gV : List V → List V → List V}
def tKw (m : Nat) (sp : Sp) (gV : List V → List V → List V) (E : XK) (tk : TA) : TE := fun σ H Q => tk σ H fun zs H1 => zs.length = m ∧ sp (gV [] zs) H1 Q E
theorem pe_kw0 (F : FnOk X.prog X.w X.K X.mg X.base CX k f fd ps sp) (hr : Room k X.A) (hg : Gl X x) (hm : X.mg x = some (.ref f)) (hk : PySem.W.keepIn X.K (.ref f) = true) (hb : KBn X.K fd ps 0 ks g gV) (hx : Passes CX X E) (hkw : PK X kws tk)
    (hall : (backToKw pos (keywordEach kws X.env)).all (fun z => z.1.isSome) = true := by rfl) (hks : (backToKw pos (keywordEach kws X.env)).filterMap (fun z => z.1) = ks := by rfl) (hdb : (x == ("__debug__" : Str)) = false := by decide)
    (hpl : ((backTo pos (starEach [] X.env)).any (fun z => z.1) || (backToKw pos (keywordEach kws X.env)).any (fun z => z.1.isNone)) = false := by rfl) :
    PE X (.Call (.Name x p) [] kws pos) (tKw ks.length sp gV E tk) := by
  constructor
  intro pins s σ H Q I h
  refine wpAny_Call_Name_kw (ld_glob I hg hm (PySem.W.callWith_KW0 (h₀ := X.base) I.ok.mod.kin hk hall ?_ hpl) hdb)
  refine thn (hkw.run pos pins s σ H _ I h) fun ws s2 got => ?_
  obtain ⟨zs, H2, I2, rz, l2, q2⟩ := got
  refine ⟨I2.kIn, ?_⟩
  rw [hks]
  exact run_fnN (us := []) (vs := []) F hr hb hx I2 .nil rz rfl l2 q2
end

/-! ### promises that hold where no repr is under way -/
/-- nothing is being shown -/
abbrev Calm (A : Around) : Prop := A.guards = some []
structure FnG (P : Program) (w : World) (K : PySem.W.Frag) (mg : Str → Option Value) (base : Heap) (k : Nat) (f : Addr) (fd : FuncData) (ps : List Str) (sp : Sp) : Prop where
  len : ∀ vs H Q E, sp vs H Q E → vs.length = ps.length
  go : ∀ (A : Around) (outer : List Env) (s : Shared) (H : Hp) (args : Args) (us : List Value) (vs : List V) (Q : VK) (E : XK), Calm A → Room k A → Env0 P w K mg base A outer s H → BindsTo s fd args (ps.zip us) → Vals vs us → sp vs H Q E →
    codeAny (model P w) A (.call (.ref f) args) (CR CX0 outer P w H s Q E) s
theorem FnG.of {P : Program} {w : World} {K : PySem.W.Frag} {mg : Str → Option Value} {base : Heap} {k : Nat} {f : Addr} {fd : FuncData} {ps : List Str} {sp : Sp} (F : FnOk P w K mg base CX0 k f fd ps sp) : FnG P w K mg base k f fd ps sp :=
  ⟨F.len, fun A outer s H args us vs Q E _ hr e0 hb r h => F.run A outer s H args us vs Q E hr e0 hb r h⟩
/-- a def called by its name; its promise -/
structure CalG (P : Program) (w : World) (K : PySem.W.Frag) (mg : Str → Option Value) (base : Heap) (k : Nat) (x : Str) (sp : Sp) : Prop where
  ex : ∃ (f : Addr) (fd : FuncData) (ps : List Str), FnG P w K mg base k f fd ps sp ∧ mg x = some (.ref f) ∧ PySem.W.keepIn K (.ref f) = true ∧ Binds K fd ps []
structure Cal (P : Program) (w : World) (K : PySem.W.Frag) (mg : Str → Option Value) (base : Heap) (k : Nat) (x : Str) (sp : Sp) : Prop where
  ex : ∃ (f : Addr) (fd : FuncData) (ps : List Str), FnOk P w K mg base CX0 k f fd ps sp ∧ mg x = some (.ref f) ∧ PySem.W.keepIn K (.ref f) = true ∧ Binds K fd ps []
section
variable {X : Cx} {k j : Nat} {f : Addr} {fd : FuncData} {ps : List Str} {sp : Sp} {x : Str} {p pos : Pos} {e : Expr} {es : List Expr} {t : TA}
theorem go_fn {pins : List (Addr × Obj)} {s : Shared} {σ : L2.St} {H : Hp} {Q : VK} {us : List Value} {vs : List V} (F : FnG X.prog X.w X.K X.mg X.base k f fd ps sp) (hgd : Calm X.A) (hr : Room k X.A) (hb : Binds X.K fd ps [])
    (I : Inv X pins σ H s) (r : Vals vs us) (h : sp vs H Q E0) : wpAny (model X.prog X.w) X.A (call (.ref f) us) (EP X pins σ Q) X.xe s := by
  have hl : (us ++ []).length = ps.length := by
    rw [List.append_nil, ← r.length]
    exact F.len _ _ _ _ h
  have b := hb s us I.kIn hl
  rw [List.append_nil] at b
  refine wpAny_call (codeAny_mono (F.go X.A X.stack s H ⟨us, []⟩ us vs Q E0 hgd hr I.env0 b r h) fun r s' got => ?_)
  match r, got with
  | .error _, got => exact False.elim got
  | .ok (.ret u), got => exact I.after got
  | .ok .next, got => exact False.elim got
  | .ok .brk, got => exact False.elim got
  | .ok .cont, got => exact False.elim got
theorem pg_c (c : CalG X.prog X.w X.K X.mg X.base k x sp) (hgd : Calm X.A) (hr : Room j X.A) (hk : k ≤ j) (hg : Gl X x) (ha : PA X (e :: es) t)
    (hdb : (x == ("__debug__" : Str)) = false := by decide) (h1 : starEach (e :: es) X.env = (false, eval e X.env) :: starEach es X.env := by rfl) (h2 : (backTo pos (starEach es X.env)).any (fun z => z.1) = false := by rfl) :
    PE X (.Call (.Name x p) (e :: es) [] pos) (tCall sp [] E0 t) := by
  obtain ⟨f, fd, ps, F, hm, kp, b⟩ := c.ex
  constructor
  intro pins s σ H Q I h
  refine wpAny_Call_Name_kw (ld_glob I hg hm (PySem.W.callWith_K (h₀ := X.base) I.ok.mod.kin kp (thn (ha.run pos pins s σ H _ I h) fun us s1 got => ?_) h1 h2) hdb)
  obtain ⟨vs, H1, I1, r, q⟩ := got
  rw [List.append_nil] at q
  exact ⟨I1.kIn, go_fn F hgd (hr.mono hk) b I1 r q⟩
theorem pg_c0 (c : CalG X.prog X.w X.K X.mg X.base k x sp) (hgd : Calm X.A) (hr : Room j X.A) (hk : k ≤ j) (hg : Gl X x) (hdb : (x == ("__debug__" : Str)) = false := by decide) :
    PE X (.Call (.Name x p) [] [] pos) (tCall sp [] E0 tNil) := by
  obtain ⟨f, fd, ps, F, hm, kp, b⟩ := c.ex
  constructor
  intro pins s σ H Q I h
  exact wpAny_Call_Name_kw (ld_glob I hg hm (PySem.W.callWith_K0 I.kIn kp (go_fn (us := []) F hgd (hr.mono hk) b I .nil h)) hdb)
/-- the same of a promise that holds anywhere -/
theorem pe_c (c : Cal X.prog X.w X.K X.mg X.base k x sp) (hr : Room j X.A) (hk : k ≤ j) (hg : Gl X x) (ha : PA X (e :: es) t)
    (hdb : (x == ("__debug__" : Str)) = false := by decide) (h1 : starEach (e :: es) X.env = (false, eval e X.env) :: starEach es X.env := by rfl) (h2 : (backTo pos (starEach es X.env)).any (fun z => z.1) = false := by rfl) :
    PE X (.Call (.Name x p) (e :: es) [] pos) (tCall sp [] E0 t) := by
  obtain ⟨f, fd, ps, F, hm, kp, b⟩ := c.ex
  exact pe_call F (hr.mono hk) hg hm kp b .nil pass0 ha hdb h1 h2
theorem pe_c0 (c : Cal X.prog X.w X.K X.mg X.base k x sp) (hr : Room j X.A) (hk : k ≤ j) (hg : Gl X x) (hdb : (x == ("__debug__" : Str)) = false := by decide) :
    PE X (.Call (.Name x p) [] [] pos) (tCall sp [] E0 tNil) := by
  obtain ⟨f, fd, ps, F, hm, kp, b⟩ := c.ex
  exact pe_call0 F (hr.mono hk) hg hm kp b .nil pass0 hdb
/-- a constant of the module -/
theorem pe_gc {v : V} (hg : Gl X x) (h : ∃ u, X.mg x = some u ∧ RelV v u) (hd : (x == ("__debug__" : Str)) = false := by decide) : PE X (.Name x pos) (tC v) := by
  obtain ⟨u, hm, r⟩ := h
  exact pe_glob hg hm r hd
end
/-- the rule for such a def -/
theorem fn_calm {P : Program} {w : World} {K : PySem.W.Frag} {mg : Str → Option Value} {base : Heap} {k : Nat} {x qual : Str} {st : Stmt} {f : Addr} {fd : FuncData} {N ps : List Str} {sp : Sp} (F : Fun K x qual st f fd) (S : FnScope N ps (defScope st))
    (len : ∀ vs H Q E, sp vs H Q E → vs.length = ps.length)
    (body : ∀ (cdv : Value) (A : Around) (outer : List Env) (s : Shared) (H : Hp) (vs : List V) (Q : VK) (E : XK), Calm A → Room k (A.deeper (envOfC qual (defScope st) s.heap.objs.size f cdv)) → sp vs H Q E →
      ∃ t, PSs (cxOf CX0 P w K mg base N qual (defScope st) f cdv A outer s H E).nox (defBody st) t ∧ t { nx := fun _ J => Q .non J, rt := Q } (start N vs) H) : FnG P w K mg base (k + 1) f fd ps sp := by
  obtain ⟨oc, od, kV, doc, pm, an, cdv, ct, osl, rfl, lk, hcd⟩ := F.ex
  refine ⟨len, fun A outer s H args us vs Q E hgd hr e0 hb r hsp => ?_⟩
  have KX : K.In s.heap := e0.mod.kin.keeps fun b o z => (e0.bs b o z).1
  have lim : s.heap.NoLimit := e0.mod.nolimit.keeps fun b o z => (e0.bs b o z).1
  have hkind : ∀ y ∈ ps.zip us, (defScope st).names.lookup y.1 = some .local ∨ ((defScope st).names.lookup y.1 = some .cell ∧ ((cellsFrom (s.heap.objs.size + 1) (defScope st).names []).lookup y.1).isSome = true) := by
    intro y hy
    rcases S.par y.1 (List.of_mem_zip hy).1 with z | z
    · exact Or.inl z
    · exact Or.inr ⟨z, PySem.W.cellsFrom_some _ _ _ (Or.inl z)⟩
  refine codeAny_call_function hr.depth (KX _ _ lk) rfl S.co S.gen rfl (PySem.W.codeRec_of KX hcd) (hb _ _ _ _ (wpAny_newFunctionEnv_cells S.kind hkind fun env he s1 z => ?_))
  cases he
  refine ⟨lim.keeps z.toInCall.keep, codeAny_func ?_⟩
  obtain ⟨t, ht, hq⟩ := body cdv A outer s H vs Q E hgd (hr.deeper _) hsp
  have I := inv_start (CX := CX0) (P := P) (w := w) (mg := mg) (E := E) S hr.hd e0 (len _ _ _ _ hsp) r z
  refine wpAny_mono (ht.nox.run [] s1 (start N vs) H _ I hq) (fun fl s' got => ?_) fun e s' got => got
  match fl, got with
  | .ret u, ⟨v, σ', H', J, rv, q⟩ => exact ⟨v, H', J.os, J.bare, J.base, J.hok, rv, q⟩
  | .next, ⟨σ', H', J, q⟩ => exact ⟨.non, H', J.os, J.bare, J.base, J.hok, rfl, q⟩
  | .brk, ⟨_, _, _, q⟩ => exact False.elim q
  | .cont, ⟨_, _, _, q⟩ => exact False.elim q

/-! ### the end of a law whose own def shows data -/
theorem hid_mod {P : Program} {w : World} {K : PySem.W.Frag} {mg mb : Str → Option Value} {s : Shared} {a : Addr} {H : Hp} {vs : List Value}
    (KX : K.In s.heap) (hns : s.heap.Ns mainGlobals mg) (hb : s.heap.Ns builtinsNs mb) (hbb : ∀ x : Str, x ≠ "__name__" → mb x = bootBuiltins x) (hlim : s.heap.NoLimit) (hg : s.gens = #[])
    (ha : s.heap.get? a = some { cls := .type "list", data := .seq vs.toArray }) (hok : HOk P w H s.heap) (hA : ∀ b u, H b = some u → b = a) (hK : ∀ u, H a = some u → K.lookup a = none) :
    K.In (hidT s.heap H) ∧ (hidT s.heap H).Ns mainGlobals mg ∧ Env0 P w K mg (hidT s.heap H) callerA [] s H := by
  have dictFree : ∀ {b : Addr} {o : Obj} {es : Array DictEntry} {ep : Nat}, s.heap.get? b = some o → o.data = .dict es ep → H b = none := by
    intro b o es ep e d
    cases z : H b with
    | none => rfl
    | some u =>
      cases hA b u z
      rw [ha] at e
      cases e
      cases (show Data.seq vs.toArray 0 = Data.dict es ep from d)
  have nsK : ∀ {b : Addr} {m : Str → Option Value}, s.heap.Ns b m → (hidT s.heap H).Ns b m := by
    intro b m ⟨o, es, ep, e, d, r⟩
    exact ⟨o, es, ep, hidT_get e (dictFree e d), d, r⟩
  have hKb : K.In (hidT s.heap H) := by
    intro b o e
    refine hidT_get (KX b o e) ?_
    cases z : H b with
    | none => rfl
    | some u =>
      cases hA b u z
      rw [hK u z] at e
      cases e
  obtain ⟨mc, l1, l2⟩ := hlim
  exact ⟨hKb, nsK hns, ⟨rfl, ⟨hKb, nsK hns, ⟨mb, nsK hb, hbb⟩, ⟨mc, nsK l1, l2⟩⟩, fun b o e => of_hidT e, Nat.le_of_eq (hidT_size _ _), trivial, fun b z => (nomatch z), hok, .of_eq hg⟩⟩

theorem end_run {P : Program} {w : World} {K : PySem.W.Frag} {mg mb : Str → Option Value} {k : Nat} {fa a : Addr} {fd : FuncData} {x : Str} {sp : Sp} {s : Shared} {vs : List Value} {H : Hp}
    (KX : K.In s.heap) (hns : s.heap.Ns mainGlobals mg) (hb : s.heap.Ns builtinsNs mb) (hbb : ∀ x : Str, x ≠ "__name__" → mb x = bootBuiltins x) (hlim : s.heap.NoLimit) (hg : s.gens = #[])
    (ha : s.heap.get? a = some { cls := .type "list", data := .seq vs.toArray }) (hok : HOk P w H s.heap) (hA : ∀ b u, H b = some u → b = a) (hK : ∀ u, H a = some u → K.lookup a = none) (hO : Only H) (hr : Room k callerA)
    (F : ∀ base : Heap, K.In base → base.Ns mainGlobals mg → FnG P w K mg base k fa fd [x] sp) (bd : ∀ (s : Shared) (u : Value), BindsTo s fd ⟨[u], []⟩ [(x, u)])
    (hsp : sp [.ref a] H (fun v _ => v = .bl true) E0) :
    codeAny (model P w) callerA (.call (.ref fa) ⟨[.ref a], []⟩) (fun r s' => r = .ok (.ret (.bool true)) ∧ PySem.OldK s.heap s'.heap ∧ s'.os = s.os ∧ AllBare s'.gens) s := by
  obtain ⟨h1, h2, e0⟩ := hid_mod KX hns hb hbb hlim hg ha hok hA hK
  refine codeAny_mono ((F _ h1 h2).go callerA [] s H ⟨[.ref a], []⟩ [.ref a] [.ref a] _ _ rfl hr e0 (bd s _) (.cons rfl .nil) hsp) fun r s' got => ?_
  match r, got with
  | .error _, got => exact False.elim got
  | .ok .next, got => exact False.elim got
  | .ok .brk, got => exact False.elim got
  | .ok .cont, got => exact False.elim got
  | .ok (.ret u), got =>
    obtain ⟨v, J, os, bare, un, hokJ, rv, q⟩ := got
    cases (show v = V.bl true from q)
    cases (show u = Value.bool true from rv)
    refine ⟨rfl, PySem.OldK.of_keep fun b o e => ?_, os, bare⟩
    cases z : H b with
    | none => exact un.keep b o e z (fun y => nomatch y) (fun y => nomatch y)
    | some u =>
      rcases hO b with y | ⟨ob, xs, y⟩
      · rw [z] at y
        cases y
      · obtain ⟨e1, _⟩ := hok b _ y
        obtain ⟨e2, _⟩ := hokJ b _ (un.frzs b ob _ y)
        rw [e] at e1
        cases e1
        exact e2

/-- the goal that the head leaves, from the law's promise (shown where nothing is being shown) -/
theorem walk_calm {l : PySem.W.OpenLaw} {n k : Nat} {q : Program} {loose : List Str} {XP : (Str → Option Value) → Heap → Prop} {YP : World → Heap → Prop} {d : DefRec} {K : Params → PySem.W.Frag} {sp : PySem.W.Frag → Sp} {x : Str}
    (hn : l.most = some n) (hn2 : n ≤ sizeLine) (hdf : d.params.defaults = []) (hr : Room k callerA) (hY : ∀ (w : World) (h : Heap), YP w h → (K w.params).In h)
    (F : ∀ (w : World) (mg : Str → Option Value) (fa : Addr) (h : Heap), (K w.params).In h → h.Ns mainGlobals mg → mg d.name = some (.ref fa) →
      ∃ fd : FuncData, (∀ (s : Shared) (u : Value), BindsTo s fd ⟨[u], []⟩ [(x, u)]) ∧ ∀ base : Heap, (K w.params).In base → base.Ns mainGlobals mg → FnG l.prog w (K w.params) mg base k fa fd [x] (sp (K w.params)))
    (hsp : ∀ (K : PySem.W.Frag) (H : Hp) (a : Addr) (ns : List Int), ns.length ≤ n → Only H → SqL K H a (ns.map V.int) → sp K [.ref a] H (fun v _ => v = .bl true) E0) :
    PySem.W.WalkO q loose XP YP l.row.toRowW d [] (fun f vs => PySem.call f vs) := by
  refine Att.attach_call hn hdf fun w s0 s mg mb fa o pm cd doc a vs ns G Y ho hd hcd hmg hobj hints hlen hg => ?_
  have KX := hY w _ Y
  obtain ⟨fd, bd, hF⟩ := F w mg fa _ KX G.T.g hmg
  have rv := vals_ints hints
  have hl : ns.length ≤ sizeLine := Nat.le_trans hlen hn2
  cases hk : (K w.params).lookup a with
  | some ob =>
    have e := KX a ob hk
    rw [hobj] at e
    cases e
    refine end_run KX G.T.g G.T.b G.T.builtins G.T.nolimit hg hobj (H := fun _ => none) (fun b u z => nomatch z) (fun b u z => nomatch z) (fun u z => nomatch z) (fun _ => Or.inl rfl) hr hF bd (hsp _ _ a ns hlen (fun _ => Or.inl rfl) ?_)
    exact Or.inr ⟨_, vs.toArray, _, hk, rfl, rfl, rfl, by rw [List.size_toArray, hints.length]; exact hl, by simpa using rv⟩
  | none =>
    let ob : Obj := { cls := .type "list", data := .seq vs.toArray }
    let H : Hp := fun b => if b = a then some (.frz ob (.lst (ns.map V.int))) else none
    have at_a : H a = some (.frz ob (.lst (ns.map V.int))) := if_pos rfl
    have off : ∀ b, b ≠ a → H b = none := fun b n => if_neg n
    have hO : Only H := fun b => by
      by_cases z : b = a
      · cases z
        exact Or.inr ⟨_, _, at_a⟩
      · exact Or.inl (off b z)
    have hA : ∀ b u, H b = some u → b = a := fun b u e => by
      by_cases z : b = a
      · exact z
      · rw [off b z] at e
        cases e
    refine end_run KX G.T.g G.T.b G.T.builtins G.T.nolimit hg hobj (H := H) (fun b u e => ?_) hA (fun _ _ => hk) hO hr hF bd (hsp _ _ a ns hlen hO (Or.inl (Or.inr ⟨_, at_a⟩)))
    cases hA b u e
    rw [at_a] at e
    cases e
    exact ⟨hobj, by rw [List.length_map]; exact hl, vs, _, rv, hobj⟩
end RT
set_option Elab.async false
set_option linter.all false
set_option maxRecDepth 100000
/-! readings, one step each: what is wanted of the rest, put in front -/
namespace RT
open PySem PySem.Spec PyProof.Rows L2
theorem smallM {n : Nat} (h : n ≤ 1000000) : n < sizeLine := Nat.lt_of_le_of_lt h (by decide)
/-! ### the rules under names of their own: what is asked is kept closed -/
def qInt : List V → Hp → VK → Prop := fun xs H Q => (∃ i, xs = [.int i] ∧ Q (.int i) H) ∨ ∃ k, xs = [.bl k] ∧ Q (.int (if k then 1 else 0)) H
def qAbs : List V → Hp → VK → Prop := fun xs H Q => ∃ i, xs = [.int i] ∧ Q (.int (if i < 0 then -i else i)) H
def qMax2 : List V → Hp → VK → Prop := fun xs H Q => ∃ i j, xs = [.int i, .int j] ∧ Q (.int (if j > i then j else i)) H
def qMin2 : List V → Hp → VK → Prop := fun xs H Q => ∃ i j, xs = [.int i, .int j] ∧ Q (.int (if j < i then j else i)) H
def qLenQ (K : PySem.W.Frag) : List V → Hp → VK → Prop := fun xs H Q => ∃ p ys, xs = [.ref p] ∧ (SqL K H p ys ∨ SqT K H p ys) ∧ Q (.int ys.length) H
def qLenS : List V → Hp → VK → Prop := fun xs H Q => ∃ z, xs = [.str z] ∧ z.length ≤ sizeLine ∧ Q (.int z.length) H
def qStrI : List V → Hp → VK → Prop := fun xs H Q => ∃ i, xs = [.int i] ∧ i.natAbs.log2 < 1920 ∧ Q (.str (toString i)) H
def qList (K : PySem.W.Frag) : List V → Hp → VK → Prop := fun xs H Q => ∃ p ys, xs = [.ref p] ∧ (SqL K H p ys ∨ SqT K H p ys) ∧ ∀ l, H l = none → Q (.ref l) (upd H l (.lst ys))
def qTuple (K : PySem.W.Frag) : List V → Hp → VK → Prop := fun xs H Q => ∃ p ys, xs = [.ref p] ∧ ((SqL K H p ys ∧ ∀ l, H l = none → Q (.ref l) (upd H l (.tup ys))) ∨ (SqT K H p ys ∧ Q (.ref p) H))
def aL (xs : List V) (H : Hp) (Q : VK) : Prop := xs.length ≤ sizeLine ∧ ∀ p, H p = none → Q (.ref p) (upd H p (.lst xs))
def aT (xs : List V) (H : Hp) (Q : VK) : Prop := xs.length ≤ sizeLine ∧ ∀ p, H p = none → Q (.ref p) (upd H p (.tup xs))
def aRev (K : PySem.W.Frag) (x : V) (H : Hp) (Q : VK) : Prop := ∃ a xs, x = .ref a ∧ SqL K H a xs ∧ ∀ p, H p = none → Q (.ref p) (upd H p (.lst xs.reverse))
def oAddS : R2 := fun x y H Q => ∃ i j, x = .str i ∧ y = .str j ∧ i.length + j.length ≤ sizeLine ∧ Q (.str (i ++ j)) H
def oInC : R2 := fun x y H Q => ∃ (c : Nat) (z : Str), x = .str ⟨#[c]⟩ ∧ y = .str z ∧ Q (.bl (decide (c ∈ z.cps.toList))) H
def oNinC : R2 := fun x y H Q => ∃ (c : Nat) (z : Str), x = .str ⟨#[c]⟩ ∧ y = .str z ∧ Q (.bl (!decide (c ∈ z.cps.toList))) H
def mJoin (K : PySem.W.Frag) : V → List V → Hp → VK → Prop := fun x xs H Q => ∃ a p, ∃ ys : List Str, x = .str a ∧ xs = [.ref p] ∧ (SqL K H p (ys.map V.str) ∨ SqT K H p (ys.map V.str)) ∧ (ys.map (fun y => y.length)).sum + ys.length * a.length ≤ 16777216 ∧ Q (.str (Txt.join a ys)) H
def mUpper : V → List V → Hp → VK → Prop := fun x xs H Q => ∃ a, x = .str a ∧ xs = [] ∧ a.length ≤ 5592405 ∧ Q (.str (Txt.upper a)) H
section
variable {X : Cx} {o e : Expr} {to te : TE}
theorem c_int : CallR X (.type "int") qInt := call_int1
theorem c_abs : CallR X (.builtin "abs") qAbs := call_abs
theorem c_max2 (hc : X.calm = true) : CallR X (.builtin "max") qMax2 := call_max2 hc
theorem c_min2 (hc : X.calm = true) : CallR X (.builtin "min") qMin2 := call_min2 hc
theorem c_lenQ : CallR X (.builtin "len") (qLenQ X.K) := call_len_seq
theorem c_lenS : CallR X (.builtin "len") qLenS := call_len_str
theorem c_strI : CallR X (.type "str") qStrI := call_str_int
theorem c_list : CallR X (.type "list") (qList X.K) := call_list_of
theorem c_tuple : CallR X (.type "tuple") (qTuple X.K) := call_tuple_of
theorem o_addS : OpR X (binaryOp .Add) oAddS := op_add_str
theorem o_inC : OpR X (compareOp .In) oInC := op_in_sign
theorem o_ninC : OpR X (compareOp .NotIn) oNinC := op_notIn_sign
theorem p_join {apos pos : Pos} (ho : PE X o to) (he : PE X e te) (hs : starEach [e] X.env = [(false, eval e X.env)] := by rfl) (hb : attributeBase o "join" X.env (eval o X.env) = eval o X.env := by rfl) (hl : (apos.endLine == pos.line) = true := by rfl) :
    PE X (.Call (.Attribute o "join" apos) [e] [] pos) (tM1 (mJoin X.K) to te) := pe_join ho he hs hb hl
theorem p_upper {apos pos : Pos} (ho : PE X o to) (hb : attributeBase o "upper" X.env (eval o X.env) = eval o X.env := by rfl) (hl : (apos.endLine == pos.line) = true := by rfl) :
    PE X (.Call (.Attribute o "upper" apos) [] [] pos) (tM0 mUpper to) := pe_upper ho hb hl
end
section
variable {t u : TS} {D : Ends} {σ : L2.St} {H : Hp} {te ta tb tc : TE} {g : TG} {Q : VK} {c d : TT} {i : Nat} {v x y : V} {K : PySem.W.Frag} {A B : Prop}
theorem w_seq (h : t { D with nx := u D } σ H) : tSeq t u D σ H := h
theorem w_next (h : D.nx σ H) : tNext D σ H := h
theorem w_ret (h : te σ H D.rt) : tRet te D σ H := h
theorem w_retN (h : D.rt .non H) : tRetN D σ H := h
theorem w_drop (h : te σ H fun _ J => D.nx σ J) : tDrop te D σ H := h
theorem w_asg (h : te σ H fun x J => g x σ J D.nx) : tAsg te g D σ H := h
theorem w_gname {N : L2.St → Hp → Prop} (h : N (σ.set i (some v)) H) : gName i v σ H N := h
theorem w_ifS (h : c σ H fun b J => if b = true then t D σ J else u D σ J) : tIfS c t u D σ H := h
theorem w_break (h : D.bk σ H) : tBreak D σ H := h
theorem w_cont (h : D.ct σ H) : tCont D σ H := h
theorem w_var (e : σ[i]? = some (some v)) (h : Q v H) : tVar i σ H Q := ⟨v, e, h⟩
theorem w_c (h : Q v H) : tC v σ H Q := h
theorem w_op {r : R2} (h : ta σ H fun x J => tb σ J fun y L => r x y L Q) : tOp r ta tb σ H Q := h
theorem w_un {r : V → Hp → VK → Prop} (h : ta σ H fun x J => r x J Q) : tUn r ta σ H Q := h
theorem w_if (h : c σ H fun b J => if b = true then ta σ J Q else tb σ J Q) : tIf c ta tb σ H Q := h
theorem w_bl {P : Bool → Prop} {b : Bool} (h : P b) : ∃ k, V.bl b = .bl k ∧ P k := ⟨b, rfl, h⟩
section
variable {N : Bool → Hp → Prop}
theorem w_test (h : te σ H fun x J => ∃ k, x = .bl k ∧ N k J) : tTest te σ H N := h
theorem w_B (h : te σ H fun x J => ∃ k, x = .bl k ∧ N k J) : tB te σ H N := h
theorem w_and (h : c σ H fun b J => if b = true then d σ J N else N false J) : tAnd c d σ H N := h
theorem w_or (h : c σ H fun b J => if b = true then N true J else d σ J N) : tOr c d σ H N := h
theorem w_not (h : c σ H fun b J => N (!b) J) : tNot c σ H N := h
theorem w_yes (h : N true H) : tYes σ H N := h
end
theorem w_andV (h : ta σ H fun x J => ∃ k, x = .bl k ∧ if k = true then tb σ J Q else Q (.bl false) J) : tAndV ta tb σ H Q := h
theorem w_orV (h : ta σ H fun x J => ∃ k, x = .bl k ∧ if k = true then Q (.bl true) J else tb σ J Q) : tOrV ta tb σ H Q := h
theorem w_notV (h : ta σ H fun x J => ∃ k, x = .bl k ∧ Q (.bl (!k)) J) : tNotV ta σ H Q := h
theorem w_chain {r r' : R2} (h : ta σ H fun x J => tb σ J fun y L => r x y L fun z M => ∃ k, z = .bl k ∧ (if k = true then tc σ M fun z' M' => r' y z' M' Q else Q (.bl false) M)) : tChain r r' ta tb tc σ H Q := h
section
variable {tl : TA} {N : List V → Hp → Prop}
theorem w_nil (h : N [] H) : tNil σ H N := h
theorem w_cons (h : ta σ H fun x J => tl σ J fun xs L => N (x :: xs) L) : tCons ta tl σ H N := h
theorem w_cb {r : List V → Hp → VK → Prop} (h : tl σ H fun vs J => r vs J Q) : tCB r tl σ H Q := h
theorem w_call {sp : Sp} {E : XK} (h : tl σ H fun vs J => sp vs J Q E) : tCall sp [] E tl σ H Q := by
  have e : (fun vs J => sp (vs ++ []) J Q E) = fun vs J => sp vs J Q E := by
    funext vs J
    rw [List.append_nil]
  show tl σ H fun vs J => sp (vs ++ []) J Q E
  rw [e]
  exact h
end
theorem w_sl {r : V → Option Int → Option Int → Hp → VK → Prop} {p q : TO} (h : te σ H fun x J => p σ J fun l L => q σ L fun u M => r x l u M Q) : tSl r te p q σ H Q := h
theorem w_nopart {N : Option Int → Hp → Prop} (h : N none H) : tNoPart σ H N := h
theorem w_part {N : Option Int → Hp → Prop} (h : te σ H fun x J => ∃ i, x = .int i ∧ N (some i) J) : tPart te σ H N := h
theorem w_int {P : Int → Prop} {n : Int} (h : P n) : ∃ i, V.int n = .int i ∧ P i := ⟨n, rfl, h⟩
theorem w_m0 {r : V → List V → Hp → VK → Prop} (h : te σ H fun x J => (∃ a, x = .str a) ∧ r x [] J Q) : tM0 r te σ H Q := h
theorem w_m1 {r : V → List V → Hp → VK → Prop} (h : ta σ H fun x J => (∃ a, x = .str a) ∧ tb σ J fun y L => r x [y] L Q) : tM1 r ta tb σ H Q := h
theorem w_isstr {z : Str} (h : A) : (∃ a, V.str z = .str a) ∧ A := ⟨⟨z, rfl⟩, h⟩
/-! operations on values -/
theorem w_I0 {f : Int → Int → V} {m n : Int} (h : Q (f m n) H) : rI0 f (.int m) (.int n) H Q := ⟨m, n, rfl, rfl, h⟩
theorem w_I {C : Int → Int → Prop} {f : Int → Int → V} {m n : Int} (hc : C m n) (h : Q (f m n) H) : rI C f (.int m) (.int n) H Q := ⟨m, n, rfl, rfl, hc, h⟩
theorem w_U {f : Int → V} {m : Int} (h : Q (f m) H) : rU f (.int m) H Q := ⟨m, rfl, h⟩
theorem w_eqI {m n : Int} (h : Q (.bl (decide (m = n))) H) : rEq (.int m) (.int n) H Q := ⟨rfl, by
  have e : decide (V.int m = V.int n) = decide (m = n) := by
    by_cases z : m = n
    · cases z
      rw [decide_eq_true rfl, decide_eq_true rfl]
    · rw [decide_eq_false z, decide_eq_false fun q => z (V.int.inj q)]
  rw [e]
  exact h⟩
theorem w_neI {m n : Int} (h : Q (.bl (!decide (m = n))) H) : rNe (.int m) (.int n) H Q := ⟨rfl, by
  have e : decide (V.int m = V.int n) = decide (m = n) := by
    by_cases z : m = n
    · cases z
      rw [decide_eq_true rfl, decide_eq_true rfl]
    · rw [decide_eq_false z, decide_eq_false fun q => z (V.int.inj q)]
  rw [e]
  exact h⟩
theorem w_eqS {m n : Str} (h : Q (.bl (decide (m = n))) H) : rEq (.str m) (.str n) H Q := ⟨rfl, by
  have e : decide (V.str m = V.str n) = decide (m = n) := by
    by_cases z : m = n
    · cases z
      rw [decide_eq_true rfl, decide_eq_true rfl]
    · rw [decide_eq_false z, decide_eq_false fun q => z (V.str.inj q)]
  rw [e]
  exact h⟩
theorem w_neS {m n : Str} (h : Q (.bl (!decide (m = n))) H) : rNe (.str m) (.str n) H Q := ⟨rfl, by
  have e : decide (V.str m = V.str n) = decide (m = n) := by
    by_cases z : m = n
    · cases z
      rw [decide_eq_true rfl, decide_eq_true rfl]
    · rw [decide_eq_false z, decide_eq_false fun q => z (V.str.inj q)]
  rw [e]
  exact h⟩
theorem w_int1 {m : Int} (h : Q (.int m) H) : qInt [.int m] H Q := Or.inl ⟨m, rfl, h⟩
theorem w_abs {m : Int} (h : Q (.int (if m < 0 then -m else m)) H) : qAbs [.int m] H Q := ⟨m, rfl, h⟩
theorem w_max2 {m n : Int} (h : Q (.int (if n > m then n else m)) H) : qMax2 [.int m, .int n] H Q := ⟨m, n, rfl, h⟩
theorem w_min2 {m n : Int} (h : Q (.int (if n < m then n else m)) H) : qMin2 [.int m, .int n] H Q := ⟨m, n, rfl, h⟩


/-! a test that is open, or not -/
theorem w_T (h : A) : if true = true then A else B := iteT h
theorem w_F (h : B) : if false = true then A else B := iteF h
theorem w_nT (h : B) : if (!true) = true then A else B := iteF h
theorem w_nF (h : A) : if (!false) = true then A else B := iteT h
theorem w_dec {p : Prop} [Decidable p] (h1 : p → A) (h2 : ¬ p → B) : if decide p = true then A else B := by
  by_cases z : p
  · rw [decide_eq_true z]
    exact iteT (h1 z)
  · rw [decide_eq_false z]
    exact iteF (h2 z)
theorem w_ndec {p : Prop} [Decidable p] (h1 : ¬ p → A) (h2 : p → B) : if (!decide p) = true then A else B := by
  by_cases z : p
  · rw [decide_eq_true z]
    exact iteF (h2 z)
  · rw [decide_eq_false z]
    exact iteT (h1 z)
theorem w_yes' {p : Prop} [Decidable p] (z : p) (h : A) : if decide p = true then A else B := w_dec (fun _ => h) fun n => absurd z n
theorem w_no' {p : Prop} [Decidable p] (z : ¬ p) (h : B) : if decide p = true then A else B := w_dec (fun n => absurd n z) fun _ => h
theorem w_bool {b : Bool} (h1 : b = true → A) (h2 : b = false → B) : if b = true then A else B := by
  cases b with
  | true => exact iteT (h1 rfl)
  | false => exact iteF (h2 rfl)
/-! lists by place, numbers within bounds -/
theorem w_ixL {a : Addr} {xs : List V} {n : Int} (h : H a = some (.lst xs)) (e : atI xs n = some v) (q : Q v H) : rIxL K (.ref a) (.int n) H Q := ⟨a, xs, n, v, rfl, rfl, SqL.of h, e, q⟩
theorem w_ixQ {a : Addr} {xs : List V} {n : Int} (h : SqL K H a xs) (e : atI xs n = some v) (q : Q v H) : rIxL K (.ref a) (.int n) H Q := ⟨a, xs, n, v, rfl, rfl, h, e, q⟩
theorem w_ixT {a : Addr} {xs : List V} {n : Int} (h : H a = some (.tup xs)) (e : atI xs n = some v) (q : Q v H) : rIxT K (.ref a) (.int n) H Q := ⟨a, xs, n, v, rfl, rfl, SqT.of h, e, q⟩
theorem w_setL {N : Hp → Prop} {a : Addr} {xs : List V} {n : Int} {j : Nat} (h : H a = some (.lst xs)) (e : ixN xs.length n = some j) (q : ∀ J, Ext a H J → J a = some (.lst (xs.set j v)) → N J) : rSetL (.ref a) (.int n) v H N :=
  ⟨a, xs, n, j, rfl, rfl, h, e, q _ Ext.upd upd_same⟩
theorem w_gsub {to ti : TE} {s : TSet} {N : L2.St → Hp → Prop} (h : to σ H fun o J => ti σ J fun i L => s o i v L fun M => N σ M) : gSub to ti s v σ H N := h
theorem w_mul {m n : Int} (h : (-18446744073709551616 < m ∧ m < 18446744073709551616) ∨ (-18446744073709551616 < n ∧ n < 18446744073709551616)) (q : Q (.int (m * n)) H) : rI CMul (fun i j => .int (i * j)) (.int m) (.int n) H Q := by
  refine w_I ?_ q
  rcases h with h | h
  · exact Or.inl ⟨by omega, by omega⟩
  · exact Or.inr ⟨by omega, by omega⟩
theorem w_mod {m n : Int} (h : 0 < n) (q : Q (.int (m % n)) H) : rI (fun _ j => 0 < j) (fun i j => .int (i % j)) (.int m) (.int n) H Q := w_I h q
theorem w_div {m n : Int} (h : 0 < n ∧ n < 1073741824) (q : Q (.int (m / n)) H) : rI CDiv (fun i j => .int (i / j)) (.int m) (.int n) H Q := w_I h q
theorem w_pow {m n : Int} (h : 0 ≤ n ∧ n ≤ 1000000 ∧ m.natAbs < 2 ^ 64) (q : Q (.int (m ^ n.toNat)) H) : rI CPow (fun i j => .int (i ^ j.toNat)) (.int m) (.int n) H Q := w_I h q
/-! new things: what stood stands -/
theorem w_lst {tl : TA} (h : tl σ H fun xs J => aL xs J Q) : tLst tl σ H Q := h
theorem w_tup {tl : TA} (h : tl σ H fun xs J => aT xs J Q) : tTup tl σ H Q := h
theorem w_new {o : HO} (q : ∀ p L, H p = none → Same H L → L p = some o → Q (.ref p) L) : ∀ p, H p = none → Q (.ref p) (upd H p o) := fun p n => q p _ n (same_new n) upd_same
theorem w_newL {xs : List V} (h : Nat.ble xs.length 1000000 = true) (q : ∀ p L, H p = none → Same H L → L p = some (.lst xs) → Q (.ref p) L) : aL xs H Q := ⟨Nat.le_of_lt (smallM (Nat.le_of_ble_eq_true h)), w_new q⟩
theorem w_newT {xs : List V} (h : Nat.ble xs.length 1000000 = true) (q : ∀ p L, H p = none → Same H L → L p = some (.tup xs) → Q (.ref p) L) : aT xs H Q := ⟨Nat.le_of_lt (smallM (Nat.le_of_ble_eq_true h)), w_new q⟩
theorem w_cat {a b : Addr} {xs ys : List V} (h1 : H a = some (.lst xs)) (h2 : H b = some (.lst ys)) (hz : xs.length + ys.length ≤ 1000000) (q : ∀ p L, H p = none → Same H L → L p = some (.lst (xs ++ ys)) → Q (.ref p) L) : rCat (.ref a) (.ref b) H Q :=
  ⟨a, b, xs, ys, rfl, rfl, h1, h2, Nat.le_of_lt (smallM hz), w_new q⟩
theorem w_slL {a : Addr} {xs : List V} {lo hi : Option Int} (h : SqL K H a xs) (q : ∀ p L, H p = none → Same H L → L p = some (.lst (cutV xs lo hi)) → Q (.ref p) L) : rSlL K (.ref a) lo hi H Q := ⟨a, xs, rfl, h, w_new q⟩
theorem w_lenL {a : Addr} {xs : List V} (h : SqL K H a xs) (q : Q (.int (xs.length : Int)) H) : qLenQ K [.ref a] H Q := ⟨a, xs, rfl, Or.inl h, q⟩
theorem w_lenH {a : Addr} {xs : List V} (h : H a = some (.lst xs)) (q : Q (.int (xs.length : Int)) H) : qLenQ K [.ref a] H Q := w_lenL (SqL.of h) q
theorem w_lenT {a : Addr} {xs : List V} (h : H a = some (.tup xs)) (q : Q (.int (xs.length : Int)) H) : qLenQ K [.ref a] H Q := ⟨a, xs, rfl, Or.inr (SqT.of h), q⟩
theorem w_lenS {z : Str} (h : z.length ≤ 1000000) (q : Q (.int (z.length : Int)) H) : qLenS [.str z] H Q := ⟨z, rfl, Nat.le_of_lt (smallM h), q⟩
theorem w_addS {y z : Str} (h : y.length + z.length ≤ 1000000) (q : Q (.str (y ++ z)) H) : oAddS (.str y) (.str z) H Q := ⟨y, z, rfl, rfl, Nat.le_of_lt (smallM h), q⟩
theorem w_inC {ch : Nat} {z : Str} (q : Q (.bl (decide (ch ∈ z.cps.toList))) H) : oInC (.str ⟨#[ch]⟩) (.str z) H Q := ⟨ch, z, rfl, rfl, q⟩
theorem w_ninC {ch : Nat} {z : Str} (q : Q (.bl (!decide (ch ∈ z.cps.toList))) H) : oNinC (.str ⟨#[ch]⟩) (.str z) H Q := ⟨ch, z, rfl, rfl, q⟩
theorem w_strI {m : Int} (h : m.natAbs.log2 < 1920) (q : Q (.str (toString m)) H) : qStrI [.int m] H Q := ⟨m, rfl, h, q⟩
theorem w_upper {z : Str} (h : z.length ≤ 1000000) (q : Q (.str (Txt.upper z)) H) : mUpper (.str z) [] H Q := ⟨z, rfl, rfl, by omega, q⟩
theorem w_join {z : Str} {p : Addr} {ys : List Str} (h : SqL K H p (ys.map V.str)) (hz : (ys.map (fun y => y.length)).sum + ys.length * z.length ≤ 1000000) (q : Q (.str (Txt.join z ys)) H) : mJoin K (.str z) [.ref p] H Q := ⟨z, p, ys, rfl, rfl, Or.inl h, by omega, q⟩
theorem w_ixS {z : Str} {n : Int} {ch : Nat} (h : z.length ≤ 1000000) (e : atI z.cps.toList n = some ch) (q : Q (.str ⟨#[ch]⟩) H) : rIxS (.str z) (.int n) H Q := ⟨z, n, ch, rfl, rfl, Nat.le_of_lt (smallM h), e, q⟩
theorem w_slS {z : Str} {lo hi : Option Int} (h : z.length ≤ 1000000) (q : Q (.str (cutS z lo hi)) H) : rSlS (.str z) lo hi H Q := ⟨z, rfl, Nat.le_of_lt (smallM h), q⟩
end
/-! ### loops and comprehensions over what is walked -/
section
variable {J : It} {g : TG} {tb : TS} {D : Ends} {σ : L2.St} {H : Hp} {te ta : TE} {tt : TT} {wi : TI} {vs : List Nat} {Q : VK} {n : Nat} {G : Hp → Prop} {Y : Nat → Hp → V → Hp → Prop} {R : It → Hp → Prop} {K : PySem.W.Frag}
def LoopOf (J : It) (g : TG) (tb : TS) (D : Ends) (σ : L2.St) (H : Hp) : Prop := ∃ W : Nat → Nat → L2.St → Hp → Prop, (∃ m, W 0 m σ H) ∧ ∀ i m σ H, W i m σ H →
  (J.stop i H ∧ D.nx σ H) ∨ (J.go i H ∧ ∃ N : L2.St → Hp → Prop, (∀ σ' H', N σ' H' → ∃ m', m' < m ∧ W (i + 1) m' σ' H') ∧ ∀ x H', J.yld i H x H' → g x σ H' fun σ2 H2 => tb { D with nx := N, ct := N, bk := D.nx } σ2 H2)
theorem w_for (h : wi σ H fun J L => LoopOf J g tb D σ L) : tFor wi g tb D σ H := h
theorem w_loop (w : Walk J n G Y) (Pv : Nat → L2.St → Hp → Prop) (h0 : Pv 0 σ H) (hG : ∀ i σ H, i ≤ n → Pv i σ H → G H)
    (hs : ∀ i x σ L M, i < n → Pv i σ L → Y i L x M → g x σ M fun σ2 H2 => tb { D with nx := Pv (i + 1), ct := Pv (i + 1), bk := D.nx } σ2 H2) (hd : ∀ σ H, Pv n σ H → D.nx σ H) : LoopOf J g tb D σ H := for_it w Pv h0 hG hs hd
def CompOf (J : It) (g : TG) (tt : TT) (te : TE) (vs : List Nat) (D : Addr) (σ : L2.St) (Qd : Hp → Prop) (H1 : Hp) : Prop := ∃ W : Nat → Nat → Hp → Prop, (∃ m, W 0 m (upd H1 D (.lst []))) ∧ ∀ i m H, W i m H →
  (J.stop i H ∧ Qd H) ∨ (J.go i H ∧ ∃ Nx : Hp → Prop, (∀ H', Nx H' → ∃ m', m' < m ∧ W (i + 1) m' H') ∧ ∀ x H', J.yld i H x H' → g x (wipe σ vs) H' fun σ2 H2 => wipe σ2 vs = wipe σ vs ∧ tt σ2 H2 fun b H3 =>
    if b = true then te σ2 H3 fun y H4 => ∃ acc, H4 D = some (.lst acc) ∧ acc.length < sizeLine ∧ Nx (upd H4 D (.lst (acc ++ [y]))) else Nx H3)
theorem w_lc (h : wi σ H fun J L => ∀ D, L D = none → CompOf J g tt te vs D σ (fun M => Q (.ref D) M) L) : tLc wi g tt te vs σ H Q := h
/-- behind i turns: the list so far is at D -/
def Sofar (I : Nat → List V → Hp → Prop) (D : Addr) (i : Nat) (L : Hp) : Prop := ∃ acc, acc.length ≤ i ∧ L D = some (.lst acc) ∧ I i acc L
theorem w_comp {D : Addr} {Qd : Hp → Prop} (w : Walk J n G Y) (I : Nat → List V → Hp → Prop) (new : H D = none) (h0 : ∀ L, Same H L → L D = some (.lst []) → I 0 [] L) (hG : ∀ i acc L, I i acc L → G L)
    (turn : ∀ i acc x L M, i < n → acc.length ≤ i → I i acc L → L D = some (.lst acc) → Y i L x M → g x (wipe σ vs) M fun σ2 N => wipe σ2 vs = wipe σ vs ∧ tt σ2 N fun b O =>
      if b = true then te σ2 O fun y U => ∃ acc, U D = some (.lst acc) ∧ acc.length < sizeLine ∧ Sofar I D (i + 1) (upd U D (.lst (acc ++ [y]))) else Sofar I D (i + 1) O)
    (done : ∀ acc L, acc.length ≤ n → L D = some (.lst acc) → I n acc L → Qd L) : CompOf J g tt te vs D σ Qd H := by
  refine lc_it w (Sofar I D) ⟨[], Nat.le_refl _, upd_same, h0 _ (same_new new) upd_same⟩ (fun i L _ p => ?_) (fun i x L M hi p hy => ?_) fun L p => ?_
  · obtain ⟨acc, _, _, p⟩ := p
    exact hG i acc L p
  · obtain ⟨acc, h1, h2, p⟩ := p
    exact turn i acc x L M hi h1 p h2 hy
  · obtain ⟨acc, h1, h2, p⟩ := p
    exact done acc L h1 h2 p
theorem w_put {I : Nat → List V → Hp → Prop} {D : Addr} {i : Nat} {acc : List V} {y : V} {U : Hp} (h : U D = some (.lst acc)) (hl : acc.length ≤ i) (hi : i ≤ 1000000) (q : ∀ Z, Ext D U Z → Z D = some (.lst (acc ++ [y])) → I (i + 1) (acc ++ [y]) Z) :
    ∃ acc, U D = some (.lst acc) ∧ acc.length < sizeLine ∧ Sofar I D (i + 1) (upd U D (.lst (acc ++ [y]))) :=
  ⟨acc, h, smallM (Nat.le_trans hl hi), acc ++ [y], by rw [List.length_append]; exact Nat.add_le_add hl (Nat.le_refl 1), upd_same, q _ Ext.upd upd_same⟩
theorem w_skip {I : Nat → List V → Hp → Prop} {D : Addr} {i : Nat} {acc : List V} {U : Hp} (h : U D = some (.lst acc)) (hl : acc.length ≤ i) (q : I (i + 1) acc U) : Sofar I D (i + 1) U := ⟨acc, by omega, h, q⟩
/-! what is walked -/
def onL (K : PySem.W.Frag) (x : V) (H : Hp) (R : It → Hp → Prop) : Prop := ∃ a, x = .ref a ∧ (∃ xs, SqL K H a xs) ∧ R (Itl K a) H
def onT (K : PySem.W.Frag) (x : V) (H : Hp) (R : It → Hp → Prop) : Prop := ∃ a, x = .ref a ∧ (∃ xs, SqT K H a xs) ∧ R (Itt K a) H
def onS (v : V) (H : Hp) (R : It → Hp → Prop) : Prop := ∃ x, v = .str x ∧ R (Its x) H
def onR1 (vs : List V) (H : Hp) (R : It → Hp → Prop) : Prop := ∃ j : Int, vs = [.int j] ∧ -(2 ^ 62) ≤ j ∧ j < 2 ^ 62 ∧ R (Itr 0 j.toNat) H
def onR2 (vs : List V) (H : Hp) (R : It → Hp → Prop) : Prop := ∃ i j : Int, vs = [.int i, .int j] ∧ (-(2 ^ 62) ≤ i ∧ i < 2 ^ 62 ∧ -(2 ^ 62) ≤ j ∧ j < 2 ^ 62) ∧ R (Itr i (j - i).toNat) H
theorem w_iList (h : te σ H fun x L => onL K x L R) : iList K te σ H R := h
theorem w_iTup (h : te σ H fun x L => onT K x L R) : iTup K te σ H R := h
theorem w_iStr (h : te σ H fun x L => onS x L R) : iStr te σ H R := h
theorem w_iR1 {tl : TA} (h : tl σ H fun x L => onR1 x L R) : iRng1 tl σ H R := h
theorem w_iR2 {tl : TA} (h : tl σ H fun x L => onR2 x L R) : iRng2 tl σ H R := h
theorem w_onQ {a : Addr} {xs : List V} (h : SqL K H a xs) (q : R (Itl K a) H) : onL K (.ref a) H R := ⟨a, rfl, ⟨xs, h⟩, q⟩
theorem w_onL {a : Addr} {xs : List V} (h : H a = some (.lst xs)) (q : R (Itl K a) H) : onL K (.ref a) H R := ⟨a, rfl, ⟨xs, SqL.of h⟩, q⟩
theorem w_onU {a : Addr} {xs : List V} (h : SqT K H a xs) (q : R (Itt K a) H) : onT K (.ref a) H R := ⟨a, rfl, ⟨xs, h⟩, q⟩
theorem w_onT {a : Addr} {xs : List V} (h : H a = some (.tup xs)) (q : R (Itt K a) H) : onT K (.ref a) H R := ⟨a, rfl, ⟨xs, SqT.of h⟩, q⟩
theorem w_onS {z : Str} (q : R (Its z) H) : onS (.str z) H R := ⟨z, rfl, q⟩
theorem w_onR1 {j : Int} (h : -1000000000 ≤ j ∧ j ≤ 1000000000) (q : R (Itr 0 j.toNat) H) : onR1 [.int j] H R := ⟨j, rfl, by omega, by omega, q⟩
theorem w_onR2 {i j : Int} (h : -1000000000 ≤ i ∧ i ≤ 1000000000 ∧ -1000000000 ≤ j ∧ j ≤ 1000000000) (q : R (Itr i (j - i).toNat) H) : onR2 [.int i, .int j] H R := ⟨i, j, rfl, by omega, q⟩
end
section
variable {K : PySem.W.Frag} {H : Hp} {Q : VK} {x v : V}
theorem w_isi {t : Value} {n : String} {b : Bool} (ty : TyX K H x t) (e : PySem.W.kitOne K t (.type n) = some b) (q : Q (.bl b) H) : rIsi K [x, .ty n] H Q := ⟨x, .ty n, t, .type n, b, rfl, .ty n, ty, e, q⟩
theorem w_all {a : Addr} {bs : List Bool} (h : H a = some (.lst (bs.map V.bl))) (q : Q (.bl (bs.all id)) H) : rAll K [.ref a] H Q := ⟨a, bs, rfl, SqL.of h, q⟩
theorem w_any {a : Addr} {bs : List Bool} (h : H a = some (.lst (bs.map V.bl))) (q : Q (.bl (bs.any id)) H) : rAny K [.ref a] H Q := ⟨a, bs, rfl, SqL.of h, q⟩
theorem w_rep {a : Addr} {xs : List V} {n : Int} (h : H a = some (.lst xs)) (hn : 0 ≤ n ∧ n ≤ 1000) (hl : xs.length ≤ 1000) (q : ∀ p L, H p = none → Same H L → L p = some (.lst (List.replicate n.toNat xs).flatten) → Q (.ref p) L) : rRep (.ref a) (.int n) H Q := by
  refine ⟨a, n, xs, rfl, rfl, h, by omega, by omega, ?_, w_new q⟩
  have h1 : n.toNat ≤ 1000 := by omega
  exact Nat.le_trans (Nat.mul_le_mul hl h1) (by decide)
theorem w_revL {te : TE} {σ : L2.St} (h : te σ H fun x J => aRev K x J Q) : tRevL K te σ H Q := h
theorem w_rev {a : Addr} {xs : List V} (h : H a = some (.lst xs)) (q : ∀ p L, H p = none → Same H L → L p = some (.lst xs.reverse) → Q (.ref p) L) : aRev K (.ref a) H Q := ⟨a, xs, rfl, SqL.of h, w_new q⟩
theorem w_append {a : Addr} {xs : List V} (h : H a = some (.lst xs)) (hl : xs.length ≤ 1000000) (q : ∀ L, Ext a H L → L a = some (.lst (xs ++ [v])) → Q .non L) : rAppend (.ref a) [v] H Q := ⟨a, xs, v, rfl, rfl, h, smallM hl, q _ Ext.upd upd_same⟩
theorem w_bm {T : String} {r : V → List V → Hp → VK → Prop} {to : TE} {t : TA} {σ : L2.St} (h : to σ H fun x J => tyV K T x J ∧ t σ J fun xs L => r x xs L Q) : tBM K T r to t σ H Q := h
theorem w_bm0 {T : String} {r : V → List V → Hp → VK → Prop} {to : TE} {σ : L2.St} (h : to σ H fun x J => tyV K T x J ∧ r x [] J Q) : tBM0 K T r to σ H Q := h
theorem w_islst {a : Addr} {xs : List V} {A : Prop} (h : H a = some (.lst xs)) (q : A) : tyV K "list" (.ref a) H ∧ A := ⟨Or.inl ⟨rfl, _, SqL.of h⟩, q⟩
theorem w_kw {sp : Sp} {gV : List V → List V → List V} {E : XK} {tk : TA} {m : Nat} {σ : L2.St} (h : tk σ H fun zs J => zs.length = m ∧ sp (gV [] zs) J Q E) : tKw m sp gV E tk σ H Q := h
/-- a list's repr -/
theorem w_repr {a : Addr} {xs : List V} {ds : List PyData} (h : H a = some (.lst xs)) (hd : DpAll K H xs ds) (h1 : PyData.showable (.list ds) = true) (h2 : PyData.hasDict (.list ds) = false) (h3 : PyData.depth (.list ds) ≤ 60) (h4 : (PyData.shown (.list ds)).length ≤ sizeLine)
    (q : Q (.str (PyData.shown (.list ds))) H) : rReprD K [.ref a] H Q := ⟨a, .list ds, rfl, .lst (SqL.of h) hd, h1, h2, h3, h4, q⟩
theorem dp_bools : ∀ bs : List Bool, DpAll K H (bs.map V.bl) (bs.map PyData.bool)
  | [] => .nil
  | b :: r => .cons (.bl b) (dp_bools r)
theorem bools_short : ∀ bs : List Bool, PyData.leavesShortAll 13 (bs.map PyData.bool) = true ∧ PyData.bulkAll (bs.map PyData.bool) = bs.length ∧ PyData.showableAll (bs.map PyData.bool) = true ∧ PyData.hasDictAll (bs.map PyData.bool) = false ∧ PyData.depthAll (bs.map PyData.bool) ≤ 1
  | [] => ⟨by simp only [List.map, PyData.leavesShortAll], by simp only [List.map, PyData.bulkAll, List.length_nil], by simp only [List.map, PyData.showableAll], by simp only [List.map, PyData.hasDictAll], by simp only [List.map, PyData.depthAll]; omega⟩
  | b :: r => by
    obtain ⟨h1, h2, h3, h4, h5⟩ := bools_short r
    simp only [List.map_cons, PyData.leavesShortAll, PyData.leavesShort, PyData.bulkAll, PyData.bulk, PyData.showableAll, PyData.showable, PyData.hasDictAll, PyData.hasDict, PyData.depthAll, PyData.depth, List.length_cons, h1, h2, h3, h4]
    refine ⟨rfl, ?_, rfl, rfl, ?_⟩ <;> omega
/-- repr of a list of bools -/
theorem w_reprB {a : Addr} {bs : List Bool} (h : H a = some (.lst (bs.map V.bl))) (hl : bs.length ≤ 1000) (q : Q (.str (PyData.shown (.list (bs.map PyData.bool)))) H) : rReprD K [.ref a] H Q := by
  obtain ⟨h1, h2, h3, h4, h5⟩ := bools_short bs
  refine w_repr h (dp_bools bs) (by simpa only [PyData.showable] using h3) (by simpa only [PyData.hasDict] using h4) (by simp only [PyData.depth]; omega) ?_ q
  exact PyData.shown_fits_bulk (B := 13) (by decide) (by decide) (by simpa only [PyData.leavesShort] using h1) (by simp only [PyData.bulk]; omega)
end
section
variable {K : PySem.W.Frag} {x qual : Str} {st : Stmt} {f : Addr} {fd : FuncData} {p : Str}
/-- a def of one parameter called by its name -/
theorem kw_one (F : Fun K x qual st f fd) (h : ∀ (kV doc pm : Value) (an : Option Addr) (cdv ct z : Value), bindArgs (PySem.W.fnOf x qual (defArgs st) (defBody st) (defScope st) .none kV doc pm an cdv ct) ⟨[], [(p, z)]⟩ = pure [(p, z)]) : KBn K fd [p] 0 [p] (fun _ ws => ws) (fun _ zs => zs) := by
  obtain ⟨oc, od, kV, doc, pm, an, cdv, ct, osl, rfl, lk, hcd⟩ := F.ex
  refine ⟨fun s us ws _ h1 h2 => ?_, fun _ r => r⟩
  match us, ws, h1, h2 with
  | [], [z], _, _ => exact .of_eq (h kV doc pm an cdv ct z)
end
/-- a place that lies in the list -/
theorem at_in {α : Type} {xs : List α} {n : Int} (h0 : 0 ≤ n) (h1 : n < xs.length) : ∃ v, atI xs n = some v ∧ v ∈ xs := by
  obtain ⟨m, rfl⟩ := Int.eq_ofNat_of_zero_le h0
  have h : m < xs.length := by omega
  exact ⟨xs[m], atI_nat (List.getElem?_eq_getElem h), List.getElem_mem h⟩
/-! ### texts as lists of signs -/
theorem joinL_nil : ∀ ps : List (List Nat), TL.joinL [] ps = ps.flatten
  | [] => rfl
  | [p] => by
    show p = p ++ []
    rw [List.append_nil]
  | p :: q :: r => by
    show p ++ ([] ++ TL.joinL [] (q :: r)) = p ++ (q :: r).flatten
    rw [List.nil_append, joinL_nil (q :: r)]
theorem join_signs (cs : List Nat) : (Txt.join (Str.ofString "") (cs.map fun c => (⟨#[c]⟩ : Str))).cps.toList = cs := by
  rw [TL.join_eq, show (Str.join (Str.ofString "") (cs.map fun c => (⟨#[c]⟩ : Str))).cps.toList = TL.joinL [] ((cs.map fun c => (⟨#[c]⟩ : Str)).map TL.tl) from TL.tl_join _ _, joinL_nil, List.map_map]
  induction cs with
  | nil => rfl
  | cons c r ih => rw [List.map_cons, List.flatten_cons, ih]; rfl
theorem signs_sum : ∀ cs : List Nat, ((cs.map fun c => (⟨#[c]⟩ : Str)).map fun y => y.length).sum = cs.length
  | [] => rfl
  | c :: r => by
    rw [List.map_cons, List.map_cons, List.sum_cons, signs_sum r, List.length_cons]
    show 1 + r.length = r.length + 1
    omega
theorem str_len (z : Str) : z.length = z.cps.toList.length := TL.len_tl z
theorem sign_at {z : Str} {d : Int} (h0 : 0 ≤ d) (h1 : d < (z.length : Nat)) : ∃ c, atI z.cps.toList d = some c ∧ c ∈ z.cps.toList := at_in h0 (by rw [← str_len]; exact h1)
theorem len_add (x y : Str) : (x ++ y).length = x.length + y.length := strLen_append x y
theorem len_cut (z : Str) (lo hi : Option Int) : (cutS z lo hi).length ≤ z.length := cutS_length z lo hi
/-- joined signs -/
theorem w_joinC {K : PySem.W.Frag} {H : Hp} {Q : VK} {p : Addr} {cs : List Nat} (h : H p = some (.lst (cs.map fun c => V.str ⟨#[c]⟩))) (hl : cs.length ≤ 1000) (q : ∀ z : Str, z.cps.toList = cs → z.length = cs.length → Q (.str z) H) : mJoin K (.str (Str.ofString "")) [.ref p] H Q := by
  have h2 : H p = some (.lst ((cs.map fun c => (⟨#[c]⟩ : Str)).map V.str)) := by
    rw [h, List.map_map]
    rfl
  refine w_join (SqL.of h2) ?_ (q _ (join_signs cs) (by rw [str_len, join_signs]))
  rw [signs_sum, List.length_map]
  show cs.length + cs.length * 0 ≤ 1000000
  omega
/-- a text of a list of texts, all of one kind -/
theorem pick_str {P : Str → Prop} {zs : List Str} {d n : Int} (h : ∀ z ∈ zs, P z) (d0 : 0 ≤ d) (d1 : d < n) (e : ((zs.length : Nat) : Int) = n) : ∃ z, atI (zs.map V.str) d = some (.str z) ∧ P z ∧ z ∈ zs := by
  obtain ⟨v, hv, hm⟩ := at_in (xs := zs.map V.str) d0 (by rw [List.length_map]; omega)
  obtain ⟨z, hz, rfl⟩ := List.mem_map.mp hm
  exact ⟨z, hv, h z hz, hz⟩
theorem small_log {n : Int} (h : n.natAbs < 1000000) : n.natAbs.log2 < 1920 := by
  have : n.natAbs.log2 ≤ 20 := by
    by_cases z : n.natAbs = 0
    · rw [z]
      decide
    · have := (Nat.log2_lt z (k := 20)).mpr (by omega)
      omega
  omega
theorem lt_len {z : Str} {d m : Int} (h : d < m) (e : ((z.length : Nat) : Int) = m) : d < (z.length : Nat) := by omega
/-! ### dicts that are written -/
section
variable {σ : L2.St} {H : Hp} {Q : VK} {trs : List (TE × TE)} {tk tv : TE}
def aDK (H : Hp) (Q : VK) : Prop := ∀ p, H p = none → Q (.ref p) (upd H p (.dK []))
theorem w_dnew (h : aDK H Q) : tDNewK σ H Q := h
theorem w_newD (q : ∀ p L, H p = none → Same H L → L p = some (.dK []) → Q (.ref p) L) : aDK H Q := fun p n => q p _ n (same_new n) upd_same
def dEnd (p : Addr) (ps : List (V × V)) (H2 : Hp) (Q : VK) : Prop := H2 p = some (.dK []) ∧ ∃ kvs : List (Key × V), ps = kvs.map (fun kv => (kV kv.1, kv.2)) ∧ kvs.length ≤ 15 ∧ Q (.ref p) (upd H2 p (.dK (mergeK [] kvs)))
theorem w_disp (h : ∀ p L, H p = none → Same H L → L p = some (.dK []) → tPairs trs σ L fun ps M => dEnd p ps M Q) : tDisp trs σ H Q := fun p n => h p _ n (same_new n) upd_same
theorem w_pnil {N : List (V × V) → Hp → Prop} (h : N [] H) : tPairs [] σ H N := h
theorem w_pcons {N : List (V × V) → Hp → Prop} (h : tk σ H fun x J => tv σ J fun y L => tPairs trs σ L fun ps M => N ((x, y) :: ps) M) : tPairs ((tk, tv) :: trs) σ H N := h
theorem w_dEnd {p : Addr} {ps : List (V × V)} (kvs : List (Key × V)) (h : H p = some (.dK [])) (e : ps = kvs.map (fun kv => (kV kv.1, kv.2))) (hl : kvs.length ≤ 15) (q : ∀ L, Ext p H L → L p = some (.dK (mergeK [] kvs)) → Q (.ref p) L) : dEnd p ps H Q := ⟨h, kvs, e, hl, q _ Ext.upd upd_same⟩
end
def parEnd (i j : Nat) (D : Ends) (σ : L2.St) (vs : List V) (H : Hp) : Prop := ∃ v w, vs = [v, w] ∧ D.nx ((σ.set i (some v)).set j (some w)) H
theorem w_par {i j : Nat} {ta : TA} {D : Ends} {σ : L2.St} {H : Hp} (h : ta σ H fun vs J => parEnd i j D σ vs J) : tPar i j ta D σ H := h
theorem w_parEnd {i j : Nat} {D : Ends} {σ : L2.St} {H : Hp} {v w : V} (h : D.nx ((σ.set i (some v)).set j (some w)) H) : parEnd i j D σ [v, w] H := ⟨v, w, rfl, h⟩
def parEnd3 (i j l : Nat) (D : Ends) (σ : L2.St) (vs : List V) (H : Hp) : Prop := ∃ u v w, vs = [u, v, w] ∧ D.nx (((σ.set i (some u)).set j (some v)).set l (some w)) H
theorem w_par3 {i j l : Nat} {ta : TA} {D : Ends} {σ : L2.St} {H : Hp} (h : ta σ H fun vs J => parEnd3 i j l D σ vs J) : tPar3 i j l ta D σ H := h
theorem w_parEnd3 {i j l : Nat} {D : Ends} {σ : L2.St} {H : Hp} {u v w : V} (h : D.nx (((σ.set i (some u)).set j (some v)).set l (some w)) H) : parEnd3 i j l D σ [u, v, w] H := ⟨u, v, w, rfl, h⟩
/-! ### texts among texts, texts repeated -/
section
variable {K : PySem.W.Frag} {H : Hp} {Q : VK}
theorem inV_strs (y : Str) : ∀ zs : List Str, inV (.str y) (zs.map V.str) = decide (y ∈ zs)
  | [] => rfl
  | z :: r => by
    show ((z == y) || inV (.str y) (r.map V.str)) = _
    rw [inV_strs y r]
    by_cases e : y = z
    · cases e
      rw [beq_self_eq_true]
      exact (decide_eq_true (List.mem_cons_self ..)).symm
    · rw [show (z == y) = false from beq_eq_false_iff_ne.mpr fun q => e q.symm, Bool.false_or]
      by_cases h : y ∈ r
      · rw [decide_eq_true h, decide_eq_true (List.mem_cons_of_mem _ h)]
      · rw [decide_eq_false h, decide_eq_false fun q => (List.mem_cons.mp q).elim e h]
theorem flat_strs : ∀ zs : List Str, (zs.map V.str).all flatV = true
  | [] => rfl
  | _ :: r => flat_strs r
theorem w_inLS {a : Addr} {y : Str} {zs : List Str} (h : H a = some (.lst (zs.map V.str))) (q : Q (.bl (decide (y ∈ zs))) H) : rIn K false (.str y) (.ref a) H Q :=
  ⟨a, _, rfl, Or.inl (SqL.of h), rfl, flat_strs zs, by rw [if_neg Bool.false_ne_true, inV_strs]; exact q⟩
theorem w_ninLS {a : Addr} {y : Str} {zs : List Str} (h : H a = some (.lst (zs.map V.str))) (q : Q (.bl (!decide (y ∈ zs))) H) : rIn K true (.str y) (.ref a) H Q :=
  ⟨a, _, rfl, Or.inl (SqL.of h), rfl, flat_strs zs, by rw [if_pos rfl, inV_strs]; exact q⟩
theorem w_inTS {a : Addr} {y : Str} {zs : List Str} (h : H a = some (.tup (zs.map V.str))) (q : Q (.bl (decide (y ∈ zs))) H) : rIn K false (.str y) (.ref a) H Q :=
  ⟨a, _, rfl, Or.inr (SqT.of h), rfl, flat_strs zs, by rw [if_neg Bool.false_ne_true, inV_strs]; exact q⟩
def repS (x : Str) (n : Int) : Str := ⟨(List.replicate n.toNat x.cps).foldl (fun a b => a ++ b) #[]⟩
theorem fold_size (a : Array Nat) : ∀ (m : Nat) (b : Array Nat), ((List.replicate m a).foldl (fun a b => a ++ b) b).size = b.size + m * a.size
  | 0, b => by
    show b.size = b.size + 0 * a.size
    omega
  | m + 1, b => by
    show ((List.replicate m a).foldl (fun a b => a ++ b) (b ++ a)).size = _
    rw [fold_size a m, Array.size_append, Nat.add_mul]
    omega
theorem repS_len (x : Str) (n : Int) : (repS x n).length = n.toNat * x.length := by
  show ((List.replicate n.toNat x.cps).foldl (fun a b => a ++ b) #[]).size = _
  rw [fold_size]
  show 0 + n.toNat * x.cps.size = n.toNat * x.cps.size
  omega
def oMulS : R2 := fun x y H Q => ∃ (z : Str) (n : Int), x = .str z ∧ y = .int n ∧ 0 < z.length ∧ z.length ≤ 1000 ∧ 2 ≤ n ∧ n ≤ 1000 ∧ Q (.str (repS z n)) H
theorem o_mulS {X : Cx} : OpR X (binaryOp .Mult) oMulS := by
  intro pins s σ H x y v u Q I rx ry h
  obtain ⟨z, n, rfl, rfl, z0, z1, n2, n3, q⟩ := h
  obtain ⟨t, rfl⟩ := rx
  obtain ⟨t', rfl⟩ := ry
  have hm : z.length * n.toNat ≤ 1000 * 1000 := Nat.mul_le_mul z1 (by omega)
  have g1 : (n == 1 || z.length == 0) = false := by
    rw [Bool.or_eq_false_iff]
    exact ⟨beq_eq_false_iff_ne.mpr (by omega), beq_eq_false_iff_ne.mpr (by omega)⟩
  refine PySem.P.mul_str ?_ (fun _ _ => ?_) (fun _ _ => ?_) ?_
  · rw [Bool.or_eq_false_iff]
    exact ⟨decide_eq_false (by omega), decide_eq_false (by omega)⟩
  · have : (1000 : Int) ≤ (2 ^ 63 - 1) / n := by
      rw [Int.le_ediv_iff_mul_le (by omega)]
      omega
    omega
  · exact PyProof.Rows.short24 (by omega)
  · rw [if_neg (by omega), g1, if_neg Bool.false_ne_true]
    have e : (repS z n).length ≤ 16777216 := by
      rw [repS_len, Nat.mul_comm]
      omega
    exact ⟨e, .str (repS z n), H, I.tok _, ⟨_, rfl⟩, q⟩
theorem w_mulS {z : Str} {n : Int} (h : 0 < z.length ∧ z.length ≤ 1000) (hn : 2 ≤ n ∧ n ≤ 1000) (q : Q (.str (repS z n)) H) : oMulS (.str z) (.int n) H Q := ⟨z, n, rfl, rfl, h.1, h.2, hn.1, hn.2, q⟩
end
/-! ### the rules that speak of the written part, with its name given -/
section
variable {X : Cx} {K : PySem.W.Frag} {o e : Expr} {to te : TE}
theorem k_ixL (h : X.K = K := by rfl) : IxR X (rIxL K) := h ▸ ix_list
theorem k_ixT (h : X.K = K := by rfl) : IxR X (rIxT K) := h ▸ ix_tup
theorem k_ix (h : X.K = K := by rfl) : IxR X (rIx K) := h ▸ ix_seq
theorem k_slL (h : X.K = K := by rfl) : SlR X (rSlL K) := h ▸ sl_list
theorem k_slT (h : X.K = K := by rfl) : SlR X (rSlT K) := h ▸ sl_tup
theorem k_in (h : X.K = K := by rfl) : OpR X (compareOp .In) (rIn K false) := h ▸ op_in_seq
theorem k_nin (h : X.K = K := by rfl) : OpR X (compareOp .NotIn) (rIn K true) := h ▸ op_notIn_seq
theorem k_lenQ (h : X.K = K := by rfl) : CallR X (.builtin "len") (qLenQ K) := h ▸ c_lenQ
theorem k_list (h : X.K = K := by rfl) : CallR X (.type "list") (qList K) := h ▸ c_list
theorem k_tuple (h : X.K = K := by rfl) : CallR X (.type "tuple") (qTuple K) := h ▸ c_tuple
theorem k_isi (h : X.K = K := by rfl) : CallR X (.builtin "isinstance") (rIsi K) := h ▸ call_isi
theorem k_all (hc : X.calm = true) (h : X.K = K := by rfl) : CallR X (.builtin "all") (rAll K) := h ▸ cr_all hc
theorem k_any (hc : X.calm = true) (h : X.K = K := by rfl) : CallR X (.builtin "any") (rAny K) := h ▸ cr_any hc
theorem k_repr {k : Nat} (hr : Room k X.A) (hgd : X.A.guards = some []) (h : X.K = K := by rfl) : CallR X (.builtin "repr") (rReprD K) := h ▸ call_repr_data hr hgd
theorem k_eqD (hu : X.A.units + 64 < cLine) (h : X.K = K := by rfl) : OpR X (compareOp .Eq) (rEqD K) := h ▸ op_eqD hu
theorem k_neD (hu : X.A.units + 64 < cLine) (h : X.K = K := by rfl) : OpR X (compareOp .NotEq) (rNeD K) := h ▸ op_neD hu
theorem k_catT (h : X.K = K := by rfl) : OpR X (binaryOp .Add) (rCatT K) := h ▸ op_catT
theorem k_join {apos pos : Pos} (ho : PE X o to) (he : PE X e te) (h : X.K = K := by rfl) (hs : starEach [e] X.env = [(false, eval e X.env)] := by rfl) (hb : attributeBase o "join" X.env (eval o X.env) = eval o X.env := by rfl) (hl : (apos.endLine == pos.line) = true := by rfl) :
    PE X (.Call (.Attribute o "join" apos) [e] [] pos) (tM1 (mJoin K) to te) := h ▸ p_join ho he hs hb hl
theorem k_iL {tg l : Expr} {tl : TE} (hl : PE X l tl) (h : X.K = K := by rfl) : PI X tg l (iList K tl) := h ▸ pi_list hl
theorem k_iT {tg l : Expr} {tl : TE} (hl : PE X l tl) (h : X.K = K := by rfl) : PI X tg l (iTup K tl) := h ▸ pi_tup hl
theorem k_rev {k : Nat} {p1 p2 p3 pos : Pos} (he : PE X e te) (h : X.K = K := by rfl) : PE X (.Subscript e (.Slice none none (some (.UnaryOp .USub (.Constant (.int 1) k p1) p2)) p3) pos) (tRevL K te) := h ▸ pe_revL he
theorem k_bm {T : String} {r : V → List V → Hp → VK → Prop} {t : TA} (p : PE X e (tBM X.K T r to t)) (h : X.K = K := by rfl) : PE X e (tBM K T r to t) := h ▸ p
theorem k_bm0 {T : String} {r : V → List V → Hp → VK → Prop} (p : PE X e (tBM0 X.K T r to)) (h : X.K = K := by rfl) : PE X e (tBM0 K T r to) := h ▸ p
end
/-- the ways of an if meet: Mid holds behind both -/
theorem w_cut {t u : TS} {D : Ends} {σ : L2.St} {H : Hp} (Mid : L2.St → Hp → Prop) (h : t { D with nx := Mid } σ H) (q : ∀ σ' J, Mid σ' J → u D σ' J) : C8.tCut t u D σ H := ⟨Mid, h, q⟩
/-! ### what the top has written -/
/-- a def of the text, under its own name -/
def DefAt (K : PySem.W.Frag) (mg : Str → Option Value) (x : Str) (st : Stmt) : Prop := ∃ (f : Addr) (fd : FuncData), Fun K x x st f fd ∧ mg x = some (.ref f)
theorem def_at {K : PySem.W.Frag} {h : Heap} {mg : Str → Option Value} {x : Str} {st : Stmt} {f : Addr} {od an : Option Addr} {sl : Array (Option Value)} {oc kV dc pm cd ct : Value} (X : K.In h) (G : h.Ns mainGlobals mg)
    (a : PySem.W.nsIn K mainGlobals x = some (some (.ref f))) (l : K.lookup f = some ⟨oc, od, .func (PySem.W.fnOf x x (defArgs st) (defBody st) (defScope st) .none kV dc pm an cd ct), sl⟩) (c : PySem.W.codeIn K cd x = true) (k : PySem.W.keepIn K (.ref f) = true) : DefAt K mg x st :=
  ⟨f, _, fun_mk l c k, PySem.W.mg_of X G a⟩
theorem con_at {K : PySem.W.Frag} {h : Heap} {mg : Str → Option Value} {x : Str} {u : Value} {v : V} (X : K.In h) (G : h.Ns mainGlobals mg) (a : PySem.W.nsIn K mainGlobals x = some (some u)) (r : RelV v u) : ∃ u, mg x = some u ∧ RelV v u := ⟨u, PySem.W.mg_of X G a, r⟩
theorem non_at {K : PySem.W.Frag} {h : Heap} {mg : Str → Option Value} {x : Str} (X : K.In h) (G : h.Ns mainGlobals mg) (a : PySem.W.nsIn K mainGlobals x = some none) : mg x = none := PySem.W.mg_none_of X G a
theorem Cal.of {P : Program} {w : World} {K : PySem.W.Frag} {mg : Str → Option Value} {base : Heap} {k : Nat} {x : Str} {sp : Sp} {st : Stmt} {f : Addr} {fd : FuncData} {ps : List Str} (F : Fun K x x st f fd) (hm : mg x = some (.ref f)) (b : Binds K fd ps []) (h : FnOk P w K mg base CX0 k f fd ps sp) : Cal P w K mg base k x sp := ⟨f, fd, ps, h, hm, F.kp, b⟩
theorem CalG.of {P : Program} {w : World} {K : PySem.W.Frag} {mg : Str → Option Value} {base : Heap} {k : Nat} {x : Str} {sp : Sp} {st : Stmt} {f : Addr} {fd : FuncData} {ps : List Str} (F : Fun K x x st f fd) (hm : mg x = some (.ref f)) (b : Binds K fd ps []) (h : FnG P w K mg base k f fd ps sp) : CalG P w K mg base k x sp := ⟨f, fd, ps, h, hm, F.kp, b⟩
end RT
set_option Elab.async false
set_option linter.all false
set_option maxRecDepth 100000
/-! data with a Lean type, over the abstract heap -/
namespace RT
open PySem PySem.Spec PyProof.Rows L2 PySem.W

/-! ### data stays -/
theorem Same.sqT {K : PySem.W.Frag} {H J : Hp} {a : Addr} {xs : List V} (e : Same H J) (h : SqT K H a xs) : SqT K J a xs := by
  rcases h with (h | ⟨o, h⟩) | h
  · exact .inl (.inl (e _ _ h))
  · exact .inl (.inr ⟨o, e _ _ h⟩)
  · exact .inr h
section
variable {K : PySem.W.Frag} {H J : Hp}
mutual
theorem dp_same (e : Same H J) : ∀ (d : PyData) (v : V), Dp K H v d → Dp K J v d
  | .none, _, .non => .non
  | .bool _, _, .bl b => .bl b
  | .int _, _, .int i => .int i
  | .str _, _, .str x => .str x
  | .list ds, _, .lst h1 h2 => .lst (Same.seq e h1) (dpAll_same e ds _ h2)
  | .tuple ds, _, .tup h1 h2 => .tup (Same.sqT e h1) (dpAll_same e ds _ h2)
theorem dpAll_same (e : Same H J) : ∀ (ds : List PyData) (vs : List V), DpAll K H vs ds → DpAll K J vs ds
  | [], _, .nil => .nil
  | d :: ds, _, .cons h1 h2 => .cons (dp_same e d _ h1) (dpAll_same e ds _ h2)
end
mutual
/-- no list within: what can't change -/
def imm : PyData → Bool
  | .list _ => false
  | .tuple ds => immAll ds
  | .dict _ => false
  | _ => true
def immAll : List PyData → Bool
  | [] => true
  | d :: ds => imm d && immAll ds
end
theorem sqT_ext {a p : Addr} {xs ys : List V} (e : Ext p H J) (hp : H p = some (.lst ys)) (h : SqT K H a xs) : SqT K J a xs := by
  rcases h with (h | ⟨o, h⟩) | h
  · exact .inl (.inl (e _ _ (ne_of h hp (by intro z; cases z)) h))
  · exact .inl (.inr ⟨o, e _ _ (ne_of h hp (by intro z; cases z)) h⟩)
  · exact .inr h
mutual
theorem dp_ext {p : Addr} {ys : List V} (e : Ext p H J) (hp : H p = some (.lst ys)) : ∀ (d : PyData) (v : V), imm d = true → Dp K H v d → Dp K J v d
  | .none, _, _, .non => .non
  | .bool _, _, _, .bl b => .bl b
  | .int _, _, _, .int i => .int i
  | .str _, _, _, .str x => .str x
  | .list _, _, i, .lst _ _ => by simp [imm] at i
  | .tuple ds, _, i, .tup h1 h2 => .tup (sqT_ext e hp h1) (dpAll_ext e hp ds _ (by simpa [imm] using i) h2)
theorem dpAll_ext {p : Addr} {ys : List V} (e : Ext p H J) (hp : H p = some (.lst ys)) : ∀ (ds : List PyData) (vs : List V), immAll ds = true → DpAll K H vs ds → DpAll K J vs ds
  | [], _, _, .nil => .nil
  | d :: ds, _, i, .cons h1 h2 => by
    simp only [immAll, Bool.and_eq_true] at i
    exact .cons (dp_ext e hp d _ i.1 h1) (dpAll_ext e hp ds _ i.2 h2)
end
theorem dpAll_app : ∀ {xs ys : List V} {ds es : List PyData}, DpAll K H xs ds → DpAll K H ys es → DpAll K H (xs ++ ys) (ds ++ es)
  | _, _, _, _, .nil, h => h
  | _, _, _, _, .cons a r, h => .cons a (dpAll_app r h)
theorem dpAll_len : ∀ {xs : List V} {ds : List PyData}, DpAll K H xs ds → xs.length = ds.length
  | _, _, .nil => rfl
  | _, _, .cons _ r => by rw [List.length_cons, List.length_cons, dpAll_len r]
theorem dpAll_at : ∀ {xs : List V} {ds : List PyData} {i : Nat} {x : V}, DpAll K H xs ds → xs[i]? = some x → ∃ d, ds[i]? = some d ∧ Dp K H x d
  | _, _, _, _, .nil, h => by simp at h
  | _, _, 0, _, .cons a _, h => by
    cases (Option.some.inj h : _ = _)
    exact ⟨_, rfl, a⟩
  | _, _, i + 1, _, .cons _ r, h => dpAll_at (i := i) r h
theorem dpAll_pick : ∀ {xs : List V} {ds : List PyData} {i : Nat} {d : PyData}, DpAll K H xs ds → ds[i]? = some d → ∃ x, xs[i]? = some x ∧ Dp K H x d
  | _, _, _, _, .nil, h => by simp at h
  | _, _, 0, _, .cons a _, h => by
    cases (Option.some.inj h : _ = _)
    exact ⟨_, rfl, a⟩
  | _, _, i + 1, _, .cons _ r, h => dpAll_pick (i := i) r h
end

/-! ### with a type -/
section
variable {α β : Type} [DecidableEq α] [Datum α] [DecidableEq β] [Datum β] {K : PySem.W.Frag} {H J : Hp}
/-- v is x -/
abbrev Tv (K : PySem.W.Frag) (H : Hp) (v : V) (x : α) : Prop := Dp K H v (Datum.toD x)
abbrev Tva (K : PySem.W.Frag) (H : Hp) (vs : List V) (xs : List α) : Prop := DpAll K H vs (xs.map Datum.toD)
theorem Tv.same {v : V} {x : α} (h : Tv K H v x) (e : Same H J) : Tv K J v x := dp_same e _ _ h
theorem Tva.same {vs : List V} {xs : List α} (h : Tva K H vs xs) (e : Same H J) : Tva K J vs xs := dpAll_same e _ _ h
theorem tv_str (z : Str) : Tv K H (.str z) z := .str z
theorem tv_int (i : Int) : Tv K H (.int i) i := .int i
theorem tv_bool (b : Bool) : Tv K H (.bl b) b := .bl b
theorem tva_strs : ∀ zs : List Str, Tva K H (zs.map V.str) zs
  | [] => .nil
  | z :: r => .cons (.str z) (tva_strs r)
theorem tva_bools : ∀ bs : List Bool, Tva K H (bs.map V.bl) bs
  | [] => .nil
  | b :: r => .cons (.bl b) (tva_bools r)
theorem tv_lst {a : Addr} {vs : List V} {xs : List α} (h : H a = some (.lst vs)) (r : Tva K H vs xs) : Tv K H (.ref a) xs := .lst (SqL.of h) r
theorem tv_tup {a : Addr} {vs : List V} {xs : List α} (h : H a = some (.tup vs)) (r : Tva K H vs xs) : Tv K H (.ref a) (Tup.mk xs) := .tup (SqT.of h) r
theorem tv_pair {a : Addr} {u v : V} {x : α} {y : β} (h : H a = some (.tup [u, v])) (hu : Tv K H u x) (hv : Tv K H v y) : Tv K H (.ref a) (x, y) := .tup (SqT.of h) (.cons hu (.cons hv .nil))
theorem is_str {v : V} {z : Str} (h : Tv K H v z) : v = .str z := by
  cases h
  rfl
theorem is_pair {v : V} {x : α} {y : β} (h : Tv K H v (x, y)) : ∃ a u w, v = .ref a ∧ SqT K H a [u, w] ∧ Tv K H u x ∧ Tv K H w y := by
  cases h with
  | tup h1 h2 =>
    cases h2 with
    | cons a r =>
      cases r with
      | cons b r =>
        cases r
        exact ⟨_, _, _, rfl, h1, a, b⟩
theorem is_tup {v : V} {xs : List α} (h : Tv K H v (Tup.mk xs)) : ∃ a vs, v = .ref a ∧ SqT K H a vs ∧ Tva K H vs xs := by
  cases h with
  | tup h1 h2 => exact ⟨_, _, rfl, h1, h2⟩
theorem is_lst {v : V} {xs : List α} (h : Tv K H v xs) : ∃ a vs, v = .ref a ∧ SqL K H a vs ∧ Tva K H vs xs := by
  cases h with
  | lst h1 h2 => exact ⟨_, _, rfl, h1, h2⟩
theorem Tva.len {vs : List V} {xs : List α} (h : Tva K H vs xs) : vs.length = xs.length := by
  have := dpAll_len h
  rw [List.length_map] at this
  exact this
theorem Tva.app {vs ws : List V} {xs ys : List α} (h : Tva K H vs xs) (g : Tva K H ws ys) : Tva K H (vs ++ ws) (xs ++ ys) := by
  show DpAll K H _ ((xs ++ ys).map Datum.toD)
  rw [List.map_append]
  exact dpAll_app h g
theorem Tva.one {v : V} {x : α} (h : Tv K H v x) : Tva K H [v] [x] := .cons h .nil
theorem Tva.at {vs : List V} {xs : List α} {i : Nat} {v : V} (h : Tva K H vs xs) (e : vs[i]? = some v) : ∃ x, xs[i]? = some x ∧ Tv K H v x := by
  obtain ⟨d, hd, r⟩ := dpAll_at h e
  rw [List.getElem?_map] at hd
  obtain ⟨x, hx, rfl⟩ := Option.map_eq_some_iff.mp hd
  exact ⟨x, hx, r⟩
theorem Tva.pick {vs : List V} {xs : List α} {i : Nat} {x : α} (h : Tva K H vs xs) (e : xs[i]? = some x) : ∃ v, vs[i]? = some v ∧ Tv K H v x :=
  dpAll_pick h (by rw [List.getElem?_map, e]; rfl)
end

/-! ### the rules -/
section
variable {α : Type} [DecidableEq α] [Datum α] {X : Cx} {K : PySem.W.Frag} {pins : List (Addr × Obj)} {σ : L2.St} {H : Hp} {s : Shared}
theorem Tv.holds {v : V} {u : Value} {x : α} (I : Inv X pins σ H s) (h : Tv X.K H v x) (r : RelV v u) : Holds s.heap u x := Dp.reads I _ _ _ h r
def oEqT (α : Type) [DecidableEq α] [Datum α] (K : PySem.W.Frag) : R2 := fun x y H Q => ∃ a b : α, Tv K H x a ∧ Tv K H y b ∧ Q (.bl (decide (a = b))) H
def oNeT (α : Type) [DecidableEq α] [Datum α] (K : PySem.W.Frag) : R2 := fun x y H Q => ∃ a b : α, Tv K H x a ∧ Tv K H y b ∧ Q (.bl (decide (a ≠ b))) H
theorem k_eqT {k : Nat} (hr : Room k X.A) (hd : Datum.depth α ≤ 60) (h : X.K = K := by rfl) : OpR X (compareOp .Eq) (oEqT α K) := by
  subst h
  intro pins s σ H x y v u Q I rx ry h
  obtain ⟨a, b, ha, hb, q⟩ := h
  have un := hr.units
  exact eq_datum (ha.holds I rx) (hb.holds I ry) (by omega) ⟨.bl _, H, I, rfl, q⟩
theorem k_neT {k : Nat} (hr : Room k X.A) (hd : Datum.depth α ≤ 60) (h : X.K = K := by rfl) : OpR X (compareOp .NotEq) (oNeT α K) := by
  subst h
  intro pins s σ H x y v u Q I rx ry h
  obtain ⟨a, b, ha, hb, q⟩ := h
  have un := hr.units
  exact ne_datum (ha.holds I rx) (hb.holds I ry) (by omega) ⟨.bl _, H, I, rfl, q⟩
def oInL (α : Type) [DecidableEq α] [Datum α] (K : PySem.W.Frag) : R2 := fun x y H Q => ∃ (a : α) (xs : List α), Tv K H x a ∧ Tv K H y xs ∧ Q (.bl (decide (a ∈ xs))) H
def oNinL (α : Type) [DecidableEq α] [Datum α] (K : PySem.W.Frag) : R2 := fun x y H Q => ∃ (a : α) (xs : List α), Tv K H x a ∧ Tv K H y xs ∧ Q (.bl (decide (a ∉ xs))) H
def oInU (α : Type) [DecidableEq α] [Datum α] (K : PySem.W.Frag) : R2 := fun x y H Q => ∃ (a : α) (xs : List α), Tv K H x a ∧ Tv K H y (Tup.mk xs) ∧ Q (.bl (decide (a ∈ xs))) H
def oNinU (α : Type) [DecidableEq α] [Datum α] (K : PySem.W.Frag) : R2 := fun x y H Q => ∃ (a : α) (xs : List α), Tv K H x a ∧ Tv K H y (Tup.mk xs) ∧ Q (.bl (decide (a ∉ xs))) H
theorem lst_holds {a : Addr} {vs : List V} {xs : List α} (I : Inv X pins σ H s) (h1 : SqL X.K H a vs) (h2 : Tva X.K H vs xs) : ∃ us, s.heap.IsList a us ∧ HoldAll s.heap us.toList xs := by
  obtain ⟨its, r, pl, hz⟩ := I.list h1
  exact ⟨_, pl.isList, Dp.readsAll I _ _ _ h2 r⟩
theorem tup_holds {a : Addr} {vs : List V} {xs : List α} (I : Inv X pins σ H s) (h1 : SqT X.K H a vs) (h2 : Tva X.K H vs xs) : ∃ us, s.heap.IsTuple a us ∧ HoldAll s.heap us.toList xs := by
  obtain ⟨its, r, pl, hz⟩ := I.tuple h1
  exact ⟨_, pl, Dp.readsAll I _ _ _ h2 r⟩
theorem k_inL {k : Nat} (hr : Room k X.A) (hd : Datum.depth α ≤ 60) (h : X.K = K := by rfl) : OpR X (compareOp .In) (oInL α K) := by
  subst h
  intro pins s σ H x y v u Q I rx ry h
  obtain ⟨a, xs, ha, hb, q⟩ := h
  have un := hr.units
  obtain ⟨l, vs, rfl, h1, h2⟩ := is_lst hb
  cases ry
  obtain ⟨us, g1, g2⟩ := lst_holds I h1 h2
  exact in_list_datum g1 g2 (ha.holds I rx) (by omega) ⟨.bl _, H, I, rfl, q⟩
theorem k_ninL {k : Nat} (hr : Room k X.A) (hd : Datum.depth α ≤ 60) (h : X.K = K := by rfl) : OpR X (compareOp .NotIn) (oNinL α K) := by
  subst h
  intro pins s σ H x y v u Q I rx ry h
  obtain ⟨a, xs, ha, hb, q⟩ := h
  have un := hr.units
  obtain ⟨l, vs, rfl, h1, h2⟩ := is_lst hb
  cases ry
  obtain ⟨us, g1, g2⟩ := lst_holds I h1 h2
  exact notIn_list_datum g1 g2 (ha.holds I rx) (by omega) ⟨.bl _, H, I, rfl, q⟩
theorem k_inU {k : Nat} (hr : Room k X.A) (hd : Datum.depth α ≤ 60) (h : X.K = K := by rfl) : OpR X (compareOp .In) (oInU α K) := by
  subst h
  intro pins s σ H x y v u Q I rx ry h
  obtain ⟨a, xs, ha, hb, q⟩ := h
  have un := hr.units
  obtain ⟨l, vs, rfl, h1, h2⟩ := is_tup hb
  cases ry
  obtain ⟨us, g1, g2⟩ := tup_holds I h1 h2
  exact in_tuple_datum g1 g2 (ha.holds I rx) (by omega) ⟨.bl _, H, I, rfl, q⟩
theorem k_ninU {k : Nat} (hr : Room k X.A) (hd : Datum.depth α ≤ 60) (h : X.K = K := by rfl) : OpR X (compareOp .NotIn) (oNinU α K) := by
  subst h
  intro pins s σ H x y v u Q I rx ry h
  obtain ⟨a, xs, ha, hb, q⟩ := h
  have un := hr.units
  obtain ⟨l, vs, rfl, h1, h2⟩ := is_tup hb
  cases ry
  obtain ⟨us, g1, g2⟩ := tup_holds I h1 h2
  exact notIn_tuple_datum g1 g2 (ha.holds I rx) (by omega) ⟨.bl _, H, I, rfl, q⟩
end
section
variable {α : Type} [DecidableEq α] [Datum α] {K : PySem.W.Frag} {H : Hp} {Q : VK} {x y : V}
theorem w_eqT {a b : α} (h1 : Tv K H x a) (h2 : Tv K H y b) (q : Q (.bl (decide (a = b))) H) : oEqT α K x y H Q := ⟨a, b, h1, h2, q⟩
theorem w_neT {a b : α} (h1 : Tv K H x a) (h2 : Tv K H y b) (q : Q (.bl (decide (a ≠ b))) H) : oNeT α K x y H Q := ⟨a, b, h1, h2, q⟩
theorem w_inL {a : α} {xs : List α} (h1 : Tv K H x a) (h2 : Tv K H y xs) (q : Q (.bl (decide (a ∈ xs))) H) : oInL α K x y H Q := ⟨a, xs, h1, h2, q⟩
theorem w_ninL {a : α} {xs : List α} (h1 : Tv K H x a) (h2 : Tv K H y xs) (q : Q (.bl (decide (a ∉ xs))) H) : oNinL α K x y H Q := ⟨a, xs, h1, h2, q⟩
theorem w_inU {a : α} {xs : List α} (h1 : Tv K H x a) (h2 : Tv K H y (Tup.mk xs)) (q : Q (.bl (decide (a ∈ xs))) H) : oInU α K x y H Q := ⟨a, xs, h1, h2, q⟩
theorem w_ninU {a : α} {xs : List α} (h1 : Tv K H x a) (h2 : Tv K H y (Tup.mk xs)) (q : Q (.bl (decide (a ∉ xs))) H) : oNinU α K x y H Q := ⟨a, xs, h1, h2, q⟩
/-- repr of typed data -/
theorem w_reprT {a : Addr} {z : α} (h : Tv K H (.ref a) z) (h1 : PyData.showable (Datum.toD z) = true) (h2 : PyData.hasDict (Datum.toD z) = false) (h3 : Datum.depth α ≤ 60) (h4 : (PyData.shown (Datum.toD z)).length ≤ sizeLine) (q : Q (.str (PyData.shown (Datum.toD z))) H) : rReprD K [.ref a] H Q :=
  ⟨a, _, rfl, h, h1, h2, Nat.le_trans (Datum.depth_le z) h3, h4, q⟩
end
end RT
set_option Elab.async false
set_option linter.all false
set_option maxRecDepth 100000
set_option maxHeartbeats 4000000
namespace RT
open PySem PySem.Spec PyProof.Rows
section
variable {prog : Program} {w : World} {A : Around} {E : Value → Shared → Prop} {R : Result → Shared → Prop} {hp : Heap} {gs : Array GenState} {dr : Drawn} {tk : Nat} {os : OsState}
variable {nm qn : Str} {C N : Addr} {bs mr tail : List Value} {hd : Bool} {sn : List Str} {sub : List Value} {ab : Bool} {col : Option Bool} {dd : Option Addr} {j0 j1 j2 j3 j5 : Option Value} {B nw it : String}

theorem kw_check (FB : ExcBaseFacts B nw it tail) (same : ∀ T : String, mr.contains (.type T) = tail.contains (.type T)) {us : List Value} {kws : List (Str × Value)} {Q : Unit → Shared → Prop}
    (hC : hp.get? C = some (excClassObj nm qn C N bs mr hd sn sub ab col dd j0 j1 j2 j3 j5 nw)) (hq : Q () ⟨hp, gs, dr, tk, os⟩) :
    wpAny (model prog w) A (checkBuiltinCall nw ⟨.ref C :: us, kws⟩) Q E ⟨hp, gs, dr, tk, os⟩ := by
  have has : (Value.ref C :: mr).contains (.type B) = true := by
    rw [List.contains_cons, same, FB.hasB]
    exact Bool.or_true _
  have := FB.noStar
  simp only [checkBuiltinCall, FB.newKind, FB.newSplit, FB.newRow]
  repeat (first
    | refine wpAny_loadPart_at hC ?_
    | (refine wpAny_isSubtype_exc hC ?_; rw [has])
    | refine wpAny_staticBase_exc hC ?_
    | refine wpAny_madeBy_exc hC ?_
    | simp only [bne_self_eq_false, Bool.false_eq_true, if_false]
    | wp_step)
  exact hq
theorem kw_new (FB : ExcBaseFacts B nw it tail) (same : ∀ T : String, mr.contains (.type T) = tail.contains (.type T)) {us : List Value} {kws : List (Str × Value)}
    (hC : hp.get? C = some (excClassObj nm qn C N bs mr hd sn sub ab col dd j0 j1 j2 j3 j5 nw)) (fits : us.length ≤ sizeLine)
    (hq : R (.ok (.ret (.ref (hp.objs.size + 1)))) ⟨(hp.push (PySem.W.kdv_tup us)).push (PySem.HandSPX.excO C hp.objs.size), gs, dr, tk, os⟩) :
    codeAny (model prog w) A (.builtin nw ⟨.ref C :: us, kws⟩) R ⟨hp, gs, dr, tk, os⟩ := by
  have e0 := FB.ends
  have e1 : (Value.ref C :: mr).contains (.type B) = true := by
    rw [List.contains_cons, same, FB.hasB]
    exact Bool.or_true _
  have e2 : (Value.ref C :: mr).contains (.type "AttributeError") = false := by
    rw [List.contains_cons, same, FB.noAttr]
    rfl
  have e3 : (Value.ref C :: mr).contains (.type "NameError") = false := by
    rw [List.contains_cons, same, FB.noName]
    rfl
  refine codeAny_builtinAt FB.entry ?_
  unfold PySem.Builtin.«BaseException.__new__»
  refine PySem.wpAt_bind ?_
  show PySem.wpAt _ _ _ (stack >>= _) _ _ _
  refine PySem.wpAt_bind (PySem.wpAt_stack fun p below => PySem.wpAt_of_wpAny ?_)
  wp_walk
  refine PySem.wpAt_of_wpAny ?_
  rw [FB.owner]
  repeat (first
    | with_reducible refine wpAny_madeHere_exc FB.canon hC ?_
    | with_reducible refine wpAny_loadPart_at hC ?_
    | (with_reducible refine wpAny_isSubtype_exc hC ?_
       first | rw [e1] | rw [e2] | rw [e3])
    | wp_step)
  show R _ _
  rw [Heap.size_push hp]
  exact hq
theorem kw_type {Q : Fin → Shared → Prop} {fI : Addr} (FB : ExcBaseFacts B nw it tail) (same : ∀ T : String, mr.contains (.type T) = tail.contains (.type T)) {us : List Value} {kws : List (Str × Value)}
    (hC : hp.get? C = some (excClassObj nm qn C N bs mr hd sn sub ab col dd j0 j1 j2 j3 j5 nw)) (fits : us.length ≤ sizeLine)
    (hi : PySem.W.Looks (model prog w) hp (typeLookup (.ref C) "__init__") (some (.ref fI))) (hb : ∀ self, PySem.W.Looks (model prog w) hp (bindSpecial (.ref fI) self) (.ref fI, [self]))
    (hq : codeAny (model prog w) A (.call (.ref fI) ⟨.ref (hp.objs.size + 1) :: us, kws⟩)
      (fun r s' => match r with | .ok (.ret v) => v = .none ∧ Q (.done (.ret (.ref (hp.objs.size + 1)))) s' | .ok _ => False | .error e => E e s')
      ⟨(hp.push (PySem.W.kdv_tup us)).push (PySem.HandSPX.excO C hp.objs.size), gs, dr, tk, os⟩) :
    wpAny (model prog w) A (Builtin.«type.__call__» ⟨.ref C :: us, kws⟩) Q E ⟨hp, gs, dr, tk, os⟩ := by
  repeat (first
    | with_reducible refine wpAny_madeBy_exc hC ?_
    | with_reducible refine wpAny_loadPart_at hC ?_
    | wp_step)
  refine codeAny_call_builtin_code (Code.quiet_builtin _ FB.quiet) (kw_check FB same hC ?_)
  refine kw_new FB same hC fits ?_
  show wpAny _ _ _ _ _ _
  have up : ∀ b o, hp.get? b = some o → ((hp.push (PySem.W.kdv_tup us)).push (PySem.HandSPX.excO C hp.objs.size)).get? b = some o := fun b o e => Heap.get?_push_of_some _ (Heap.get?_push_of_some _ e)
  have hC2 := up _ _ hC
  have hx2 : ((hp.push (PySem.W.kdv_tup us)).push (PySem.HandSPX.excO C hp.objs.size)).get? (hp.objs.size + 1) = some (PySem.HandSPX.excO C hp.objs.size) := by heap_get
  have self : (Value.ref C :: mr).contains (.ref C) = true := by simp
  have i2 := hi.keeps up
  have b2 := (hb (.ref (hp.objs.size + 1))).keeps up
  unfold isInstance
  repeat (first
    | with_reducible refine wpAny_loadPart_at hx2 ?_
    | (with_reducible refine wpAny_isSubtype_exc hC2 ?_
       rw [self])
    | wp_step)
  show wpAny _ _ (typeLookup (Value.ref C) _) _ _ _
  refine i2.at (PySem.wpAny_holding (PySem.wpAny_bind (b2.at (PySem.wpAny_bind (wpAny_call (codeAny_mono hq fun r s' z => ?_))))))
  match r, z with
  | .error _, z => exact z
  | .ok (.ret _), ⟨rfl, z⟩ => exact wpAny_pure (wpAny_pure z)
  | .ok .next, z => exact z.elim
  | .ok .brk, z => exact z.elim
  | .ok .cont, z => exact z.elim
theorem kw_checkT {us : List Value} {kws : List (Str × Value)} {Q : Unit → Shared → Prop} (hC : hp.get? C = some (excClassObj nm qn C N bs mr hd sn sub ab col dd j0 j1 j2 j3 j5 nw)) (hq : Q () ⟨hp, gs, dr, tk, os⟩) :
    wpAny (model prog w) A (checkBuiltinCall "type.__call__" ⟨.ref C :: us, kws⟩) Q E ⟨hp, gs, dr, tk, os⟩ := by
  have e3 := tc_sub
  have ty : (⟨hp, gs, dr, tk, os⟩ : Shared).TypeIs (.ref C) "type" := ⟨_, hC, rfl⟩
  simp only [tc_split, tc_kind, checkBuiltinCall]
  repeat (any_goals (first
    | assumption
    | with_reducible refine wpAny_loadPart_at hC ?_
    | with_reducible refine wpAny_onRaise ?_
    | with_reducible refine wpAny_map ?_
    | wp_step))
theorem kw_call {fI : Addr} (FB : ExcBaseFacts B nw it tail) (same : ∀ T : String, mr.contains (.type T) = tail.contains (.type T)) {us : List Value} {kws : List (Str × Value)}
    (hC : hp.get? C = some (excClassObj nm qn C N bs mr hd sn sub ab col dd j0 j1 j2 j3 j5 nw)) (fits : us.length ≤ sizeLine)
    (hi : PySem.W.Looks (model prog w) hp (typeLookup (.ref C) "__init__") (some (.ref fI))) (hb : ∀ self, PySem.W.Looks (model prog w) hp (bindSpecial (.ref fI) self) (.ref fI, [self]))
    (hq : codeAny (model prog w) (A.under (.builtin "type.__call__" ⟨.ref C :: us, kws⟩)) (.call (.ref fI) ⟨.ref (hp.objs.size + 1) :: us, kws⟩) (PySem.W.InitBack (hp.objs.size + 1) R)
      ⟨(hp.push (PySem.W.kdv_tup us)).push (PySem.HandSPX.excO C hp.objs.size), gs, dr, tk, os⟩) :
    codeAny (model prog w) A (.call (.ref C) ⟨us, kws⟩) R ⟨hp, gs, dr, tk, os⟩ := by
  have e1 := tc_lookup
  have e2 := tc_bind (.ref C)
  have ty : (⟨hp, gs, dr, tk, os⟩ : Shared).TypeIs (.ref C) "type" := ⟨_, hC, rfl⟩
  refine codeAny_of_tree ?_
  show wpAny _ _ (callAny (Value.ref C) _) _ _ _
  repeat (any_goals (first
    | assumption
    | with_reducible refine wpAny_loadPart_at hC ?_
    | wp_step))
  refine ⟨rfl, ?_⟩
  refine codeAny_call_builtin_at (Code.quiet_builtin _ (by decide +kernel)) entry_typeCall ?_
  refine kw_checkT hC (kw_type FB same hC fits hi hb (codeAny_mono hq fun r s' z => ?_))
  match r, z with
  | .error _, z => exact z
  | .ok (.ret _), z => exact z
  | .ok .next, z => exact z
  | .ok .brk, z => exact z
  | .ok .cont, z => exact z
end
end RT
set_option Elab.async false
set_option linter.all false
set_option maxRecDepth 100000
set_option maxHeartbeats 4000000
namespace RT
open PySem PySem.Spec PyProof.Rows L2
/-! ### errors of own classes, held as values -/
/-- what a class of errors must say of itself -/
structure XC (K : PySem.W.Frag) (C : Addr) : Prop where
  base : ∃ (B nw it : String) (tail : List Value), ExcBaseFacts B nw it tail ∧ StoreFacts B tail "object.__setattr__" "object" ∧ PySem.W.excInitIn K C tail nw = true ∧ PySem.W.excOver K C tail = true
  put : PySem.W.findIn K (.ref C) "__setattr__" = some (some (.builtin "object.__setattr__"))
  dct : PySem.W.hasDictIn K C = true
  fld : XfC K C
  isa : ExcC K C
  kp : PySem.W.keepIn K (.ref C) = true
section
variable {X : Cx} {pins : List (Addr × Obj)} {σ : L2.St} {H : Hp} {s : Shared} {a C dx : Addr} {f : Str} {y : V} {u : Value} {fs : List (Str × V)} {Q : Unit → Shared → Prop} {E : Value → Shared → Prop} {A : Around}
theorem ns1_empty {h : Heap} {p : Addr} (e : h.get? p = some (PySem.W.dictOf [] 0)) : h.Ns1 p (fun _ => none) :=
  Heap.Ns1.of_empty ⟨_, #[], _, e, rfl, fun e he => absurd he (by simp), fun _ => rfl⟩
/-- the first field is stored -/
theorem put_new (T : XC X.K C) (I : Inv X pins σ H s) (e : H a = some (exo a C none)) (hno : PySem.W.takerIn X.K C f = some none) (ry : RelV y u)
    (h : ∀ dx J s', H dx = none → dx ≠ a → Ext a H J → J a = some (exo a C (some dx)) → J dx = some (exd dx [(f, y)]) → Inv X pins σ J s' → Q () s') : wpAny (model X.prog X.w) A (setAttr (.ref a) f u) Q E s := by
  obtain ⟨B, nw, it, tail, FB, SF, hi, ho⟩ := T.base
  obtain ⟨t1, hx⟩ := exo_at I.hok e
  obtain ⟨cd, hc, hd⟩ := PySem.W.any_some T.dct
  obtain ⟨hp, g, d, t, os⟩ := s
  have at0 : PySem.W.InstAt hp a { cls := .ref C, dict := none, data := .fields #[.ref t1, .none, .none, .none, .bool false, .none] } C none := ⟨hx, rfl, rfl, trivial⟩
  refine PySem.W.set_plain I.kIn at0 T.put (PySem.W.osa_openX SF I.kIn at0 ho hno fun b => ?_)
  have lt : a < hp.objs.size := Heap.lt_size hx
  refine PySem.wpAny_bind (wpAny_pure (PySem.wpAny_bind (PySem.W.instanceDict_exc (c2 := .none) hx (PySem.W.looks_clsIn I.kIn hc) hd ?_)))
  -- the three heaps
  have k1 : ∀ b o, hp.get? b = some o → (hp.push (PySem.W.dictOf [] 0)).get? b = some o := fun b o q => Heap.get?_push_of_some _ q
  have g1 : (hp.push (PySem.W.dictOf [] 0)).get? hp.objs.size = some (PySem.W.dictOf [] 0) := Heap.get?_push_at rfl rfl
  have I1 : Inv X pins σ (upd H hp.objs.size (exd hp.objs.size [])) ⟨hp.push (PySem.W.dictOf [] 0), g, d, t, os⟩ := I.laid (t' := t) k1 (Nat.le_refl _) (exd_ok (ns1_empty g1) fun _ => True.intro)
  have fr : H hp.objs.size = none := I.hok.fresh (Nat.le_refl _)
  have ne : hp.objs.size ≠ a := (Nat.ne_of_lt lt).symm
  have x2 : ((hp.push (PySem.W.dictOf [] 0)).update a fun o => { o with dict := some hp.objs.size }).get? a = some { cls := .ref C, dict := some hp.objs.size, data := .fields #[.ref t1, .none, .none, .none, .bool false, .none] } := Heap.get?_update_self _ (k1 _ _ hx) rfl
  have k2 : ∀ b o, b ≠ a → (hp.push (PySem.W.dictOf [] 0)).get? b = some o → ((hp.push (PySem.W.dictOf [] 0)).update a fun o => { o with dict := some hp.objs.size }).get? b = some o := fun b o n q => (Heap.get?_update_ne _ _ _ _ n).trans q
  have I2 := I1.write (t' := t) (x := a) (e := a) (o := exo a C (some hp.objs.size)) (by rw [upd_ne ne.symm, e]; exact True.intro) (.inl rfl) k2 ⟨_, x2⟩ (exo_ok x2)
  have g2 := k2 _ _ ne g1
  show wpAny _ _ (PySem.Builtin.ObjectAttr.storeInDict hp.objs.size (.str f t) f u) _ _ _
  refine PySem.HandSPX.store_in_new (ns1_empty g2).ns fun h' tk' n3 sb => ?_
  have k3 : ∀ b o, b ≠ hp.objs.size → ((hp.push (PySem.W.dictOf [] 0)).update a fun o => { o with dict := some hp.objs.size }).get? b = some o → h'.get? b = some o := fun b o n q => (sb.2 b n).trans q
  have I3 := I2.write (t' := tk') (x := hp.objs.size) (e := hp.objs.size) (o := exd hp.objs.size [(f, y)]) (by rw [upd_ne ne, upd_same]; exact True.intro) (.inl rfl) k3 (by obtain ⟨o, _, _, q, _⟩ := n3; exact ⟨o, q⟩) (exd_ok n3 (relO_put (fs := []) ry fun _ => True.intro))
  refine h hp.objs.size _ _ fr ne (fun b o n q => ?_) ?_ upd_same I3
  · rw [upd_ne (ne_of_none q fr), upd_ne n, upd_ne (ne_of_none q fr)]
    exact q
  · rw [upd_ne ne.symm, upd_same]
/-- one more field is stored -/
theorem put_old (T : XC X.K C) (I : Inv X pins σ H s) (e : H a = some (exo a C (some dx))) (ed : H dx = some (exd dx fs)) (hl : fs.length ≤ 900) (hno : PySem.W.takerIn X.K C f = some none) (ry : RelV y u)
    (h : ∀ s', Inv X pins σ (upd H dx (exd dx ((f, y) :: fs))) s' → Q () s') : wpAny (model X.prog X.w) A (setAttr (.ref a) f u) Q E s := by
  obtain ⟨B, nw, it, tail, FB, SF, hi, ho⟩ := T.base
  obtain ⟨t1, hx⟩ := exo_at I.hok e
  obtain ⟨cd, hc, hd⟩ := PySem.W.any_some T.dct
  obtain ⟨mA, hns, rel⟩ := exd_at I.hok ed
  have hw := within_of rel
  obtain ⟨hp, g, d, t, os⟩ := s
  obtain ⟨oD, _, _, hoD, _, _⟩ := hns.count hw
  have at0 : PySem.W.InstAt hp a { cls := .ref C, dict := some dx, data := .fields #[.ref t1, .none, .none, .none, .bool false, .none] } C (some oD) := ⟨hx, rfl, rfl, hoD⟩
  refine PySem.W.set_plain I.kIn at0 T.put (PySem.W.osa_openX SF I.kIn at0 ho hno fun b => ?_)
  have Lc : PySem.W.Looks (model X.prog X.w) hp (classData C) cd := PySem.W.looks_clsIn I.kIn hc
  refine PySem.wpAny_bind (wpAny_pure (PySem.wpAny_bind (PySem.wpAny_bind (wpAny_loadPart hx (PySem.wpAny_bind (Lc.at ?_))))))
  rw [hd]
  refine wpAny_pure (a := some dx) ?_
  refine PySem.OEX.store_in_old hns hw (by rw [List.length_map]; omega) fun h' tk' n3 sb => ?_
  exact h _ (I.write (t' := tk') (x := dx) (e := dx) (o := exd dx ((f, y) :: fs)) (by rw [ed]; exact True.intro) (.inl rfl) (fun b o n q => (sb.2 b n).trans q) (by obtain ⟨o, _, _, q, _⟩ := n3; exact ⟨o, q⟩) (exd_ok n3 (relO_put ry rel)))
end
/-- an error of the class C at a, with these fields -/
def ErrAt (H : Hp) (a C : Addr) (fs : List (Str × V)) : Prop := (fs = [] ∧ H a = some (exo a C none)) ∨ ∃ dx, H a = some (exo a C (some dx)) ∧ H dx = some (exd dx fs)
theorem ErrAt.same {H J : Hp} {a C : Addr} {fs : List (Str × V)} (h : ErrAt H a C fs) (s : Same H J) : ErrAt J a C fs := by
  rcases h with ⟨e, h⟩ | ⟨dx, h, k⟩
  · exact .inl ⟨e, s _ _ h⟩
  · exact .inr ⟨dx, s _ _ h, s _ _ k⟩
/-- self.f = e -/
def oPut (K : PySem.W.Frag) (f : Str) (x y : V) (H : Hp) (N : Hp → Prop) : Prop := ∃ a C : Addr, x = .ref a ∧ XC K C ∧ PySem.W.takerIn K C f = some none ∧
  ((H a = some (exo a C none) ∧ ∀ dx J, H dx = none → dx ≠ a → Ext a H J → J a = some (exo a C (some dx)) → J dx = some (exd dx [(f, y)]) → N J) ∨
    ∃ dx fs, H a = some (exo a C (some dx)) ∧ H dx = some (exd dx fs) ∧ fs.length ≤ 900 ∧ N (upd H dx (exd dx ((f, y) :: fs))))
def tPut (K : PySem.W.Frag) (f : Str) (to te : TE) : TS := fun D σ H => te σ H fun y J => to σ J fun x L => oPut K f x y L fun M => D.nx σ M
/-- e.f -/
def oFld (K : PySem.W.Frag) (f : Str) (x : V) (H : Hp) (Q : VK) : Prop := ∃ a C dx fs v, x = .ref a ∧ XC K C ∧ PySem.W.findIn K (.ref C) f = some none ∧ H a = some (exo a C (some dx)) ∧ H dx = some (exd dx fs) ∧ fs.lookup f = some v ∧ Q v H
def tFld (K : PySem.W.Frag) (f : Str) (te : TE) : TE := fun σ H Q => te σ H fun x J => oFld K f x J Q
/-- isinstance(e, c) -/
def oIsx (K : PySem.W.Frag) : List V → Hp → VK → Prop := fun xs H Q => ∃ a C c cv fs b, xs = [.ref a, c] ∧ ClsV c cv ∧ XC K C ∧ ErrAt H a C fs ∧ PySem.W.kitOne K (.ref C) cv = some b ∧ Q (.bl b) H
/-- C(e, ..) -/
def oMkx (C : Addr) (sp : Sp) (vs : List V) (H : Hp) (Q : VK) : Prop := vs.length ≤ 1000 ∧ ∀ a L, H a = none → Same H L → L a = some (exo a C none) → sp (.ref a :: vs) L (fun v M => v = .non ∧ Q (.ref a) M) E0
def tMkx (C : Addr) (sp : Sp) (ta : TA) : TE := fun σ H Q => ta σ H fun vs J => oMkx C sp vs J Q
/-- C(k = e, ..) -/
def oMky (C : Addr) (m : Nat) (sp : Sp) (gV : List V → List V → List V) (zs : List V) (H : Hp) (Q : VK) : Prop := zs.length = m ∧ ∀ a L, H a = none → Same H L → L a = some (exo a C none) → sp (gV [.ref a] zs) L (fun v M => v = .non ∧ Q (.ref a) M) E0
def tMky (C : Addr) (m : Nat) (sp : Sp) (gV : List V → List V → List V) (tk : TA) : TE := fun σ H Q => tk σ H fun zs J => oMky C m sp gV zs J Q
/-- C(), a class without __init__ of its own -/
def tMk0 (C : Addr) : TE := fun _ H Q => ∀ a L, H a = none → Same H L → L a = some (exo a C none) → Q (.ref a) L
section
variable {X : Cx} {o e : Expr} {es : List Expr} {to te : TE} {f x : Str} {p p' pos : Pos} {k n : Nat} {C fI : Addr} {fd : FuncData} {ps ks : List Str} {sp : Sp} {ta tk : TA} {kws : List Keyword} {g : List Value → List Value → List Value} {gV : List V → List V → List V}
theorem ps_put (ho : PE X o to) (he : PE X e te) (hs : swapsWith e (some (.Attribute o f p')) pos.line X.env = pure false := by rfl) : PS X (.Assign [.Attribute o f p'] e pos) (tPut X.K f to te) := by
  refine ⟨fun pins s σ H D I h => ?_⟩
  refine plainObj_wpAny_Assign_Attribute (thn (he.run pins s σ H _ I h) fun v s1 got => ?_) hs
  obtain ⟨y, H1, I1, r1, q1⟩ := got
  refine thn (ho.run pins s1 σ H1 _ I1 q1) fun u s2 got => ?_
  obtain ⟨x, H2, I2, r2, a, C, rfl, T, hno, q⟩ := got
  cases r2
  rcases q with ⟨ea, q⟩ | ⟨dx, fs, ea, ed, hl, q⟩
  · exact put_new T I2 ea hno r1 fun dx J s' n ne x1 x2 x3 K => ⟨σ, _, K, q dx J n ne x1 x2 x3⟩
  · exact put_old T I2 ea ed hl hno r1 fun s' J => ⟨σ, _, J, q⟩
theorem pe_fld (he : PE X e te) (hb : attributeBase e f X.env (eval e X.env) = eval e X.env := by rfl) : PE X (.Attribute e f pos) (tFld X.K f te) := by
  refine ⟨fun pins s σ H Q I h => attr_of hb (thn (he.run pins s σ H _ I h) fun u s1 got => ?_)⟩
  obtain ⟨x, H1, I1, rx, a, C, dx, fs, v, rfl, T, hno, ea, ed, l, q⟩ := got
  cases rx
  obtain ⟨t1, hx⟩ := exo_at I1.hok ea
  obtain ⟨mA, hns, hr⟩ := exd_at I1.hok ed
  obtain ⟨od, ho, hl⟩ := lookIn_ns hns
  obtain ⟨u, hu, ru⟩ := RelO.some_of (v := v) (o := mA f) (by rw [← l]; exact hr f)
  have at1 : PySem.W.InstAt s1.heap a { cls := .ref C, dict := some dx, data := .fields #[.ref t1, .none, .none, .none, .bool false, .none] } C (some od) := ⟨hx, rfl, rfl, ho⟩
  exact PySem.HandSPX.exc_get I1.kIn at1 T.fld.ga T.fld.gg T.fld.exC (PySem.W.findObj_own T.fld.hdC hno rfl (by rw [hl, hu])) (handed_of ru) ⟨v, H1, I1.tok _, ru, q⟩
theorem call_isx : CallR X (.builtin "isinstance") (oIsx X.K) := by
  intro pins s σ H xs us Q I r h
  obtain ⟨a, C, c, cv, fs, b, rfl, hcv, T, ea, ek, q⟩ := h
  obtain ⟨u1, u2, rfl, r1, r2⟩ := vals2 r
  cases r1
  have ec := hcv.eq r2
  subst ec
  have some1 : (PySem.W.clsIn X.K C).isSome = true := by
    obtain ⟨cd, hc, _⟩ := PySem.W.any_some T.dct
    rw [hc]
    rfl
  have go : ∀ {ox : Obj} {od : Option Obj}, PySem.W.InstAt s.heap a ox C od → wpAny (model X.prog X.w) X.A (call (.builtin "isinstance") [.ref a, u2]) (EP X pins σ Q) X.xe s := fun J =>
    PySem.W.kia_one (PySem.W.kitx_exc some1 T.isa.hg T.isa.hk T.isa.hs T.isa.ha T.isa.hn T.isa.ht T.isa.hm) I.kIn J ek (fun z => nomatch z) fun tk => ⟨.bl b, H, I.tok tk, rfl, q⟩
  rcases ea with ⟨_, ea⟩ | ⟨dx, ea, ed⟩
  · obtain ⟨t1, hx⟩ := exo_at I.hok ea
    exact go (od := none) ⟨hx, rfl, rfl, trivial⟩
  · obtain ⟨t1, hx⟩ := exo_at I.hok ea
    obtain ⟨mA, hns, hr⟩ := exd_at I.hok ed
    obtain ⟨od, ho, hl⟩ := lookIn_ns hns
    exact go (od := some od) ⟨hx, rfl, rfl, ho⟩
theorem run_mkx {pins : List (Addr × Obj)} {σ : L2.St} {H : Hp} {s : Shared} {Q : VK} {us ws : List Value} {vs zs : List V} (T : XC X.K C) (iC : PySem.W.findIn X.K (.ref C) "__init__" = some (some (.ref fI))) (tI : PySem.W.typeIn X.K (.ref fI) = some (.type "function"))
    (F1 : FnOk X.prog X.w X.K X.mg X.base CX0 k fI fd ps sp) (hr : Room (k + 1) X.A) (hb : KBn X.K fd ps (n + 1) ks g gV) (I : Inv X pins σ H s) (r : Vals vs us) (rz : Vals zs ws) (l1 : vs.length = n) (l2 : zs.length = ks.length) (fits : n ≤ 1000)
    (h : ∀ a L, H a = none → Same H L → L a = some (exo a C none) → sp (gV (.ref a :: vs) zs) L (fun v M => v = .non ∧ Q (.ref a) M) E0) :
    wpAny (model X.prog X.w) X.A (call (.ref C) us (ks.zip ws)) (EP X pins σ Q) X.xe s := by
  obtain ⟨B, nw, it, tail, FB, SF, hi, ho⟩ := T.base
  obtain ⟨nm, N, qn, bs, mr, hd, sn, sub, ab, col, dd, j0, j1, j2, j3, j5, hC, same⟩ := PySem.W.excInit_of I.kIn hi
  obtain ⟨hp, gs, dr, tk, os⟩ := s
  have up : ∀ b o, hp.get? b = some o → ((hp.push (PySem.W.kdv_tup us)).push (PySem.HandSPX.excO C hp.objs.size)).get? b = some o := fun b o e => Heap.get?_push_of_some _ (Heap.get?_push_of_some _ e)
  have hx : ((hp.push (PySem.W.kdv_tup us)).push (PySem.HandSPX.excO C hp.objs.size)).get? (hp.objs.size + 1) = some (PySem.HandSPX.excO C hp.objs.size) := by heap_get
  have fr : H (hp.objs.size + 1) = none := I.hok.fresh (Nat.le_succ _)
  have I2 : Inv X pins σ (upd H (hp.objs.size + 1) (exo (hp.objs.size + 1) C none)) ⟨(hp.push (PySem.W.kdv_tup us)).push (PySem.HandSPX.excO C hp.objs.size), gs, dr, tk, os⟩ := I.laid (t' := tk) up (Nat.le_succ _) (exo_ok hx)
  have hq := h (hp.objs.size + 1) _ fr (same_new fr) upd_same
  have r1 : Vals (V.ref (hp.objs.size + 1) :: vs) (Value.ref (hp.objs.size + 1) :: us) := .cons rfl r
  have len : us.length = n := by rw [← r.length, l1]
  have n1 : (Value.ref (hp.objs.size + 1) :: us).length = n + 1 := by rw [List.length_cons, len]
  refine wpAny_call (kw_call FB same hC (by rw [len, sizeLine_eq]; omega) (PySem.W.looks_findIn I.kIn iC) (fun self => PySem.W.bind_fn I.kIn self tI)
    (codeAny_mono (F1.run _ X.stack _ _ ⟨Value.ref (hp.objs.size + 1) :: us, ks.zip ws⟩ (g (Value.ref (hp.objs.size + 1) :: us) ws) _ _ E0 (hr.make C us (ks.zip ws)) (I2.env0.make C us (ks.zip ws)) (hb.to _ _ ws I2.kIn n1 (rz.length.symm.trans l2)) (hb.rel r1 rz) hq) fun r s' got => ?_))
  match r, got with
  | .error _, got => exact got.elim
  | .ok (.ret u), got =>
    obtain ⟨v, M, I3, rv, ev, q3⟩ := I2.after got
    subst ev
    exact ⟨rv, .ref (hp.objs.size + 1), M, I3, rfl, q3⟩
  | .ok .next, got => exact got.elim
  | .ok .brk, got => exact got.elim
  | .ok .cont, got => exact got.elim
theorem kbn_of (b : Binds X.K fd ps []) (hn : ps.length = n) : KBn X.K fd ps n [] (fun us _ => us) (fun vs _ => vs) :=
  ⟨fun s us ws hK h1 _ => by
    have z := b s us hK (by rw [List.append_nil, h1, hn])
    rw [List.append_nil] at z
    exact z, fun r _ => r⟩
theorem pe_mkx (T : XC X.K C) (iC : PySem.W.findIn X.K (.ref C) "__init__" = some (some (.ref fI))) (tI : PySem.W.typeIn X.K (.ref fI) = some (.type "function"))
    (F1 : FnOk X.prog X.w X.K X.mg X.base CX0 k fI fd ps sp) (hr : Room (k + 1) X.A) (hb : Binds X.K fd ps []) (hg : Gl X x) (hm : X.mg x = some (.ref C)) (ha : PA X (e :: es) ta)
    (hdb : (x == ("__debug__" : Str)) = false := by decide) (h1 : starEach (e :: es) X.env = (false, eval e X.env) :: starEach es X.env := by rfl) (h2 : (backTo pos (starEach es X.env)).any (fun z => z.1) = false := by rfl) :
    PE X (.Call (.Name x p) (e :: es) [] pos) (tMkx C sp ta) := by
  constructor
  intro pins s σ H Q I h
  refine wpAny_Call_Name_kw (ld_glob I hg hm (PySem.W.callWith_K (h₀ := X.base) I.ok.mod.kin T.kp (thn (ha.run pos pins s σ H _ I h) fun us s1 got => ?_) h1 h2) hdb)
  obtain ⟨vs, H1, I1, r1, hz, q1⟩ := got
  refine ⟨I1.kIn, ?_⟩
  have len : vs.length + 1 = ps.length := F1.len _ _ _ _ (q1 (s1.heap.objs.size + 1) _ (I1.hok.fresh (Nat.le_succ _)) (same_new (I1.hok.fresh (Nat.le_succ _))) upd_same)
  exact run_mkx (ws := []) (zs := []) (ks := []) T iC tI F1 hr (kbn_of hb len.symm) I1 r1 .nil rfl rfl hz q1
theorem pe_mky (T : XC X.K C) (iC : PySem.W.findIn X.K (.ref C) "__init__" = some (some (.ref fI))) (tI : PySem.W.typeIn X.K (.ref fI) = some (.type "function"))
    (F1 : FnOk X.prog X.w X.K X.mg X.base CX0 k fI fd ps sp) (hr : Room (k + 1) X.A) (hb : KBn X.K fd ps 1 ks g gV) (hg : Gl X x) (hm : X.mg x = some (.ref C)) (hkw : PK X kws tk)
    (hall : (backToKw pos (keywordEach kws X.env)).all (fun z => z.1.isSome) = true := by rfl) (hks : (backToKw pos (keywordEach kws X.env)).filterMap (fun z => z.1) = ks := by rfl) (hdb : (x == ("__debug__" : Str)) = false := by decide)
    (hpl : ((backTo pos (starEach [] X.env)).any (fun z => z.1) || (backToKw pos (keywordEach kws X.env)).any (fun z => z.1.isNone)) = false := by rfl) :
    PE X (.Call (.Name x p) [] kws pos) (tMky C ks.length sp gV tk) := by
  constructor
  intro pins s σ H Q I h
  refine wpAny_Call_Name_kw (ld_glob I hg hm (PySem.W.callWith_KW0 (h₀ := X.base) I.ok.mod.kin T.kp hall ?_ hpl) hdb)
  refine thn (hkw.run pos pins s σ H _ I h) fun ws s2 got => ?_
  obtain ⟨zs, H2, I2, rz, l2, q2⟩ := got
  refine ⟨I2.kIn, ?_⟩
  rw [hks]
  exact run_mkx (n := 0) (us := []) (vs := []) T iC tI F1 hr hb I2 .nil rz rfl l2 (Nat.zero_le _) q2
/-- a class of errors without __init__ of its own -/
structure X0 (K : PySem.W.Frag) (C : Addr) : Prop where
  ex : ∃ (B nw it : String) (tail : List Value), ExcBaseFacts B nw it tail ∧ PySem.W.excIn K C tail nw = true
theorem pe_mk0 (T : XC X.K C) (Z : X0 X.K C) (hg : Gl X x) (hm : X.mg x = some (.ref C)) (hdb : (x == ("__debug__" : Str)) = false := by decide) : PE X (.Call (.Name x p) [] [] pos) (tMk0 C) := by
  constructor
  intro pins s σ H Q I h
  refine wpAny_Call_Name_kw (ld_glob I hg hm (PySem.W.callWith_K0 I.kIn T.kp ?_) hdb)
  obtain ⟨B, nw, it, tail, FB, q⟩ := Z.ex
  obtain ⟨bm, N, nm, qn, bs, hdct, sn, sub, ab, col, dd, j0, j1, j2, j3, j5, mN, hC, hN, hni, OT⟩ := exc_obj I.kIn q
  obtain ⟨hp, gs, dr, tk, os⟩ := s
  refine wpAny_call_exc_subT FB OT hC hN hni (fun h' a hm => ?_) (Nat.zero_le _)
  have fr : H a = none := I.hok.gone hm.new
  obtain ⟨t, ht, _, _⟩ := hm.there
  exact ⟨.ref a, upd H a (exo a C none), I.laidN (t' := tk) hm.keeps hm.new fr (exo_ok ht), rfl, h a _ fr (same_new fr) upd_same⟩
end
end RT
set_option Elab.async false
set_option linter.all false
set_option maxRecDepth 100000
set_option maxHeartbeats 4000000
namespace RT
open PySem PySem.Spec PyProof.Rows L2
/-! ### classes of errors by their names -/
def mainAt (K : PySem.W.Frag) (x : Str) : Addr := match PySem.W.nsIn K mainGlobals x with
  | some (some (.ref a)) => a
  | _ => 0
def inClass : Stmt → Nat → Stmt
  | .ClassDef _ _ _ body .., j => body.getD j (.Pass ⟨0, 0, 0, 0⟩)
  | s, _ => s
/-- __init__ that stores its argument -/
def spIn1 (K : PySem.W.Frag) (f : Str) : Sp := fun vs H Q _ => ∃ a C y, vs = [.ref a, y] ∧ XC K C ∧ PySem.W.takerIn K C f = some none ∧ H a = some (exo a C none) ∧
  ∀ dx J, H dx = none → dx ≠ a → Ext a H J → J a = some (exo a C (some dx)) → J dx = some (exd dx [(f, y)]) → Q .non J
/-- __init__ that stores two -/
def spIn2 (K : PySem.W.Frag) (f g : Str) : Sp := fun vs H Q _ => ∃ a C y z, vs = [.ref a, y, z] ∧ XC K C ∧ PySem.W.takerIn K C f = some none ∧ PySem.W.takerIn K C g = some none ∧ H a = some (exo a C none) ∧
  ∀ dx J, H dx = none → dx ≠ a → Ext a H J → J a = some (exo a C (some dx)) → J dx = some (exd dx [(g, z), (f, y)]) → Q .non J
section
variable {P : Program} {w : World} {K : PySem.W.Frag} {mg : Str → Option Value} {base : Heap} {q : Str} {st : Stmt} {f : Addr} {fd : FuncData} {fl g : Str}
theorem init1 (F : Fun K "__init__" q st f fd) (S : FnScope ["self", fl] ["self", fl] (defScope st)) (ls : Vis (defScope st) "self") (lf : Vis (defScope st) fl) (nd : (fl == ("__debug__" : Str)) = false) (nc : (fl == ("__classdict__" : Str)) = false)
    (hb : ∃ p1 p2 p3 pos, defBody st = [.Assign [.Attribute (.Name "self" p1) fl p2] (.Name fl p3) pos]) : FnOk P w K mg base CX0 1 f fd ["self", fl] (spIn1 K fl) := by
  obtain ⟨p1, p2, p3, pos, hb⟩ := hb
  refine F.ok S (fun vs H Q E h => ?_) (fun cdv A outer s H vs Q E hr h => ?_)
  · obtain ⟨a, C, y, rfl, _⟩ := h
    rfl
  · obtain ⟨a, C, y, rfl, T, no, e, q⟩ := h
    rw [hb]
    refine ⟨_, pss_cons (ps_put (pe_var (i := 0) rfl ls) (pe_var (i := 1) rfl lf nd nc)) pss_nil, ?_⟩
    refine ⟨y, rfl, .ref a, rfl, a, C, rfl, T, no, .inl ⟨e, fun dx J n ne x1 x2 x3 => ?_⟩⟩
    exact q dx J n ne x1 x2 x3
theorem init2 (F : Fun K "__init__" q st f fd) (S : FnScope ["self", fl, g] ["self", fl, g] (defScope st)) (ls : Vis (defScope st) "self") (lf : Vis (defScope st) fl) (lg : Vis (defScope st) g) (ng : (fl == g) = false) (nd : (fl == ("__debug__" : Str)) = false) (nc : (fl == ("__classdict__" : Str)) = false) (gd : (g == ("__debug__" : Str)) = false) (gc : (g == ("__classdict__" : Str)) = false)
    (hb : ∃ p1 p2 p3 pos o1 o2 o3 pos2, defBody st = [.Assign [.Attribute (.Name "self" p1) fl p2] (.Name fl p3) pos, .Assign [.Attribute (.Name "self" o1) g o2] (.Name g o3) pos2]) : FnOk P w K mg base CX0 1 f fd ["self", fl, g] (spIn2 K fl g) := by
  obtain ⟨p1, p2, p3, pos, o1, o2, o3, pos2, hb⟩ := hb
  refine F.ok S (fun vs H Q E h => ?_) (fun cdv A outer s H vs Q E hr h => ?_)
  · obtain ⟨a, C, y, z, rfl, _⟩ := h
    rfl
  · obtain ⟨a, C, y, z, rfl, T, no, no2, e, q⟩ := h
    rw [hb]
    refine ⟨_, pss_cons (ps_put (pe_var (i := 0) rfl ls) (pe_var (i := 1) rfl lf nd nc)) (pss_cons (ps_put (pe_var (i := 0) rfl ls) (pe_var (i := 2) rfl lg gd gc)) pss_nil), ?_⟩
    refine ⟨y, rfl, .ref a, rfl, a, C, rfl, T, no, .inl ⟨e, fun dx J n ne x1 x2 x3 => ?_⟩⟩
    refine ⟨z, rfl, .ref a, rfl, a, C, rfl, T, no2, .inr ⟨dx, _, x2, x3, Nat.le_of_ble_eq_true rfl, ?_⟩⟩
    refine q dx _ n ne (fun b o nb hb => ?_) ?_ upd_same
    · rw [upd_ne (ne_of_none hb n)]
      exact x1 b o nb hb
    · rw [upd_ne ne.symm]
      exact x2
end
/-- a class of errors with one field -/
structure Mak1 (P : Program) (w : World) (K : PySem.W.Frag) (mg : Str → Option Value) (base : Heap) (x f : Str) : Prop where
  here : mg x = some (.ref (mainAt K x))
  xc : XC K (mainAt K x)
  no : PySem.W.takerIn K (mainAt K x) f = some none
  get : PySem.W.findIn K (.ref (mainAt K x)) f = some none
  ex : ∃ fI fd, PySem.W.findIn K (.ref (mainAt K x)) "__init__" = some (some (.ref fI)) ∧ PySem.W.typeIn K (.ref fI) = some (.type "function") ∧ FnOk P w K mg base CX0 1 fI fd ["self", f] (spIn1 K f) ∧ L2.Binds K fd ["self", f] [] ∧ KBn K fd ["self", f] 1 [f] (fun us ws => us ++ ws) (fun vs zs => vs ++ zs)
/-- one with two -/
structure Mak2 (P : Program) (w : World) (K : PySem.W.Frag) (mg : Str → Option Value) (base : Heap) (x f g : Str) : Prop where
  here : mg x = some (.ref (mainAt K x))
  xc : XC K (mainAt K x)
  no : PySem.W.takerIn K (mainAt K x) f = some none ∧ PySem.W.takerIn K (mainAt K x) g = some none
  get : PySem.W.findIn K (.ref (mainAt K x)) f = some none ∧ PySem.W.findIn K (.ref (mainAt K x)) g = some none
  ex : ∃ fI fd, PySem.W.findIn K (.ref (mainAt K x)) "__init__" = some (some (.ref fI)) ∧ PySem.W.typeIn K (.ref fI) = some (.type "function") ∧ FnOk P w K mg base CX0 1 fI fd ["self", f, g] (spIn2 K f g) ∧ L2.Binds K fd ["self", f, g] [] ∧ KBn K fd ["self", f, g] 1 [g, f] (fun us ws => us ++ ws.reverse) (fun vs zs => vs ++ zs.reverse)
/-- one with none -/
structure Mak0 (K : PySem.W.Frag) (mg : Str → Option Value) (x : Str) : Prop where
  here : mg x = some (.ref (mainAt K x))
  xc : XC K (mainAt K x)
  x0 : X0 K (mainAt K x)
/-! what is made, read -/
def aE1 (C : Addr) (f : Str) (vs : List V) (H : Hp) (Q : VK) : Prop := ∃ y, vs = [y] ∧ ∀ a L, H a = none → Same H L → ErrAt L a C [(f, y)] → Q (.ref a) L
def tE1 (C : Addr) (f : Str) (ta : TA) : TE := fun σ H Q => ta σ H fun vs J => aE1 C f vs J Q
def aE2 (C : Addr) (f g : Str) (vs : List V) (H : Hp) (Q : VK) : Prop := ∃ y z, vs = [y, z] ∧ ∀ a L, H a = none → Same H L → ErrAt L a C [(g, z), (f, y)] → Q (.ref a) L
def tE2 (C : Addr) (f g : Str) (ta : TA) : TE := fun σ H Q => ta σ H fun vs J => aE2 C f g vs J Q
def tE0 (C : Addr) : TE := fun _ H Q => ∀ a L, H a = none → Same H L → ErrAt L a C [] → Q (.ref a) L
theorem ext_two {H J L : Hp} {a dx : Addr} (n : H a = none) (s : Same H J) (e : Ext a J L) : Same H L := fun b o h => e b o (ne_of_none h n) (s b o h)
section
variable {X : Cx} {e : Expr} {es : List Expr} {f g x : Str} {p pos : Pos} {j : Nat} {ta tk : TA} {kws : List Keyword}
/-- a reading that bears more -/
def monoA (t : TA) : TA := fun σ H N => ∃ N' : List V → Hp → Prop, t σ H N' ∧ ∀ vs J, N' vs J → N vs J
theorem pa_mono (h : PA X es ta) : PA X es (monoA ta) := by
  refine ⟨fun pos pins s σ H N I got => ?_⟩
  obtain ⟨N', h1, h2⟩ := got
  refine thn (h.run pos pins s σ H N' I h1) fun us s1 got => ?_
  obtain ⟨vs, J, I1, r, q⟩ := got
  exact ⟨vs, J, I1, r, h2 _ _ q⟩
theorem pk_mono (h : PK X kws tk) : PK X kws (monoA tk) := by
  refine ⟨fun pos pins s σ H N I got => ?_⟩
  obtain ⟨N', h1, h2⟩ := got
  refine thn (h.run pos pins s σ H N' I h1) fun us s1 got => ?_
  obtain ⟨vs, J, I1, r, q⟩ := got
  exact ⟨vs, J, I1, r, h2 _ _ q⟩
theorem pe_of {t t' : TE} (h : PE X e t) (i : ∀ σ H Q, t' σ H Q → t σ H Q) : PE X e t' := ⟨fun pins s σ H Q I q => h.run pins s σ H Q I (i σ H Q q)⟩
theorem pe_e1 (M : Mak1 X.prog X.w X.K X.mg X.base x f) (hr : Room j X.A) (hj : 2 ≤ j) (hg : Gl X x) (ha : PA X (e :: es) ta)
    (hdb : (x == ("__debug__" : Str)) = false := by decide) (h1 : starEach (e :: es) X.env = (false, eval e X.env) :: starEach es X.env := by rfl) (h2 : (backTo pos (starEach es X.env)).any (fun z => z.1) = false := by rfl) :
    PE X (.Call (.Name x p) (e :: es) [] pos) (tE1 (mainAt X.K x) f ta) := by
  obtain ⟨fI, fd, i1, i2, F, b, kb⟩ := M.ex
  refine pe_of (pe_mkx M.xc i1 i2 F (hr.mono hj) b hg M.here (pa_mono ha) hdb h1 h2) fun σ H Q q => ⟨_, q, fun vs J q => ?_⟩
  obtain ⟨y, rfl, q⟩ := q
  exact ⟨by simp, fun a L n s0 e0 => ⟨a, _, y, rfl, M.xc, M.no, e0, fun dx J2 nd ne x1 x2 x3 => ⟨rfl, q a J2 n (ext_two (dx := dx) n s0 x1) (.inr ⟨dx, x2, x3⟩)⟩⟩⟩
theorem pe_e1k (M : Mak1 X.prog X.w X.K X.mg X.base x f) (hr : Room j X.A) (hj : 2 ≤ j) (hg : Gl X x) (hkw : PK X kws tk)
    (hall : (backToKw pos (keywordEach kws X.env)).all (fun z => z.1.isSome) = true := by rfl) (hks : (backToKw pos (keywordEach kws X.env)).filterMap (fun z => z.1) = [f] := by rfl) (hdb : (x == ("__debug__" : Str)) = false := by decide)
    (hpl : ((backTo pos (starEach [] X.env)).any (fun z => z.1) || (backToKw pos (keywordEach kws X.env)).any (fun z => z.1.isNone)) = false := by rfl) :
    PE X (.Call (.Name x p) [] kws pos) (tE1 (mainAt X.K x) f tk) := by
  obtain ⟨fI, fd, i1, i2, F, b, kb⟩ := M.ex
  refine pe_of (pe_mky M.xc i1 i2 F (hr.mono hj) kb hg M.here (pk_mono hkw) hall hks hdb hpl) fun σ H Q q => ⟨_, q, fun vs J q => ?_⟩
  obtain ⟨y, rfl, q⟩ := q
  exact ⟨rfl, fun a L n s0 e0 => ⟨a, _, y, rfl, M.xc, M.no, e0, fun dx J2 nd ne x1 x2 x3 => ⟨rfl, q a J2 n (ext_two (dx := dx) n s0 x1) (.inr ⟨dx, x2, x3⟩)⟩⟩⟩
theorem pe_e2 (M : Mak2 X.prog X.w X.K X.mg X.base x f g) (hr : Room j X.A) (hj : 2 ≤ j) (hg : Gl X x) (ha : PA X (e :: es) ta)
    (hdb : (x == ("__debug__" : Str)) = false := by decide) (h1 : starEach (e :: es) X.env = (false, eval e X.env) :: starEach es X.env := by rfl) (h2 : (backTo pos (starEach es X.env)).any (fun z => z.1) = false := by rfl) :
    PE X (.Call (.Name x p) (e :: es) [] pos) (tE2 (mainAt X.K x) f g ta) := by
  obtain ⟨fI, fd, i1, i2, F, b, kb⟩ := M.ex
  refine pe_of (pe_mkx M.xc i1 i2 F (hr.mono hj) b hg M.here (pa_mono ha) hdb h1 h2) fun σ H Q q => ⟨_, q, fun vs J q => ?_⟩
  obtain ⟨y, z, rfl, q⟩ := q
  exact ⟨by simp, fun a L n s0 e0 => ⟨a, _, y, z, rfl, M.xc, M.no.1, M.no.2, e0, fun dx J2 nd ne x1 x2 x3 => ⟨rfl, q a J2 n (ext_two (dx := dx) n s0 x1) (.inr ⟨dx, x2, x3⟩)⟩⟩⟩
/-- C(g = .., f = ..) -/
theorem pe_e2k (M : Mak2 X.prog X.w X.K X.mg X.base x f g) (hr : Room j X.A) (hj : 2 ≤ j) (hg : Gl X x) (hkw : PK X kws tk)
    (hall : (backToKw pos (keywordEach kws X.env)).all (fun z => z.1.isSome) = true := by rfl) (hks : (backToKw pos (keywordEach kws X.env)).filterMap (fun z => z.1) = [g, f] := by rfl) (hdb : (x == ("__debug__" : Str)) = false := by decide)
    (hpl : ((backTo pos (starEach [] X.env)).any (fun z => z.1) || (backToKw pos (keywordEach kws X.env)).any (fun z => z.1.isNone)) = false := by rfl) :
    PE X (.Call (.Name x p) [] kws pos) (tE2 (mainAt X.K x) f g fun σ H N => tk σ H fun zs J => N zs.reverse J) := by
  obtain ⟨fI, fd, i1, i2, F, b, kb⟩ := M.ex
  refine pe_of (pe_mky M.xc i1 i2 F (hr.mono hj) kb hg M.here (pk_mono hkw) hall hks hdb hpl) fun σ H Q q => ⟨_, q, fun vs J q => ?_⟩
  obtain ⟨y, z, e, q⟩ := q
  have e2 : vs = [z, y] := by
    rw [← List.reverse_reverse vs, e]
    rfl
  subst e2
  exact ⟨rfl, fun a L n s0 e0 => ⟨a, _, y, z, rfl, M.xc, M.no.1, M.no.2, e0, fun dx J2 nd ne x1 x2 x3 => ⟨rfl, q a J2 n (ext_two (dx := dx) n s0 x1) (.inr ⟨dx, x2, x3⟩)⟩⟩⟩
theorem pe_e0 (M : Mak0 X.K X.mg x) (hg : Gl X x) (hdb : (x == ("__debug__" : Str)) = false := by decide) : PE X (.Call (.Name x p) [] [] pos) (tE0 (mainAt X.K x)) :=
  pe_of (pe_mk0 M.xc M.x0 hg M.here hdb) fun σ H Q q a L n s0 e0 => q a L n s0 (.inl ⟨rfl, e0⟩)
/-- the class itself -/
theorem pe_cls (h : X.mg x = some (.ref (mainAt X.K x))) (hg : Gl X x) (hd : (x == ("__debug__" : Str)) = false := by decide) : PE X (.Name x pos) (tC (.ref (mainAt X.K x))) := pe_glob hg h rfl hd
end
section
variable {σ : L2.St} {H : Hp} {Q : VK} {te : TE} {ta : TA} {C a dx : Addr} {f g : Str} {x y z : V} {K : PySem.W.Frag} {fs : List (Str × V)}
theorem w_fld (h : te σ H fun x J => oFld K f x J Q) : tFld K f te σ H Q := h
theorem w_getF (T : XC K C) (no : PySem.W.findIn K (.ref C) f = some none) (h : ErrAt H a C fs) (l : fs.lookup f = some y) (q : Q y H) : oFld K f (.ref a) H Q := by
  rcases h with ⟨rfl, _⟩ | ⟨dx, h1, h2⟩
  · cases l
  · exact ⟨a, C, dx, fs, y, rfl, T, no, h1, h2, l, q⟩
theorem w_e1 (h : ta σ H fun vs J => aE1 C f vs J Q) : tE1 C f ta σ H Q := h
theorem w_aE1 (q : ∀ a L, H a = none → Same H L → ErrAt L a C [(f, y)] → Q (.ref a) L) : aE1 C f [y] H Q := ⟨y, rfl, q⟩
theorem w_e2 (h : ta σ H fun vs J => aE2 C f g vs J Q) : tE2 C f g ta σ H Q := h
theorem w_aE2 (q : ∀ a L, H a = none → Same H L → ErrAt L a C [(g, z), (f, y)] → Q (.ref a) L) : aE2 C f g [y, z] H Q := ⟨y, z, rfl, q⟩
theorem w_isx {c : V} {cv : Value} {b : Bool} (T : XC K C) (e : ErrAt H a C fs) (k : ClsV c cv) (h : PySem.W.kitOne K (.ref C) cv = some b) (q : Q (.bl b) H) : oIsx K [.ref a, c] H Q := ⟨a, C, c, cv, fs, b, rfl, k, T, e, h, q⟩
end
/-! ### how often a truth value stands in a list -/
theorem vals_bools : ∀ {bs : List Bool} {us : List Value}, Vals (bs.map V.bl) us → us = bs.map Value.bool
  | [], [], _ => rfl
  | b :: bs, u :: us, r => by
    cases r with
    | cons r1 r2 =>
      cases r1
      rw [vals_bools r2]
      rfl
theorem reads_bools (h : Heap) : ∀ bs : List Bool, ∃ as, ReadsAll h (bs.map Value.bool) (bs.map PyData.bool) as
  | [] => ⟨_, .nil⟩
  | b :: bs => by
    obtain ⟨as, r⟩ := reads_bools h bs
    exact ⟨_, .cons (.bool b) r⟩
theorem countP_bools (k : Bool) : ∀ bs : List Bool, (bs.map Value.bool).countP (PyProof.Rows.isBoolOf k) = bs.count k
  | [] => rfl
  | b :: bs => by
    rw [List.map_cons, List.countP_cons, List.count_cons, countP_bools k bs]
    rfl
def rCntB (K : PySem.W.Frag) : V → List V → Hp → VK → Prop := fun x xs H Q => ∃ (p : Addr) (bs : List Bool) (k : Bool), x = .ref p ∧ xs = [.bl k] ∧ SqL K H p (bs.map V.bl) ∧ Q (.int (bs.count k : Nat)) H
theorem mt_countB {X : Cx} : MtR X "list.count" (rCntB X.K) := by
  intro pins s σ H x xs v us Q I rx rxs h
  obtain ⟨p, bs, k, rfl, rfl, hs, q⟩ := h
  cases rx
  obtain ⟨u, rfl, ru⟩ := rxs.one
  cases ru
  obtain ⟨its, rv, ⟨⟨cls, dd, data, sl⟩, n, ho, hc, hdn, hd⟩, hlen⟩ := I.list hs
  simp only at hc hd
  subst hc hd
  have e := vals_bools rv
  subst e
  obtain ⟨as, ra⟩ := reads_bools s.heap bs
  have hall : (bs.map PyData.bool).all Shape.bool.has = true := by
    rw [List.all_map]
    exact List.all_eq_true.mpr fun b _ => rfl
  refine call_meets PySem.F.slot_list_count ⟨_, ho, rfl⟩ PySem.F.entry_list_count (PySem.F.args_list_count_2 _ _) (SeqAt.list_countAt p (bs.map Value.bool).toArray n dd sl (.bool k) (PyProof.Rows.isBoolOf k)) ⟨ho, fun y hy => PyProof.Rows.eq_isBoolOf k ra hall y (by simpa using hy) _ _, ?_⟩
  refine ⟨.int (bs.count k : Nat), H, I.tok _, ⟨s.toks, ?_⟩, q⟩
  show Value.int (((bs.map Value.bool).toArray.toList.countP (PyProof.Rows.isBoolOf k) : Nat) : Int) s.toks = _
  rw [show (bs.map Value.bool).toArray.toList = bs.map Value.bool from rfl, countP_bools]
/-! ### a thing is equal to itself -/
def rEqX (K : PySem.W.Frag) : R2 := fun x y H Q => rEqD K x y H Q ∨ rEqDA x y H Q
theorem k_eqX {X : Cx} {K : PySem.W.Frag} (hu : X.A.units + 64 < cLine) (h : X.K = K := by rfl) : OpR X (compareOp .Eq) (rEqX K) := by
  subst h
  intro pins s σ H x y v u Q I rx ry h
  rcases h with h | h
  · exact op_eqD hu pins s σ H x y v u Q I rx ry h
  · exact op_eq_dictA (by omega) pins s σ H x y v u Q I rx ry h
theorem vals_revE {vs : List V} {us : List Value} (r : Vals vs us) : Vals vs.reverse us.reverse := by
  induction r with
  | nil => exact .nil
  | cons h t ih =>
    rw [List.reverse_cons, List.reverse_cons]
    exact ih.append (.cons h .nil)
end RT
set_option Elab.async false
set_option linter.all false
set_option maxRecDepth 100000
set_option maxHeartbeats 4000000
/-! a light head: facts as one Bool over the part of the heap that the module's names reach, defs as data -/
namespace RT
open PySem PySem.Spec PyProof.Rows L2
/-! ### the Hook -/
def obsK (ck : PySem.W.Frag → Bool) (fn : List He.DefD) (K : PySem.W.Frag) : He.AlD := (ck K && fn.all fun d => d.ok K, fn.map fun d => He.fnW K d.at_)
def SaysK (ck : PySem.W.Frag → Bool) (fn : List He.DefD) (K : PySem.W.Frag) : Prop := obsK ck fn K = He.valD fn
def obsKG (n : Nat) (ck : PySem.W.Frag → Bool) (fn : List He.DefD) (g : Addr → Option Obj) : He.AlD := obsK ck fn (He.frG g (He.asD g n))
def hookK (n : Nat) (ck : PySem.W.Frag → Bool) (fn : List He.DefD) : PySem.W.Hook where
  α := He.AlD
  obs := fun s => obsKG n ck fn s.heap.get?
  val := fun _ => He.valD fn
  says := fun _ h => ∃ K : PySem.W.Frag, K.In h ∧ SaysK ck fn K
  of := fun _ _ e => ⟨_, He.frG_in, e⟩
  keeps := fun _ _ _ ⟨K, hK, c⟩ k => ⟨K, PySem.W.Frag.In.keeps hK k, c⟩
theorem obsKG_eq {n : Nat} {ck : PySem.W.Frag → Bool} {fn : List He.DefD} {g : Addr → Option Obj} {s : Shared} (h : ∀ a, g a = s.heap.get? a) : obsKG n ck fn g = (hookK n ck fn).obs s := by
  have e : g = s.heap.get? := funext h
  rw [e] <;> rfl
section
variable {ck : PySem.W.Frag → Bool} {fn : List He.DefD} {K : PySem.W.Frag}
theorem SaysK.chk (c : SaysK ck fn K) : ck K = true := (He.ba (show (ck K && fn.all fun d => d.ok K) = true from congrArg (fun z : He.AlD => z.1) c)).1
theorem SaysK.def_ (c : SaysK ck fn K) (i : Nat) {d : He.DefD} (h : fn[i]? = some d := by rfl) : ∃ fd, FunD K d.name d.qual d.params d.body d.scope (d.dvs K) (d.kws K) (He.fAd K d.at_) fd := by
  have c2 := (He.ba (show (ck K && fn.all fun d => d.ok K) = true from congrArg (fun z : He.AlD => z.1) c)).2
  have e : fn.map (fun d => He.fnW K d.at_) = fn.map He.DefD.val := congrArg (fun z : He.AlD => z.2) c
  have e2 : (fn.map fun d => He.fnW K d.at_)[i]? = (fn.map He.DefD.val)[i]? := by rw [e]
  rw [List.getElem?_map, List.getElem?_map, h] at e2
  exact He.DefD.funD (Option.some.inj e2) (List.all_eq_true.mp c2 d (List.mem_of_getElem? h))
end
/-- a def without defaults, as the walk wants it -/
theorem fun_of {K : PySem.W.Frag} {x q : Str} {st : Stmt} {f : Addr} {fd : FuncData} (F : FunD K x q (defArgs st) (defBody st) (defScope st) [] [] f fd) : Fun K x q st f fd := by
  obtain ⟨oc, od, dV, kV, doc, pm, an, cdv, ct, osl, e, lk, hc, hd, hk⟩ := F.ex
  rcases hd with ⟨_, rfl⟩ | ⟨n, _⟩
  · exact ⟨⟨oc, od, kV, doc, pm, an, cdv, ct, osl, e, lk, hc⟩, F.kp⟩
  · exact absurd rfl n
/-- a def of the text: its datum -/
def dG (x : Str) (st : Stmt) : He.DefD := ⟨(x, none), x, x, defArgs st, defBody st, defScope st, [], []⟩
def dM (c m q : Str) (st : Stmt) : He.DefD := ⟨(c, some m), m, q, defArgs st, defBody st, defScope st, [], []⟩
theorem defAt_of {ck : PySem.W.Frag → Bool} {fn : List He.DefD} {K : PySem.W.Frag} {h : Heap} {mg : Str → Option Value} (X : K.In h) (G : h.Ns mainGlobals mg) (c : SaysK ck fn K) (i : Nat) {x : Str} {st : Stmt} (e : fn[i]? = some (dG x st)) (g : (He.Fa.glo x).ok K = true) : DefAt K mg x st := by
  obtain ⟨fd, F⟩ := c.def_ i e
  exact ⟨_, fd, fun_of F, He.glo_ok X G g⟩
/-! ### the run in parts -/
theorem map_two {α β γ : Type} {o : Option α} {f : α → β} {g : α → γ} {b : β} {c : γ} (h1 : o.map f = some b) (h2 : o.map g = some c) : o.map (fun x => (f x, g x)) = some (b, c) := by
  cases o with
  | none => cases h1
  | some x =>
    have e1 : f x = b := Option.some.inj h1
    have e2 : g x = c := Option.some.inj h2
    show some (f x, g x) = _
    rw [e1, e2]
theorem map_and {α : Type} {o : Option α} {f g : α → Bool} (h1 : o.map f = some true) (h2 : o.map g = some true) : o.map (fun x => f x && g x) = some true := by
  cases o with
  | none => cases h1
  | some x =>
    have e1 : f x = true := Option.some.inj h1
    have e2 : g x = true := Option.some.inj h2
    show some (f x && g x) = _
    rw [e1, e2]
    rfl
theorem map_true {α β : Type} {o : Option α} {f : α → β} {b : β} (h1 : o.map f = some b) : o.map (fun _ => true) = some true := by
  cases o with
  | none => cases h1
  | some x => rfl
theorem map_same {α β : Type} {o : Option α} {f g : α → β} {b : β} (e : ∀ x, f x = g x) (h : o.map g = some b) : o.map f = some b := by
  rw [show f = g from funext e]
  exact h
section
variable (r : PySem.W.OpenRow) (q : Program) (M n : Nat) (loose : List Str) (w : World)
/-- the run of a top without imports: what each part of it must give -/
def RA (β : Type) (f : PySem.W.SharedT → β) (b : β) : Prop := ∀ os : OsState, (HandSHeadRun.endF (HandSHeadRun.stepQ (HandSHeadRun.denQ HandSHeadRun.tabQ) r.prog w) M r.prog w os).map f = some b
def RLook : Prop := RA r M w Bool (fun s => HandSHeadRun.looksF r.prog (PySem.W.boot_heap w.params) s.abs) true
def RSeen : Prop := RA r M w _ (fun s => HandSHeadRun.seenQ q loose (importedModules r.prog.main.body) (fun s => PySem.W.xlAt q [] s && PySem.W.recOk r.toRowW.records s) s.abs) (PySem.W.openGood q loose)
def RK (c : PySem.W.Frag → Bool) : Prop := RA r M w Bool (fun s => c (He.frG (HandSHeadRun.getT s) (He.asD (HandSHeadRun.getT s) n))) true
def RF (fn : List He.DefD) : Prop := RA r M w _ (fun s => fn.map fun d => He.fnW (He.frG (HandSHeadRun.getT s) (He.asD (HandSHeadRun.getT s) n)) d.at_) (fn.map He.DefD.val)
/-- the same with imports at the head -/
def IA (β : Type) (f : Shared × PySem.W.SharedT → β) (b : β) : Prop := (HandSHeadRun.wholeF (fun p => HandSHeadRun.stepQ (HandSHeadRun.denQ HandSHeadRun.tabQ) p w) HandSHeadRun.fenceQ M r.prog).map f = some b
def ILook : Prop := IA r M w Bool (fun x => HandSHeadRun.looksF r.prog x.1.heap x.2.abs) true
def ISeen : Prop := IA r M w _ (fun x => HandSHeadRun.seenQ q loose (importedModules r.prog.main.body) (fun s => PySem.W.xlAt q [] s && PySem.W.recOk r.toRowW.records s) x.2.abs) (PySem.W.openGood q loose)
def IK (c : PySem.W.Frag → Bool) : Prop := IA r M w Bool (fun x => c (He.frG (HandSHeadRun.getT x.2) (He.asD (HandSHeadRun.getT x.2) n))) true
def IF (fn : List He.DefD) : Prop := IA r M w _ (fun x => fn.map fun d => He.fnW (He.frG (HandSHeadRun.getT x.2) (He.asD (HandSHeadRun.getT x.2) n)) d.at_) (fn.map He.DefD.val)
variable {r q M n loose w}
theorem RK.and {a b : PySem.W.Frag → Bool} (h1 : RK r M n w a) (h2 : RK r M n w b) : RK r M n w (fun K => a K && b K) := fun os => map_and (h1 os) (h2 os)
theorem IK.and {a b : PySem.W.Frag → Bool} (h1 : IK r M n w a) (h2 : IK r M n w b) : IK r M n w (fun K => a K && b K) := map_and (f := fun x => a _) (g := fun x => b _) h1 h2
theorem RK.same {a b : PySem.W.Frag → Bool} (e : ∀ K, a K = b K) (h : RK r M n w b) : RK r M n w a := fun os => map_same (fun x => e _) (h os)
theorem IK.same {a b : PySem.W.Frag → Bool} (e : ∀ K, a K = b K) (h : IK r M n w b) : IK r M n w a := map_same (f := fun x => a _) (g := fun x => b _) (fun x => e _) h
theorem runEq_mk {ck : PySem.W.Frag → Bool} {fn : List He.DefD} (h1 : RLook r M w) (h2 : RSeen r q M loose w) (h3 : RK r M n w ck) (h4 : RK r M n w fun K => fn.all fun d => d.ok K) (h5 : RF r M n w fn) :
    HandSHeadRun.RunEq r q (hookK n ck fn) (fun s => obsKG n ck fn (HandSHeadRun.getT s)) M loose w := fun os => map_two (h1 os) (map_two (h2 os) (map_two (map_and (h3 os) (h4 os)) (h5 os)))
theorem runEqI_mk {ck : PySem.W.Frag → Bool} {fn : List He.DefD} (h1 : ILook r M w) (h2 : ISeen r q M loose w) (h3 : IK r M n w ck) (h4 : IK r M n w fun K => fn.all fun d => d.ok K) (h5 : IF r M n w fn) :
    HandSHeadRun.RunEqI r q (hookK n ck fn) (fun s => obsKG n ck fn (HandSHeadRun.getT s)) M loose w := map_two h1 (map_two h2 (map_two (map_and h3 h4) h5))
end
/-! ### the end of a law over such a head -/
theorem walk_calmE {l : PySem.W.OpenLaw} {n k : Nat} {q : Program} {loose : List Str} {XP : (Str → Option Value) → Heap → Prop} {YP : World → Heap → Prop} {d : DefRec} {sp : PySem.W.Frag → Sp} {x : Str}
    (hn : l.most = some n) (hn2 : n ≤ sizeLine) (hdf : d.params.defaults = []) (hr : Room k callerA)
    (F : ∀ (w : World) (mg : Str → Option Value) (fa : Addr) (h : Heap), YP w h → h.Ns mainGlobals mg → mg d.name = some (.ref fa) →
      ∃ (K : PySem.W.Frag) (fd : FuncData), K.In h ∧ (∀ (s : Shared) (u : Value), BindsTo s fd ⟨[u], []⟩ [(x, u)]) ∧ ∀ base : Heap, K.In base → base.Ns mainGlobals mg → FnG l.prog w K mg base k fa fd [x] (sp K))
    (hsp : ∀ (K : PySem.W.Frag) (H : Hp) (a : Addr) (ns : List Int), ns.length ≤ n → Only H → SqL K H a (ns.map V.int) → sp K [.ref a] H (fun v _ => v = .bl true) E0) :
    PySem.W.WalkO q loose XP YP l.row.toRowW d [] (fun f vs => PySem.call f vs) := by
  refine Att.attach_call hn hdf fun w s0 s mg mb fa o pm cd doc a vs ns G Y ho hd hcd hmg hobj hints hlen hg => ?_
  obtain ⟨K, fd, KX, bd, hF⟩ := F w mg fa _ Y G.T.g hmg
  have rv := vals_ints hints
  have hl : ns.length ≤ sizeLine := Nat.le_trans hlen hn2
  cases hk : K.lookup a with
  | some ob =>
    have e := KX a ob hk
    rw [hobj] at e
    cases e
    refine end_run KX G.T.g G.T.b G.T.builtins G.T.nolimit hg hobj (H := fun _ => none) (fun b u z => nomatch z) (fun b u z => nomatch z) (fun u z => nomatch z) (fun _ => Or.inl rfl) hr hF bd (hsp _ _ a ns hlen (fun _ => Or.inl rfl) ?_)
    exact Or.inr ⟨_, vs.toArray, _, hk, rfl, rfl, rfl, by rw [List.size_toArray, hints.length]; exact hl, by simpa using rv⟩
  | none =>
    let ob : Obj := { cls := .type "list", data := .seq vs.toArray }
    let H : Hp := fun b => if b = a then some (.frz ob (.lst (ns.map V.int))) else none
    have at_a : H a = some (.frz ob (.lst (ns.map V.int))) := if_pos rfl
    have off : ∀ b, b ≠ a → H b = none := fun b n => if_neg n
    have hO : Only H := fun b => by
      by_cases z : b = a
      · cases z
        exact Or.inr ⟨_, _, at_a⟩
      · exact Or.inl (off b z)
    have hA : ∀ b u, H b = some u → b = a := fun b u e => by
      by_cases z : b = a
      · exact z
      · rw [off b z] at e
        cases e
    refine end_run KX G.T.g G.T.b G.T.builtins G.T.nolimit hg hobj (H := H) (fun b u e => ?_) hA (fun _ _ => hk) hO hr hF bd (hsp _ _ a ns hlen hO (Or.inl (Or.inr ⟨_, at_a⟩)))
    cases hA b u e
    rw [at_a] at e
    cases e
    exact ⟨hobj, by rw [List.length_map]; exact hl, vs, _, rv, hobj⟩
end RT
set_option Elab.async false
set_option linter.all false
set_option maxRecDepth 100000
set_option maxHeartbeats 4000000
namespace RT
open PySem PySem.Spec PyProof.Rows L2
local macro_rules | `(tactic| walk_at "w0") => `(tactic| dsimp only [L2.start, cxOf, Cx.nox, Cx.wish, List.map, List.length_cons, List.length_nil, List.replicate_succ, List.replicate_zero, List.cons_append, List.nil_append, Nat.reduceAdd, Nat.reduceSub, List.set_cons_zero, List.set_cons_succ])
local macro_rules | `(tactic| walk_at "w1") => `(tactic| first
  | with_reducible refine w_seq ?_
  | with_reducible refine w_asg ?_
  | with_reducible refine w_var rfl ?_
  | with_reducible refine w_c ?_
  | with_reducible refine w_op ?_
  | with_reducible refine w_cons ?_
  | with_reducible refine w_nil ?_
  | with_reducible refine w_gname ?_
  | with_reducible refine w_cb ?_
  | with_reducible refine w_I0 ?_
  | with_reducible refine w_bl ?_
  | ((with_reducible refine' w_ixL ?s0 ?s1 ?q); (case s0 => assumption); (case s1 => rfl))
  | ((with_reducible refine' w_ixT ?s0 ?s1 ?q); (case s0 => assumption); (case s1 => rfl))
  | with_reducible refine w_gsub ?_
  | with_reducible refine w_ifS ?_
  | with_reducible refine w_test ?_
  | with_reducible refine w_call ?_
  | with_reducible refine w_ret ?_
  | with_reducible refine w_int1 ?_
  | with_reducible refine w_int ?_
  | with_reducible refine w_next ?_
  | with_reducible refine w_drop ?_
  | ((with_reducible refine' w_mod ?s0 ?q); (case s0 => omega))
  | ((with_reducible refine' w_div ?s0 ?q); (case s0 => omega))
  | ((with_reducible refine' w_mul ?s0 ?q); (case s0 => omega))
  | ((with_reducible refine' w_pow ?s0 ?q); (case s0 => decide))
  | with_reducible refine w_B ?_
  | with_reducible refine w_and ?_
  | with_reducible refine w_or ?_
  | with_reducible refine w_not ?_
  | with_reducible refine w_T ?_
  | with_reducible refine w_F ?_
  | with_reducible refine w_nT ?_
  | with_reducible refine w_nF ?_
  | with_reducible refine w_un ?_
  | with_reducible refine w_U ?_
  | with_reducible refine w_if ?_
  | with_reducible refine w_lst ?_
  | with_reducible refine w_tup ?_
  | with_reducible refine w_sl ?_
  | with_reducible refine w_part ?_
  | with_reducible refine w_nopart ?_
  | with_reducible refine w_eqI ?_
  | with_reducible refine w_neI ?_
  | with_reducible refine w_eqS ?_
  | with_reducible refine w_neS ?_
  | with_reducible refine w_abs ?_
  | with_reducible refine w_max2 ?_
  | with_reducible refine w_min2 ?_
  | ((with_reducible refine' w_lenL ?s0 ?q); (case s0 => assumption))
  | ((with_reducible refine' w_lenH ?s0 ?q); (case s0 => assumption))
  | ((with_reducible refine' w_lenT ?s0 ?q); (case s0 => assumption))
  | ((with_reducible refine' w_lenS ?s0 ?q); (case s0 => first | assumption | omega | decide +kernel))
  | with_reducible refine w_inC ?_
  | with_reducible refine w_ninC ?_
  | with_reducible refine w_m1 ?_
  | with_reducible refine w_m0 ?_
  | with_reducible refine w_isstr ?_
  | with_reducible refine w_andV ?_
  | with_reducible refine w_orV ?_
  | with_reducible refine w_notV ?_
  | with_reducible refine w_chain ?_
  | with_reducible refine w_retN ?_
  | with_reducible refine w_break ?_
  | with_reducible refine w_cont ?_
  | with_reducible refine w_yes ?_
  | with_reducible refine w_for ?_
  | with_reducible refine w_lc ?_
  | with_reducible refine w_iList ?_
  | with_reducible refine w_iTup ?_
  | with_reducible refine w_iStr ?_
  | with_reducible refine w_iR1 ?_
  | with_reducible refine w_iR2 ?_
  | ((with_reducible refine' w_onL ?s0 ?q); (case s0 => assumption))
  | ((with_reducible refine' w_onQ ?s0 ?q); (case s0 => assumption))
  | ((with_reducible refine' w_onT ?s0 ?q); (case s0 => assumption))
  | ((with_reducible refine' w_onU ?s0 ?q); (case s0 => assumption))
  | with_reducible refine w_onS ?_
  | ((with_reducible refine' w_onR1 ?s0 ?q); (case s0 => omega))
  | ((with_reducible refine' w_onR2 ?s0 ?q); (case s0 => omega))
  | with_reducible refine w_revL ?_
  | ((with_reducible refine' w_all ?s0 ?q); (case s0 => assumption))
  | ((with_reducible refine' w_any ?s0 ?q); (case s0 => assumption))
  | with_reducible refine w_bm ?_
  | with_reducible refine w_bm0 ?_
  | ((with_reducible refine' w_islst ?s0 ?q); (case s0 => assumption))
  | with_reducible refine w_kw ?_
  | ((with_reducible refine' w_isi ?s0 ?s1 ?q); (case s0 => assumption); (case s1 => assumption))
  | ((with_reducible refine' w_addS ?s0 ?q); (case s0 => first | omega | decide +kernel))
  | with_reducible refine w_dnew ?_
  | with_reducible refine w_pnil ?_
  | with_reducible refine w_pcons ?_
  | ((with_reducible refine' w_slS ?s0 ?q); (case s0 => first | assumption | omega))
  | ((with_reducible refine' w_inLS ?s0 ?q); (case s0 => assumption))
  | ((with_reducible refine' w_ninLS ?s0 ?q); (case s0 => assumption))
  | ((with_reducible refine' w_inTS ?s0 ?q); (case s0 => assumption))
  | with_reducible refine w_par ?_
  | with_reducible refine w_parEnd ?_
  | with_reducible refine w_fld ?_
  | with_reducible refine w_e1 ?_
  | with_reducible refine w_e2 ?_
  | with_reducible refine w_par3 ?_
  | with_reducible refine w_parEnd3 ?_
  | ((with_reducible refine' w_upper ?s0 ?q); (case s0 => first | assumption | omega | decide +kernel))
  | dsimp only [wipe, List.set_cons_zero, List.set_cons_succ])
local macro_rules | `(tactic| walk_at "w") => `(tactic| repeat walk_at "w1")
def topS (i : Nat) : Stmt := PySem.Challenge.pw_raggedtotals_k52_errors_fields_and_bases.main.body.getD i (.Pass ⟨0, 0, 0, 0⟩)
def k_EVERYTHING : Str := Str.ofString "*"
structure Txt (K : PySem.W.Frag) (mg : Str → Option Value) : Prop where
  z_ArithmeticError : mg "ArithmeticError" = none
  z_LookupError : mg "LookupError" = none
  z_RuntimeError : mg "RuntimeError" = none
  z_ValueError : mg "ValueError" = none
  z_abs : mg "abs" = none
  z_bool : mg "bool" = none
  z_enumerate : mg "enumerate" = none
  z_int : mg "int" = none
  z_isinstance : mg "isinstance" = none
  z_range : mg "range" = none
  z_str : mg "str" = none
  g_MAX_LEVELS : ∃ u, mg "MAX_LEVELS" = some u ∧ RelV (.int 8) u
  g_MAX_LINKS : ∃ u, mg "MAX_LINKS" = some u ∧ RelV (.int 14) u
  g_MAX_MARKS : ∃ u, mg "MAX_MARKS" = some u ∧ RelV (.int 4) u
  g_MAX_RULES : ∃ u, mg "MAX_RULES" = some u ∧ RelV (.int 20) u
  g_MAX_PARTS : ∃ u, mg "MAX_PARTS" = some u ∧ RelV (.int 60) u
  g_MAX_DEPTH : ∃ u, mg "MAX_DEPTH" = some u ∧ RelV (.int 6) u
  g_MAX_SHAPES : ∃ u, mg "MAX_SHAPES" = some u ∧ RelV (.int 60) u
  g_MAX_DIMENSIONS : ∃ u, mg "MAX_DIMENSIONS" = some u ∧ RelV (.int 3) u
  g_MAX_STORED : ∃ u, mg "MAX_STORED" = some u ∧ RelV (.int 10) u
  g_MAX_WANTED : ∃ u, mg "MAX_WANTED" = some u ∧ RelV (.int 4) u
  g_MAX_BANNED : ∃ u, mg "MAX_BANNED" = some u ∧ RelV (.int 12) u
  g_EVERYTHING : ∃ u, mg "EVERYTHING" = some u ∧ RelV (.str k_EVERYTHING) u
/-! ### the classes of errors of this program -/
def allN : List Str := [("InvalidName" : Str), ("InvalidText" : Str), ("InvalidLevel" : Str), ("InvalidView" : Str), ("InvalidCell" : Str), ("InvalidAmount" : Str), ("InvalidTimes" : Str), ("InvalidMeasure" : Str), ("NotACondition" : Str), ("NotAShape" : Str), ("NotASchema" : Str), ("NotACube" : Str), ("NotADataset" : Str), ("NotAWarehouse" : Str), ("InvalidLinks" : Str), ("InvalidMarks" : Str), ("InvalidRules" : Str), ("InvalidMembers" : Str), ("InvalidSchemas" : Str), ("InvalidHierarchies" : Str), ("InvalidFacts" : Str), ("InvalidStored" : Str), ("InvalidWanted" : Str), ("InvalidPrices" : Str), ("InvalidShapes" : Str), ("InvalidRows" : Str), ("InvalidGoal" : Str), ("InvalidDeed" : Str), ("UnknownMember" : Str), ("MissingFact" : Str), ("NotStored" : Str), ("HasChildren" : Str), ("HasFacts" : Str), ("NothingToUndo" : Str), ("InvalidParents" : Str), ("TwoAncestors" : Str), ("BrokenRule" : Str), ("NotAllowed" : Str), ("NotDetermined" : Str), ("NotComparable" : Str), ("OtherCube" : Str), ("TooMany" : Str)]
def ones : List (Str × Str) := [(("InvalidName" : Str), ("value" : Str)), (("InvalidText" : Str), ("value" : Str)), (("InvalidLevel" : Str), ("value" : Str)), (("InvalidView" : Str), ("value" : Str)), (("InvalidCell" : Str), ("value" : Str)), (("InvalidAmount" : Str), ("value" : Str)), (("InvalidTimes" : Str), ("value" : Str)), (("InvalidMeasure" : Str), ("value" : Str)), (("NotACondition" : Str), ("value" : Str)), (("NotAShape" : Str), ("value" : Str)), (("NotASchema" : Str), ("value" : Str)), (("NotACube" : Str), ("value" : Str)), (("NotADataset" : Str), ("value" : Str)), (("NotAWarehouse" : Str), ("value" : Str)), (("InvalidLinks" : Str), ("index" : Str)), (("InvalidMarks" : Str), ("index" : Str)), (("InvalidRules" : Str), ("index" : Str)), (("InvalidMembers" : Str), ("index" : Str)), (("InvalidSchemas" : Str), ("index" : Str)), (("InvalidHierarchies" : Str), ("index" : Str)), (("InvalidFacts" : Str), ("index" : Str)), (("InvalidStored" : Str), ("index" : Str)), (("InvalidWanted" : Str), ("index" : Str)), (("InvalidPrices" : Str), ("index" : Str)), (("InvalidShapes" : Str), ("index" : Str)), (("InvalidRows" : Str), ("index" : Str)), (("InvalidGoal" : Str), ("index" : Str)), (("InvalidDeed" : Str), ("index" : Str)), (("UnknownMember" : Str), ("value" : Str)), (("MissingFact" : Str), ("value" : Str)), (("NotStored" : Str), ("value" : Str)), (("HasChildren" : Str), ("value" : Str)), (("HasFacts" : Str), ("value" : Str)), (("InvalidParents" : Str), ("member" : Str)), (("TwoAncestors" : Str), ("member" : Str)), (("NotAllowed" : Str), ("value" : Str)), (("NotDetermined" : Str), ("blind_spot" : Str)), (("TooMany" : Str), ("limit" : Str))]
def bareN : List Str := [("NothingToUndo" : Str), ("NotComparable" : Str), ("OtherCube" : Str)]
def kindL : List (Str × Nat) := [(("InvalidName" : Str), 0), (("InvalidText" : Str), 0), (("InvalidLevel" : Str), 0), (("InvalidView" : Str), 0), (("InvalidCell" : Str), 0), (("InvalidAmount" : Str), 0), (("InvalidTimes" : Str), 0), (("InvalidMeasure" : Str), 0), (("NotACondition" : Str), 0), (("NotAShape" : Str), 0), (("NotASchema" : Str), 0), (("NotACube" : Str), 0), (("NotADataset" : Str), 0), (("NotAWarehouse" : Str), 0), (("InvalidLinks" : Str), 0), (("InvalidMarks" : Str), 0), (("InvalidRules" : Str), 0), (("InvalidMembers" : Str), 0), (("InvalidSchemas" : Str), 0), (("InvalidHierarchies" : Str), 0), (("InvalidFacts" : Str), 0), (("InvalidStored" : Str), 0), (("InvalidWanted" : Str), 0), (("InvalidPrices" : Str), 0), (("InvalidShapes" : Str), 0), (("InvalidRows" : Str), 0), (("InvalidGoal" : Str), 0), (("InvalidDeed" : Str), 0), (("UnknownMember" : Str), 1), (("MissingFact" : Str), 1), (("NotStored" : Str), 1), (("HasChildren" : Str), 1), (("HasFacts" : Str), 1), (("NothingToUndo" : Str), 1), (("InvalidParents" : Str), 2), (("TwoAncestors" : Str), 2), (("BrokenRule" : Str), 2), (("NotAllowed" : Str), 2), (("NotDetermined" : Str), 2), (("NotComparable" : Str), 2), (("OtherCube" : Str), 2), (("TooMany" : Str), 3)]
def kindOf (x : Str) : Nat := (kindL.lookup x).getD 9
def baseL : List (Str × Nat) := [(("RaggedError" : Str), 0), (("StateError" : Str), 1), (("RuleError" : Str), 2), (("LimitError" : Str), 3)]
def pyL : List (String × Nat) := [("ValueError", 0), ("LookupError", 1), ("RuntimeError", 2), ("ArithmeticError", 3)]
def tailOf : Nat → List Value
  | 0 => [.type "ValueError", .type "Exception", .type "BaseException", .type "object"]
  | 1 => [.type "LookupError", .type "Exception", .type "BaseException", .type "object"]
  | 2 => [.type "RuntimeError", .type "Exception", .type "BaseException", .type "object"]
  | _ => [.type "ArithmeticError", .type "Exception", .type "BaseException", .type "object"]
def newOf : Nat → String
  | 0 => "ValueError.__new__"
  | 1 => "LookupError.__new__"
  | 2 => "RuntimeError.__new__"
  | _ => "ArithmeticError.__new__"
def isaB (K : PySem.W.Frag) (C : Addr) : Bool := decide (PySem.W.findIn K (.ref C) "__class__" = some (some (.builtin "object.__class__"))) && (decide (PySem.W.specialIn K (.builtin "object.__class__") "__get__" = some (some (.builtin "getset_descriptor.__get__"))) &&
  (decide (PySem.W.takesIn K (.builtin "object.__class__") = some true) && decide (PySem.W.mroIn K C (.type "object") = some true)))
def xcB (K : PySem.W.Frag) (C : Addr) (i : Nat) : Bool := PySem.W.excInitIn K C (tailOf i) (newOf i) && (PySem.W.excOver K C (tailOf i) && (decide (PySem.W.findIn K (.ref C) "__setattr__" = some (some (.builtin "object.__setattr__"))) && (xfB K C && (isaB K C && PySem.W.keepIn K (.ref C)))))
theorem xc_of {K : PySem.W.Frag} {C : Addr} {i : Nat} (h : xcB K C i = true) : XC K C := by
  obtain ⟨h1, h⟩ := Bool.and_eq_true_iff.mp h
  obtain ⟨h2, h⟩ := Bool.and_eq_true_iff.mp h
  obtain ⟨h3, h⟩ := Bool.and_eq_true_iff.mp h
  obtain ⟨h4, h⟩ := Bool.and_eq_true_iff.mp h
  obtain ⟨h5, h6⟩ := Bool.and_eq_true_iff.mp h
  obtain ⟨j1, j⟩ := Bool.and_eq_true_iff.mp h5
  obtain ⟨j2, j⟩ := Bool.and_eq_true_iff.mp j
  obtain ⟨j3, j4⟩ := Bool.and_eq_true_iff.mp j
  have F := xfB_ok h4
  refine ⟨?_, of_decide_eq_true h3, F.hdC, F, ⟨F.ga, F.gg, F.exC, F.hdC, of_decide_eq_true j1, of_decide_eq_true j2, of_decide_eq_true j3, of_decide_eq_true j4⟩, h6⟩
  match i, h1, h2 with
  | 0, h1, h2 => exact ⟨_, _, _, _, PySem.F.excBase_ValueError, PySem.F.store_ValueError, h1, h2⟩
  | 1, h1, h2 => exact ⟨_, _, _, _, PySem.F.excBase_LookupError, PySem.F.store_LookupError, h1, h2⟩
  | 2, h1, h2 => exact ⟨_, _, _, _, PySem.F.excBase_RuntimeError, PySem.F.store_RuntimeError, h1, h2⟩
  | _ + 3, h1, h2 => exact ⟨_, _, _, _, PySem.F.excBase_ArithmeticError, PySem.F.store_ArithmeticError, h1, h2⟩
theorem x0_of {K : PySem.W.Frag} {C : Addr} (i : Nat) (h : PySem.W.excIn K C (tailOf i) (newOf i) = true) : X0 K C := by
  match i, h with
  | 0, h => exact ⟨_, _, _, _, PySem.F.excBase_ValueError, h⟩
  | 1, h => exact ⟨_, _, _, _, PySem.F.excBase_LookupError, h⟩
  | 2, h => exact ⟨_, _, _, _, PySem.F.excBase_RuntimeError, h⟩
  | _ + 3, h => exact ⟨_, _, _, _, PySem.F.excBase_ArithmeticError, h⟩
/-- the checks over the written part -/
def atB (K : PySem.W.Frag) (x : Str) : Bool := decide (PySem.W.nsIn K mainGlobals x = some (some (.ref (mainAt K x))))
def noB (K : PySem.W.Frag) (x f : Str) : Bool := decide (PySem.W.takerIn K (mainAt K x) f = some none) && decide (PySem.W.findIn K (.ref (mainAt K x)) f = some none)
def kitB2 (K : PySem.W.Frag) (x y : Str) : Bool := decide (PySem.W.kitOne K (.ref (mainAt K x)) (.ref (mainAt K y)) = some (decide (x = y)))
def kitB3 (K : PySem.W.Frag) (x : Str) (p : Str × Nat) : Bool := decide (PySem.W.kitOne K (.ref (mainAt K x)) (.ref (mainAt K p.1)) = some (decide (kindOf x = p.2)))
def kitB4 (K : PySem.W.Frag) (x : Str) (p : String × Nat) : Bool := decide (PySem.W.kitOne K (.ref (mainAt K x)) (.type p.1) = some (decide (kindOf x = p.2)))
structure ErrB (K : PySem.W.Frag) : Prop where
  b1 : (allN.all fun x => atB K x && xcB K (mainAt K x) (kindOf x)) = true
  b2 : (baseL.all fun p => atB K p.1) = true
  b3 : (allN.all fun x => allN.all fun y => kitB2 K x y) = true
  b4 : (allN.all fun x => baseL.all fun p => kitB3 K x p) = true
  b5 : (allN.all fun x => pyL.all fun p => kitB4 K x p) = true
  b6 : (ones.all fun p => noB K p.1 p.2) = true
  b7 : (bareN.all fun x => PySem.W.excIn K (mainAt K x) (tailOf (kindOf x)) (newOf (kindOf x))) = true
  b8 : (noB K "BrokenRule" "member" && noB K "BrokenRule" "index") = true
/-- the own __init__ of a class -/
structure Ini (K : PySem.W.Frag) (x q : Str) (st : Stmt) : Prop where
  ex : ∃ f fd, Fun K "__init__" q st f fd ∧ PySem.W.findIn K (.ref (mainAt K x)) "__init__" = some (some (.ref f)) ∧ PySem.W.typeIn K (.ref f) = some (.type "function")
theorem ini_at {K : PySem.W.Frag} {x q : Str} {st : Stmt} {f : Addr} {od an : Option Addr} {sl : Array (Option Value)} {oc kV dc pm cd ct : Value}
    (i : PySem.W.findIn K (.ref (mainAt K x)) "__init__" = some (some (.ref f))) (l : K.lookup f = some ⟨oc, od, .func (PySem.W.fnOf "__init__" q (defArgs st) (defBody st) (defScope st) .none kV dc pm an cd ct), sl⟩) (c : PySem.W.codeIn K cd q = true) (k : PySem.W.keepIn K (.ref f) = true)
    (t : PySem.W.typeIn K (.ref f) = some (.type "function")) : Ini K x q st := ⟨f, _, fun_mk l c k, i, t⟩
section
variable {P : Program} {w : World} {K : PySem.W.Frag} {mg : Str → Option Value} {base : Heap} {x q f g : Str} {st : Stmt}
theorem mk1 (B : ErrB K) (hx : x ∈ allN) (hf : (x, f) ∈ ones) (hm : ∀ y ∈ allN, mg y = some (.ref (mainAt K y))) (I : Ini K x q st) (S : FnScope ["self", f] ["self", f] (defScope st)) (ls : Vis (defScope st) "self") (lf : Vis (defScope st) f) (nd : (f == ("__debug__" : Str)) = false) (nc : (f == ("__classdict__" : Str)) = false)
    (hb : ∃ p1 p2 p3 pos, defBody st = [.Assign [.Attribute (.Name "self" p1) f p2] (.Name f p3) pos])
    (hp : ∀ (kV doc pm : Value) (an : Option Addr) (cdv ct u v : Value), bindArgs (PySem.W.fnOf "__init__" q (defArgs st) (defBody st) (defScope st) .none kV doc pm an cdv ct) ⟨[u, v], []⟩ = pure [(("self" : Str), u), (f, v)])
    (hk : ∀ (kV doc pm : Value) (an : Option Addr) (cdv ct u v : Value), bindArgs (PySem.W.fnOf "__init__" q (defArgs st) (defBody st) (defScope st) .none kV doc pm an cdv ct) ⟨[u], [(f, v)]⟩ = pure [(("self" : Str), u), (f, v)]) : Mak1 P w K mg base x f := by
  have b1 := List.all_eq_true.mp B.b1 x hx
  have b6 := List.all_eq_true.mp B.b6 _ hf
  obtain ⟨h1, h2⟩ := Bool.and_eq_true_iff.mp b1
  obtain ⟨h3, h4⟩ := Bool.and_eq_true_iff.mp b6
  obtain ⟨fI, fd, F, i, t⟩ := I.ex
  refine ⟨hm x hx, xc_of h2, of_decide_eq_true h3, of_decide_eq_true h4, fI, fd, i, t, init1 F S ls lf nd nc hb, F.binds fun kV doc pm an cdv ct us hl => ?_, ?_⟩
  · match us, hl with
    | [u, v], _ => exact hp kV doc pm an cdv ct u v
  · obtain ⟨oc, od, kV, doc, pm, an, cdv, ct, osl, rfl, lk, hcd⟩ := F.ex
    refine ⟨fun s us ws _ h1 h2 => ?_, fun r1 r2 => r1.append r2⟩
    match us, ws, h1, h2 with
    | [u], [v], _, _ => exact .of_eq (hk kV doc pm an cdv ct u v)
theorem mk2 (B : ErrB K) (hm : ∀ y ∈ allN, mg y = some (.ref (mainAt K y))) (I : Ini K "BrokenRule" q st) (S : FnScope ["self", "member", "index"] ["self", "member", "index"] (defScope st)) (ls : Vis (defScope st) "self") (lf : Vis (defScope st) "member") (lg : Vis (defScope st) "index")
    (hb : ∃ p1 p2 p3 pos o1 o2 o3 pos2, defBody st = [.Assign [.Attribute (.Name "self" p1) "member" p2] (.Name "member" p3) pos, .Assign [.Attribute (.Name "self" o1) "index" o2] (.Name "index" o3) pos2])
    (hp : ∀ (kV doc pm : Value) (an : Option Addr) (cdv ct u v z : Value), bindArgs (PySem.W.fnOf "__init__" q (defArgs st) (defBody st) (defScope st) .none kV doc pm an cdv ct) ⟨[u, v, z], []⟩ = pure [(("self" : Str), u), (("member" : Str), v), (("index" : Str), z)])
    (hk : ∀ (kV doc pm : Value) (an : Option Addr) (cdv ct u v z : Value), bindArgs (PySem.W.fnOf "__init__" q (defArgs st) (defBody st) (defScope st) .none kV doc pm an cdv ct) ⟨[u], [(("index" : Str), z), (("member" : Str), v)]⟩ = pure [(("self" : Str), u), (("member" : Str), v), (("index" : Str), z)]) : Mak2 P w K mg base "BrokenRule" "member" "index" := by
  have b1 := List.all_eq_true.mp B.b1 "BrokenRule" (by decide +kernel)
  obtain ⟨h1, h2⟩ := Bool.and_eq_true_iff.mp b1
  obtain ⟨h3, h4⟩ := Bool.and_eq_true_iff.mp B.b8
  obtain ⟨h5, h6⟩ := Bool.and_eq_true_iff.mp h3
  obtain ⟨h7, h8⟩ := Bool.and_eq_true_iff.mp h4
  obtain ⟨fI, fd, F, i, t⟩ := I.ex
  refine ⟨hm _ (by decide +kernel), xc_of h2, ⟨of_decide_eq_true h5, of_decide_eq_true h7⟩, ⟨of_decide_eq_true h6, of_decide_eq_true h8⟩, fI, fd, i, t, init2 F S ls lf lg (by decide +kernel) (by decide +kernel) (by decide +kernel) (by decide +kernel) (by decide +kernel) hb, F.binds fun kV doc pm an cdv ct us hl => ?_, ?_⟩
  · match us, hl with
    | [u, v, z], _ => exact hp kV doc pm an cdv ct u v z
  · obtain ⟨oc, od, kV, doc, pm, an, cdv, ct, osl, rfl, lk, hcd⟩ := F.ex
    refine ⟨fun s us ws _ h1 h2 => ?_, fun r1 r2 => r1.append (vals_revE r2)⟩
    match us, ws, h1, h2 with
    | [u], [z, v], _, _ => exact .of_eq (hk kV doc pm an cdv ct u v z)
end
/-- all of it -/
structure Errs (P : Program) (w : World) (K : PySem.W.Frag) (mg : Str → Option Value) (base : Heap) : Prop where
  at_ : ∀ x ∈ allN, mg x = some (.ref (mainAt K x))
  bas : ∀ p ∈ baseL, mg p.1 = some (.ref (mainAt K p.1))
  xc : ∀ x ∈ allN, XC K (mainAt K x)
  same : ∀ x ∈ allN, ∀ y ∈ allN, PySem.W.kitOne K (.ref (mainAt K x)) (.ref (mainAt K y)) = some (decide (x = y))
  up : ∀ x ∈ allN, ∀ p ∈ baseL, PySem.W.kitOne K (.ref (mainAt K x)) (.ref (mainAt K p.1)) = some (decide (kindOf x = p.2))
  py : ∀ x ∈ allN, ∀ p ∈ pyL, PySem.W.kitOne K (.ref (mainAt K x)) (.type p.1) = some (decide (kindOf x = p.2))
  m1 : ∀ x f : Str, (x, f) ∈ ones → Mak1 P w K mg base x f
  m2 : Mak2 P w K mg base "BrokenRule" "member" "index"
  m0 : ∀ x ∈ bareN, Mak0 K mg x

abbrev st_InvalidName : Stmt := inClass (topS 5) 0
abbrev st_InvalidText : Stmt := inClass (topS 6) 0
abbrev st_InvalidLevel : Stmt := inClass (topS 7) 0
abbrev st_InvalidView : Stmt := inClass (topS 8) 0
abbrev st_InvalidCell : Stmt := inClass (topS 9) 0
abbrev st_InvalidAmount : Stmt := inClass (topS 10) 0
abbrev st_InvalidTimes : Stmt := inClass (topS 11) 0
abbrev st_InvalidMeasure : Stmt := inClass (topS 12) 0
abbrev st_NotACondition : Stmt := inClass (topS 13) 0
abbrev st_NotAShape : Stmt := inClass (topS 14) 0
abbrev st_NotASchema : Stmt := inClass (topS 15) 0
abbrev st_NotACube : Stmt := inClass (topS 16) 0
abbrev st_NotADataset : Stmt := inClass (topS 17) 0
abbrev st_NotAWarehouse : Stmt := inClass (topS 18) 0
abbrev st_InvalidLinks : Stmt := inClass (topS 19) 0
abbrev st_InvalidMarks : Stmt := inClass (topS 20) 0
abbrev st_InvalidRules : Stmt := inClass (topS 21) 0
abbrev st_InvalidMembers : Stmt := inClass (topS 22) 0
abbrev st_InvalidSchemas : Stmt := inClass (topS 23) 0
abbrev st_InvalidHierarchies : Stmt := inClass (topS 24) 0
abbrev st_InvalidFacts : Stmt := inClass (topS 25) 0
abbrev st_InvalidStored : Stmt := inClass (topS 26) 0
abbrev st_InvalidWanted : Stmt := inClass (topS 27) 0
abbrev st_InvalidPrices : Stmt := inClass (topS 28) 0
abbrev st_InvalidShapes : Stmt := inClass (topS 29) 0
abbrev st_InvalidRows : Stmt := inClass (topS 30) 0
abbrev st_InvalidGoal : Stmt := inClass (topS 31) 0
abbrev st_InvalidDeed : Stmt := inClass (topS 32) 0
abbrev st_UnknownMember : Stmt := inClass (topS 33) 0
abbrev st_MissingFact : Stmt := inClass (topS 34) 0
abbrev st_NotStored : Stmt := inClass (topS 35) 0
abbrev st_HasChildren : Stmt := inClass (topS 36) 0
abbrev st_HasFacts : Stmt := inClass (topS 37) 0
abbrev st_InvalidParents : Stmt := inClass (topS 39) 0
abbrev st_TwoAncestors : Stmt := inClass (topS 40) 0
abbrev st_BrokenRule : Stmt := inClass (topS 41) 0
abbrev st_NotAllowed : Stmt := inClass (topS 42) 0
abbrev st_NotDetermined : Stmt := inClass (topS 43) 0
abbrev st_TooMany : Stmt := inClass (topS 46) 0
theorem sc_InvalidName : FnScope ["self", "value"] ["self", "value"] (defScope st_InvalidName) := ⟨rfl, rfl, rfl, by decide +kernel, rfl, by decide +kernel, by decide +kernel⟩
theorem sc_InvalidText : FnScope ["self", "value"] ["self", "value"] (defScope st_InvalidText) := ⟨rfl, rfl, rfl, by decide +kernel, rfl, by decide +kernel, by decide +kernel⟩
theorem sc_InvalidLevel : FnScope ["self", "value"] ["self", "value"] (defScope st_InvalidLevel) := ⟨rfl, rfl, rfl, by decide +kernel, rfl, by decide +kernel, by decide +kernel⟩
theorem sc_InvalidView : FnScope ["self", "value"] ["self", "value"] (defScope st_InvalidView) := ⟨rfl, rfl, rfl, by decide +kernel, rfl, by decide +kernel, by decide +kernel⟩
theorem sc_InvalidCell : FnScope ["self", "value"] ["self", "value"] (defScope st_InvalidCell) := ⟨rfl, rfl, rfl, by decide +kernel, rfl, by decide +kernel, by decide +kernel⟩
theorem sc_InvalidAmount : FnScope ["self", "value"] ["self", "value"] (defScope st_InvalidAmount) := ⟨rfl, rfl, rfl, by decide +kernel, rfl, by decide +kernel, by decide +kernel⟩
theorem sc_InvalidTimes : FnScope ["self", "value"] ["self", "value"] (defScope st_InvalidTimes) := ⟨rfl, rfl, rfl, by decide +kernel, rfl, by decide +kernel, by decide +kernel⟩
theorem sc_InvalidMeasure : FnScope ["self", "value"] ["self", "value"] (defScope st_InvalidMeasure) := ⟨rfl, rfl, rfl, by decide +kernel, rfl, by decide +kernel, by decide +kernel⟩
theorem sc_NotACondition : FnScope ["self", "value"] ["self", "value"] (defScope st_NotACondition) := ⟨rfl, rfl, rfl, by decide +kernel, rfl, by decide +kernel, by decide +kernel⟩
theorem sc_NotAShape : FnScope ["self", "value"] ["self", "value"] (defScope st_NotAShape) := ⟨rfl, rfl, rfl, by decide +kernel, rfl, by decide +kernel, by decide +kernel⟩
theorem sc_NotASchema : FnScope ["self", "value"] ["self", "value"] (defScope st_NotASchema) := ⟨rfl, rfl, rfl, by decide +kernel, rfl, by decide +kernel, by decide +kernel⟩
theorem sc_NotACube : FnScope ["self", "value"] ["self", "value"] (defScope st_NotACube) := ⟨rfl, rfl, rfl, by decide +kernel, rfl, by decide +kernel, by decide +kernel⟩
theorem sc_NotADataset : FnScope ["self", "value"] ["self", "value"] (defScope st_NotADataset) := ⟨rfl, rfl, rfl, by decide +kernel, rfl, by decide +kernel, by decide +kernel⟩
theorem sc_NotAWarehouse : FnScope ["self", "value"] ["self", "value"] (defScope st_NotAWarehouse) := ⟨rfl, rfl, rfl, by decide +kernel, rfl, by decide +kernel, by decide +kernel⟩
theorem sc_InvalidLinks : FnScope ["self", "index"] ["self", "index"] (defScope st_InvalidLinks) := ⟨rfl, rfl, rfl, by decide +kernel, rfl, by decide +kernel, by decide +kernel⟩
theorem sc_InvalidMarks : FnScope ["self", "index"] ["self", "index"] (defScope st_InvalidMarks) := ⟨rfl, rfl, rfl, by decide +kernel, rfl, by decide +kernel, by decide +kernel⟩
theorem sc_InvalidRules : FnScope ["self", "index"] ["self", "index"] (defScope st_InvalidRules) := ⟨rfl, rfl, rfl, by decide +kernel, rfl, by decide +kernel, by decide +kernel⟩
theorem sc_InvalidMembers : FnScope ["self", "index"] ["self", "index"] (defScope st_InvalidMembers) := ⟨rfl, rfl, rfl, by decide +kernel, rfl, by decide +kernel, by decide +kernel⟩
theorem sc_InvalidSchemas : FnScope ["self", "index"] ["self", "index"] (defScope st_InvalidSchemas) := ⟨rfl, rfl, rfl, by decide +kernel, rfl, by decide +kernel, by decide +kernel⟩
theorem sc_InvalidHierarchies : FnScope ["self", "index"] ["self", "index"] (defScope st_InvalidHierarchies) := ⟨rfl, rfl, rfl, by decide +kernel, rfl, by decide +kernel, by decide +kernel⟩
theorem sc_InvalidFacts : FnScope ["self", "index"] ["self", "index"] (defScope st_InvalidFacts) := ⟨rfl, rfl, rfl, by decide +kernel, rfl, by decide +kernel, by decide +kernel⟩
theorem sc_InvalidStored : FnScope ["self", "index"] ["self", "index"] (defScope st_InvalidStored) := ⟨rfl, rfl, rfl, by decide +kernel, rfl, by decide +kernel, by decide +kernel⟩
theorem sc_InvalidWanted : FnScope ["self", "index"] ["self", "index"] (defScope st_InvalidWanted) := ⟨rfl, rfl, rfl, by decide +kernel, rfl, by decide +kernel, by decide +kernel⟩
theorem sc_InvalidPrices : FnScope ["self", "index"] ["self", "index"] (defScope st_InvalidPrices) := ⟨rfl, rfl, rfl, by decide +kernel, rfl, by decide +kernel, by decide +kernel⟩
theorem sc_InvalidShapes : FnScope ["self", "index"] ["self", "index"] (defScope st_InvalidShapes) := ⟨rfl, rfl, rfl, by decide +kernel, rfl, by decide +kernel, by decide +kernel⟩
theorem sc_InvalidRows : FnScope ["self", "index"] ["self", "index"] (defScope st_InvalidRows) := ⟨rfl, rfl, rfl, by decide +kernel, rfl, by decide +kernel, by decide +kernel⟩
theorem sc_InvalidGoal : FnScope ["self", "index"] ["self", "index"] (defScope st_InvalidGoal) := ⟨rfl, rfl, rfl, by decide +kernel, rfl, by decide +kernel, by decide +kernel⟩
theorem sc_InvalidDeed : FnScope ["self", "index"] ["self", "index"] (defScope st_InvalidDeed) := ⟨rfl, rfl, rfl, by decide +kernel, rfl, by decide +kernel, by decide +kernel⟩
theorem sc_UnknownMember : FnScope ["self", "value"] ["self", "value"] (defScope st_UnknownMember) := ⟨rfl, rfl, rfl, by decide +kernel, rfl, by decide +kernel, by decide +kernel⟩
theorem sc_MissingFact : FnScope ["self", "value"] ["self", "value"] (defScope st_MissingFact) := ⟨rfl, rfl, rfl, by decide +kernel, rfl, by decide +kernel, by decide +kernel⟩
theorem sc_NotStored : FnScope ["self", "value"] ["self", "value"] (defScope st_NotStored) := ⟨rfl, rfl, rfl, by decide +kernel, rfl, by decide +kernel, by decide +kernel⟩
theorem sc_HasChildren : FnScope ["self", "value"] ["self", "value"] (defScope st_HasChildren) := ⟨rfl, rfl, rfl, by decide +kernel, rfl, by decide +kernel, by decide +kernel⟩
theorem sc_HasFacts : FnScope ["self", "value"] ["self", "value"] (defScope st_HasFacts) := ⟨rfl, rfl, rfl, by decide +kernel, rfl, by decide +kernel, by decide +kernel⟩
theorem sc_InvalidParents : FnScope ["self", "member"] ["self", "member"] (defScope st_InvalidParents) := ⟨rfl, rfl, rfl, by decide +kernel, rfl, by decide +kernel, by decide +kernel⟩
theorem sc_TwoAncestors : FnScope ["self", "member"] ["self", "member"] (defScope st_TwoAncestors) := ⟨rfl, rfl, rfl, by decide +kernel, rfl, by decide +kernel, by decide +kernel⟩
theorem sc_NotAllowed : FnScope ["self", "value"] ["self", "value"] (defScope st_NotAllowed) := ⟨rfl, rfl, rfl, by decide +kernel, rfl, by decide +kernel, by decide +kernel⟩
theorem sc_NotDetermined : FnScope ["self", "blind_spot"] ["self", "blind_spot"] (defScope st_NotDetermined) := ⟨rfl, rfl, rfl, by decide +kernel, rfl, by decide +kernel, by decide +kernel⟩
theorem sc_TooMany : FnScope ["self", "limit"] ["self", "limit"] (defScope st_TooMany) := ⟨rfl, rfl, rfl, by decide +kernel, rfl, by decide +kernel, by decide +kernel⟩
theorem sc_BrokenRule : FnScope ["self", "member", "index"] ["self", "member", "index"] (defScope st_BrokenRule) := ⟨rfl, rfl, rfl, by decide +kernel, rfl, by decide +kernel, by decide +kernel⟩
theorem errs_mk {P : Program} {w : World} {K : PySem.W.Frag} {mg : Str → Option Value} {base : Heap} (B : ErrB K) (hm : ∀ x a, PySem.W.nsIn K mainGlobals x = some (some a) → mg x = some a)
    (i_InvalidName : Ini K "InvalidName" "InvalidName.__init__" st_InvalidName) (i_InvalidText : Ini K "InvalidText" "InvalidText.__init__" st_InvalidText) (i_InvalidLevel : Ini K "InvalidLevel" "InvalidLevel.__init__" st_InvalidLevel) (i_InvalidView : Ini K "InvalidView" "InvalidView.__init__" st_InvalidView) (i_InvalidCell : Ini K "InvalidCell" "InvalidCell.__init__" st_InvalidCell) (i_InvalidAmount : Ini K "InvalidAmount" "InvalidAmount.__init__" st_InvalidAmount) (i_InvalidTimes : Ini K "InvalidTimes" "InvalidTimes.__init__" st_InvalidTimes) (i_InvalidMeasure : Ini K "InvalidMeasure" "InvalidMeasure.__init__" st_InvalidMeasure) (i_NotACondition : Ini K "NotACondition" "NotACondition.__init__" st_NotACondition) (i_NotAShape : Ini K "NotAShape" "NotAShape.__init__" st_NotAShape) (i_NotASchema : Ini K "NotASchema" "NotASchema.__init__" st_NotASchema) (i_NotACube : Ini K "NotACube" "NotACube.__init__" st_NotACube) (i_NotADataset : Ini K "NotADataset" "NotADataset.__init__" st_NotADataset) (i_NotAWarehouse : Ini K "NotAWarehouse" "NotAWarehouse.__init__" st_NotAWarehouse) (i_InvalidLinks : Ini K "InvalidLinks" "InvalidLinks.__init__" st_InvalidLinks) (i_InvalidMarks : Ini K "InvalidMarks" "InvalidMarks.__init__" st_InvalidMarks) (i_InvalidRules : Ini K "InvalidRules" "InvalidRules.__init__" st_InvalidRules) (i_InvalidMembers : Ini K "InvalidMembers" "InvalidMembers.__init__" st_InvalidMembers) (i_InvalidSchemas : Ini K "InvalidSchemas" "InvalidSchemas.__init__" st_InvalidSchemas) (i_InvalidHierarchies : Ini K "InvalidHierarchies" "InvalidHierarchies.__init__" st_InvalidHierarchies) (i_InvalidFacts : Ini K "InvalidFacts" "InvalidFacts.__init__" st_InvalidFacts) (i_InvalidStored : Ini K "InvalidStored" "InvalidStored.__init__" st_InvalidStored) (i_InvalidWanted : Ini K "InvalidWanted" "InvalidWanted.__init__" st_InvalidWanted) (i_InvalidPrices : Ini K "InvalidPrices" "InvalidPrices.__init__" st_InvalidPrices) (i_InvalidShapes : Ini K "InvalidShapes" "InvalidShapes.__init__" st_InvalidShapes) (i_InvalidRows : Ini K "InvalidRows" "InvalidRows.__init__" st_InvalidRows) (i_InvalidGoal : Ini K "InvalidGoal" "InvalidGoal.__init__" st_InvalidGoal) (i_InvalidDeed : Ini K "InvalidDeed" "InvalidDeed.__init__" st_InvalidDeed) (i_UnknownMember : Ini K "UnknownMember" "UnknownMember.__init__" st_UnknownMember) (i_MissingFact : Ini K "MissingFact" "MissingFact.__init__" st_MissingFact) (i_NotStored : Ini K "NotStored" "NotStored.__init__" st_NotStored) (i_HasChildren : Ini K "HasChildren" "HasChildren.__init__" st_HasChildren) (i_HasFacts : Ini K "HasFacts" "HasFacts.__init__" st_HasFacts) (i_InvalidParents : Ini K "InvalidParents" "InvalidParents.__init__" st_InvalidParents) (i_TwoAncestors : Ini K "TwoAncestors" "TwoAncestors.__init__" st_TwoAncestors) (i_BrokenRule : Ini K "BrokenRule" "BrokenRule.__init__" st_BrokenRule) (i_NotAllowed : Ini K "NotAllowed" "NotAllowed.__init__" st_NotAllowed) (i_NotDetermined : Ini K "NotDetermined" "NotDetermined.__init__" st_NotDetermined) (i_TooMany : Ini K "TooMany" "TooMany.__init__" st_TooMany) : Errs P w K mg base := by
  have at1 : ∀ x ∈ allN, mg x = some (.ref (mainAt K x)) := fun x hx => hm _ _ (of_decide_eq_true (Bool.and_eq_true_iff.mp (List.all_eq_true.mp B.b1 x hx)).1)
  have xc1 : ∀ x ∈ allN, XC K (mainAt K x) := fun x hx => xc_of (Bool.and_eq_true_iff.mp (List.all_eq_true.mp B.b1 x hx)).2
  refine ⟨at1, fun p hp => hm _ _ (of_decide_eq_true (List.all_eq_true.mp B.b2 p hp)), xc1, fun x hx y hy => of_decide_eq_true (List.all_eq_true.mp (List.all_eq_true.mp B.b3 x hx) y hy), fun x hx p hp => of_decide_eq_true (List.all_eq_true.mp (List.all_eq_true.mp B.b4 x hx) p hp), fun x hx p hp => of_decide_eq_true (List.all_eq_true.mp (List.all_eq_true.mp B.b5 x hx) p hp), fun x f h => ?_, ?_, fun x hx => ?_⟩
  · have h2 := h
    simp only [ones, List.mem_cons, Prod.mk.injEq, List.not_mem_nil, or_false] at h2
    rcases h2 with ⟨rfl, rfl⟩ | ⟨rfl, rfl⟩ | ⟨rfl, rfl⟩ | ⟨rfl, rfl⟩ | ⟨rfl, rfl⟩ | ⟨rfl, rfl⟩ | ⟨rfl, rfl⟩ | ⟨rfl, rfl⟩ | ⟨rfl, rfl⟩ | ⟨rfl, rfl⟩ | ⟨rfl, rfl⟩ | ⟨rfl, rfl⟩ | ⟨rfl, rfl⟩ | ⟨rfl, rfl⟩ | ⟨rfl, rfl⟩ | ⟨rfl, rfl⟩ | ⟨rfl, rfl⟩ | ⟨rfl, rfl⟩ | ⟨rfl, rfl⟩ | ⟨rfl, rfl⟩ | ⟨rfl, rfl⟩ | ⟨rfl, rfl⟩ | ⟨rfl, rfl⟩ | ⟨rfl, rfl⟩ | ⟨rfl, rfl⟩ | ⟨rfl, rfl⟩ | ⟨rfl, rfl⟩ | ⟨rfl, rfl⟩ | ⟨rfl, rfl⟩ | ⟨rfl, rfl⟩ | ⟨rfl, rfl⟩ | ⟨rfl, rfl⟩ | ⟨rfl, rfl⟩ | ⟨rfl, rfl⟩ | ⟨rfl, rfl⟩ | ⟨rfl, rfl⟩ | ⟨rfl, rfl⟩ | ⟨rfl, rfl⟩
    · exact mk1 B (by decide +kernel) h at1 i_InvalidName sc_InvalidName (.inl (by decide +kernel)) (.inl (by decide +kernel)) (by decide +kernel) (by decide +kernel) ⟨_, _, _, _, rfl⟩ (fun _ _ _ _ _ _ _ _ => rfl) (fun _ _ _ _ _ _ _ _ => rfl)
    · exact mk1 B (by decide +kernel) h at1 i_InvalidText sc_InvalidText (.inl (by decide +kernel)) (.inl (by decide +kernel)) (by decide +kernel) (by decide +kernel) ⟨_, _, _, _, rfl⟩ (fun _ _ _ _ _ _ _ _ => rfl) (fun _ _ _ _ _ _ _ _ => rfl)
    · exact mk1 B (by decide +kernel) h at1 i_InvalidLevel sc_InvalidLevel (.inl (by decide +kernel)) (.inl (by decide +kernel)) (by decide +kernel) (by decide +kernel) ⟨_, _, _, _, rfl⟩ (fun _ _ _ _ _ _ _ _ => rfl) (fun _ _ _ _ _ _ _ _ => rfl)
    · exact mk1 B (by decide +kernel) h at1 i_InvalidView sc_InvalidView (.inl (by decide +kernel)) (.inl (by decide +kernel)) (by decide +kernel) (by decide +kernel) ⟨_, _, _, _, rfl⟩ (fun _ _ _ _ _ _ _ _ => rfl) (fun _ _ _ _ _ _ _ _ => rfl)
    · exact mk1 B (by decide +kernel) h at1 i_InvalidCell sc_InvalidCell (.inl (by decide +kernel)) (.inl (by decide +kernel)) (by decide +kernel) (by decide +kernel) ⟨_, _, _, _, rfl⟩ (fun _ _ _ _ _ _ _ _ => rfl) (fun _ _ _ _ _ _ _ _ => rfl)
    · exact mk1 B (by decide +kernel) h at1 i_InvalidAmount sc_InvalidAmount (.inl (by decide +kernel)) (.inl (by decide +kernel)) (by decide +kernel) (by decide +kernel) ⟨_, _, _, _, rfl⟩ (fun _ _ _ _ _ _ _ _ => rfl) (fun _ _ _ _ _ _ _ _ => rfl)
    · exact mk1 B (by decide +kernel) h at1 i_InvalidTimes sc_InvalidTimes (.inl (by decide +kernel)) (.inl (by decide +kernel)) (by decide +kernel) (by decide +kernel) ⟨_, _, _, _, rfl⟩ (fun _ _ _ _ _ _ _ _ => rfl) (fun _ _ _ _ _ _ _ _ => rfl)
    · exact mk1 B (by decide +kernel) h at1 i_InvalidMeasure sc_InvalidMeasure (.inl (by decide +kernel)) (.inl (by decide +kernel)) (by decide +kernel) (by decide +kernel) ⟨_, _, _, _, rfl⟩ (fun _ _ _ _ _ _ _ _ => rfl) (fun _ _ _ _ _ _ _ _ => rfl)
    · exact mk1 B (by decide +kernel) h at1 i_NotACondition sc_NotACondition (.inl (by decide +kernel)) (.inl (by decide +kernel)) (by decide +kernel) (by decide +kernel) ⟨_, _, _, _, rfl⟩ (fun _ _ _ _ _ _ _ _ => rfl) (fun _ _ _ _ _ _ _ _ => rfl)
    · exact mk1 B (by decide +kernel) h at1 i_NotAShape sc_NotAShape (.inl (by decide +kernel)) (.inl (by decide +kernel)) (by decide +kernel) (by decide +kernel) ⟨_, _, _, _, rfl⟩ (fun _ _ _ _ _ _ _ _ => rfl) (fun _ _ _ _ _ _ _ _ => rfl)
    · exact mk1 B (by decide +kernel) h at1 i_NotASchema sc_NotASchema (.inl (by decide +kernel)) (.inl (by decide +kernel)) (by decide +kernel) (by decide +kernel) ⟨_, _, _, _, rfl⟩ (fun _ _ _ _ _ _ _ _ => rfl) (fun _ _ _ _ _ _ _ _ => rfl)
    · exact mk1 B (by decide +kernel) h at1 i_NotACube sc_NotACube (.inl (by decide +kernel)) (.inl (by decide +kernel)) (by decide +kernel) (by decide +kernel) ⟨_, _, _, _, rfl⟩ (fun _ _ _ _ _ _ _ _ => rfl) (fun _ _ _ _ _ _ _ _ => rfl)
    · exact mk1 B (by decide +kernel) h at1 i_NotADataset sc_NotADataset (.inl (by decide +kernel)) (.inl (by decide +kernel)) (by decide +kernel) (by decide +kernel) ⟨_, _, _, _, rfl⟩ (fun _ _ _ _ _ _ _ _ => rfl) (fun _ _ _ _ _ _ _ _ => rfl)
    · exact mk1 B (by decide +kernel) h at1 i_NotAWarehouse sc_NotAWarehouse (.inl (by decide +kernel)) (.inl (by decide +kernel)) (by decide +kernel) (by decide +kernel) ⟨_, _, _, _, rfl⟩ (fun _ _ _ _ _ _ _ _ => rfl) (fun _ _ _ _ _ _ _ _ => rfl)
    · exact mk1 B (by decide +kernel) h at1 i_InvalidLinks sc_InvalidLinks (.inl (by decide +kernel)) (.inl (by decide +kernel)) (by decide +kernel) (by decide +kernel) ⟨_, _, _, _, rfl⟩ (fun _ _ _ _ _ _ _ _ => rfl) (fun _ _ _ _ _ _ _ _ => rfl)
    · exact mk1 B (by decide +kernel) h at1 i_InvalidMarks sc_InvalidMarks (.inl (by decide +kernel)) (.inl (by decide +kernel)) (by decide +kernel) (by decide +kernel) ⟨_, _, _, _, rfl⟩ (fun _ _ _ _ _ _ _ _ => rfl) (fun _ _ _ _ _ _ _ _ => rfl)
    · exact mk1 B (by decide +kernel) h at1 i_InvalidRules sc_InvalidRules (.inl (by decide +kernel)) (.inl (by decide +kernel)) (by decide +kernel) (by decide +kernel) ⟨_, _, _, _, rfl⟩ (fun _ _ _ _ _ _ _ _ => rfl) (fun _ _ _ _ _ _ _ _ => rfl)
    · exact mk1 B (by decide +kernel) h at1 i_InvalidMembers sc_InvalidMembers (.inl (by decide +kernel)) (.inl (by decide +kernel)) (by decide +kernel) (by decide +kernel) ⟨_, _, _, _, rfl⟩ (fun _ _ _ _ _ _ _ _ => rfl) (fun _ _ _ _ _ _ _ _ => rfl)
    · exact mk1 B (by decide +kernel) h at1 i_InvalidSchemas sc_InvalidSchemas (.inl (by decide +kernel)) (.inl (by decide +kernel)) (by decide +kernel) (by decide +kernel) ⟨_, _, _, _, rfl⟩ (fun _ _ _ _ _ _ _ _ => rfl) (fun _ _ _ _ _ _ _ _ => rfl)
    · exact mk1 B (by decide +kernel) h at1 i_InvalidHierarchies sc_InvalidHierarchies (.inl (by decide +kernel)) (.inl (by decide +kernel)) (by decide +kernel) (by decide +kernel) ⟨_, _, _, _, rfl⟩ (fun _ _ _ _ _ _ _ _ => rfl) (fun _ _ _ _ _ _ _ _ => rfl)
    · exact mk1 B (by decide +kernel) h at1 i_InvalidFacts sc_InvalidFacts (.inl (by decide +kernel)) (.inl (by decide +kernel)) (by decide +kernel) (by decide +kernel) ⟨_, _, _, _, rfl⟩ (fun _ _ _ _ _ _ _ _ => rfl) (fun _ _ _ _ _ _ _ _ => rfl)
    · exact mk1 B (by decide +kernel) h at1 i_InvalidStored sc_InvalidStored (.inl (by decide +kernel)) (.inl (by decide +kernel)) (by decide +kernel) (by decide +kernel) ⟨_, _, _, _, rfl⟩ (fun _ _ _ _ _ _ _ _ => rfl) (fun _ _ _ _ _ _ _ _ => rfl)
    · exact mk1 B (by decide +kernel) h at1 i_InvalidWanted sc_InvalidWanted (.inl (by decide +kernel)) (.inl (by decide +kernel)) (by decide +kernel) (by decide +kernel) ⟨_, _, _, _, rfl⟩ (fun _ _ _ _ _ _ _ _ => rfl) (fun _ _ _ _ _ _ _ _ => rfl)
    · exact mk1 B (by decide +kernel) h at1 i_InvalidPrices sc_InvalidPrices (.inl (by decide +kernel)) (.inl (by decide +kernel)) (by decide +kernel) (by decide +kernel) ⟨_, _, _, _, rfl⟩ (fun _ _ _ _ _ _ _ _ => rfl) (fun _ _ _ _ _ _ _ _ => rfl)
    · exact mk1 B (by decide +kernel) h at1 i_InvalidShapes sc_InvalidShapes (.inl (by decide +kernel)) (.inl (by decide +kernel)) (by decide +kernel) (by decide +kernel) ⟨_, _, _, _, rfl⟩ (fun _ _ _ _ _ _ _ _ => rfl) (fun _ _ _ _ _ _ _ _ => rfl)
    · exact mk1 B (by decide +kernel) h at1 i_InvalidRows sc_InvalidRows (.inl (by decide +kernel)) (.inl (by decide +kernel)) (by decide +kernel) (by decide +kernel) ⟨_, _, _, _, rfl⟩ (fun _ _ _ _ _ _ _ _ => rfl) (fun _ _ _ _ _ _ _ _ => rfl)
    · exact mk1 B (by decide +kernel) h at1 i_InvalidGoal sc_InvalidGoal (.inl (by decide +kernel)) (.inl (by decide +kernel)) (by decide +kernel) (by decide +kernel) ⟨_, _, _, _, rfl⟩ (fun _ _ _ _ _ _ _ _ => rfl) (fun _ _ _ _ _ _ _ _ => rfl)
    · exact mk1 B (by decide +kernel) h at1 i_InvalidDeed sc_InvalidDeed (.inl (by decide +kernel)) (.inl (by decide +kernel)) (by decide +kernel) (by decide +kernel) ⟨_, _, _, _, rfl⟩ (fun _ _ _ _ _ _ _ _ => rfl) (fun _ _ _ _ _ _ _ _ => rfl)
    · exact mk1 B (by decide +kernel) h at1 i_UnknownMember sc_UnknownMember (.inl (by decide +kernel)) (.inl (by decide +kernel)) (by decide +kernel) (by decide +kernel) ⟨_, _, _, _, rfl⟩ (fun _ _ _ _ _ _ _ _ => rfl) (fun _ _ _ _ _ _ _ _ => rfl)
    · exact mk1 B (by decide +kernel) h at1 i_MissingFact sc_MissingFact (.inl (by decide +kernel)) (.inl (by decide +kernel)) (by decide +kernel) (by decide +kernel) ⟨_, _, _, _, rfl⟩ (fun _ _ _ _ _ _ _ _ => rfl) (fun _ _ _ _ _ _ _ _ => rfl)
    · exact mk1 B (by decide +kernel) h at1 i_NotStored sc_NotStored (.inl (by decide +kernel)) (.inl (by decide +kernel)) (by decide +kernel) (by decide +kernel) ⟨_, _, _, _, rfl⟩ (fun _ _ _ _ _ _ _ _ => rfl) (fun _ _ _ _ _ _ _ _ => rfl)
    · exact mk1 B (by decide +kernel) h at1 i_HasChildren sc_HasChildren (.inl (by decide +kernel)) (.inl (by decide +kernel)) (by decide +kernel) (by decide +kernel) ⟨_, _, _, _, rfl⟩ (fun _ _ _ _ _ _ _ _ => rfl) (fun _ _ _ _ _ _ _ _ => rfl)
    · exact mk1 B (by decide +kernel) h at1 i_HasFacts sc_HasFacts (.inl (by decide +kernel)) (.inl (by decide +kernel)) (by decide +kernel) (by decide +kernel) ⟨_, _, _, _, rfl⟩ (fun _ _ _ _ _ _ _ _ => rfl) (fun _ _ _ _ _ _ _ _ => rfl)
    · exact mk1 B (by decide +kernel) h at1 i_InvalidParents sc_InvalidParents (.inl (by decide +kernel)) (.inl (by decide +kernel)) (by decide +kernel) (by decide +kernel) ⟨_, _, _, _, rfl⟩ (fun _ _ _ _ _ _ _ _ => rfl) (fun _ _ _ _ _ _ _ _ => rfl)
    · exact mk1 B (by decide +kernel) h at1 i_TwoAncestors sc_TwoAncestors (.inl (by decide +kernel)) (.inl (by decide +kernel)) (by decide +kernel) (by decide +kernel) ⟨_, _, _, _, rfl⟩ (fun _ _ _ _ _ _ _ _ => rfl) (fun _ _ _ _ _ _ _ _ => rfl)
    · exact mk1 B (by decide +kernel) h at1 i_NotAllowed sc_NotAllowed (.inl (by decide +kernel)) (.inl (by decide +kernel)) (by decide +kernel) (by decide +kernel) ⟨_, _, _, _, rfl⟩ (fun _ _ _ _ _ _ _ _ => rfl) (fun _ _ _ _ _ _ _ _ => rfl)
    · exact mk1 B (by decide +kernel) h at1 i_NotDetermined sc_NotDetermined (.inl (by decide +kernel)) (.inl (by decide +kernel)) (by decide +kernel) (by decide +kernel) ⟨_, _, _, _, rfl⟩ (fun _ _ _ _ _ _ _ _ => rfl) (fun _ _ _ _ _ _ _ _ => rfl)
    · exact mk1 B (by decide +kernel) h at1 i_TooMany sc_TooMany (.inl (by decide +kernel)) (.inl (by decide +kernel)) (by decide +kernel) (by decide +kernel) ⟨_, _, _, _, rfl⟩ (fun _ _ _ _ _ _ _ _ => rfl) (fun _ _ _ _ _ _ _ _ => rfl)
  · exact mk2 B at1 i_BrokenRule sc_BrokenRule (.inl (by decide +kernel)) (.inl (by decide +kernel)) (.inl (by decide +kernel)) ⟨_, _, _, _, _, _, _, _, rfl⟩ (fun _ _ _ _ _ _ _ _ _ => rfl) (fun _ _ _ _ _ _ _ _ _ => rfl)
  · have hall : x ∈ allN := by
      have e : bareN.all (fun x => decide (x ∈ allN)) = true := by decide +kernel
      exact of_decide_eq_true (List.all_eq_true.mp e x hx)
    exact ⟨at1 x hall, xc1 x hall, x0_of _ (List.all_eq_true.mp B.b7 x hx)⟩

end RT
set_option Elab.async false
set_option linter.all false
set_option maxRecDepth 100000
set_option maxHeartbeats 4000000
namespace RT
open PySem PySem.Spec PyProof.Rows L2
local macro_rules | `(tactic| walk_at "w0") => `(tactic| dsimp only [L2.start, cxOf, Cx.nox, Cx.wish, List.map, List.length_cons, List.length_nil, List.replicate_succ, List.replicate_zero, List.cons_append, List.nil_append, Nat.reduceAdd, Nat.reduceSub, List.set_cons_zero, List.set_cons_succ])
local macro_rules | `(tactic| walk_at "w1") => `(tactic| first
  | with_reducible refine w_seq ?_
  | with_reducible refine w_asg ?_
  | with_reducible refine w_var rfl ?_
  | with_reducible refine w_c ?_
  | with_reducible refine w_op ?_
  | with_reducible refine w_cons ?_
  | with_reducible refine w_nil ?_
  | with_reducible refine w_gname ?_
  | with_reducible refine w_cb ?_
  | with_reducible refine w_I0 ?_
  | with_reducible refine w_bl ?_
  | ((with_reducible refine' w_ixL ?s0 ?s1 ?q); (case s0 => assumption); (case s1 => rfl))
  | ((with_reducible refine' w_ixT ?s0 ?s1 ?q); (case s0 => assumption); (case s1 => rfl))
  | with_reducible refine w_gsub ?_
  | with_reducible refine w_ifS ?_
  | with_reducible refine w_test ?_
  | with_reducible refine w_call ?_
  | with_reducible refine w_ret ?_
  | with_reducible refine w_int1 ?_
  | with_reducible refine w_int ?_
  | with_reducible refine w_next ?_
  | with_reducible refine w_drop ?_
  | ((with_reducible refine' w_mod ?s0 ?q); (case s0 => omega))
  | ((with_reducible refine' w_div ?s0 ?q); (case s0 => omega))
  | ((with_reducible refine' w_mul ?s0 ?q); (case s0 => omega))
  | ((with_reducible refine' w_pow ?s0 ?q); (case s0 => decide))
  | with_reducible refine w_B ?_
  | with_reducible refine w_and ?_
  | with_reducible refine w_or ?_
  | with_reducible refine w_not ?_
  | with_reducible refine w_T ?_
  | with_reducible refine w_F ?_
  | with_reducible refine w_nT ?_
  | with_reducible refine w_nF ?_
  | with_reducible refine w_un ?_
  | with_reducible refine w_U ?_
  | with_reducible refine w_if ?_
  | with_reducible refine w_lst ?_
  | with_reducible refine w_tup ?_
  | with_reducible refine w_sl ?_
  | with_reducible refine w_part ?_
  | with_reducible refine w_nopart ?_
  | with_reducible refine w_eqI ?_
  | with_reducible refine w_neI ?_
  | with_reducible refine w_eqS ?_
  | with_reducible refine w_neS ?_
  | with_reducible refine w_abs ?_
  | with_reducible refine w_max2 ?_
  | with_reducible refine w_min2 ?_
  | ((with_reducible refine' w_lenL ?s0 ?q); (case s0 => assumption))
  | ((with_reducible refine' w_lenH ?s0 ?q); (case s0 => assumption))
  | ((with_reducible refine' w_lenT ?s0 ?q); (case s0 => assumption))
  | ((with_reducible refine' w_lenS ?s0 ?q); (case s0 => first | assumption | omega | decide +kernel))
  | with_reducible refine w_inC ?_
  | with_reducible refine w_ninC ?_
  | with_reducible refine w_m1 ?_
  | with_reducible refine w_m0 ?_
  | with_reducible refine w_isstr ?_
  | with_reducible refine w_andV ?_
  | with_reducible refine w_orV ?_
  | with_reducible refine w_notV ?_
  | with_reducible refine w_chain ?_
  | with_reducible refine w_retN ?_
  | with_reducible refine w_break ?_
  | with_reducible refine w_cont ?_
  | with_reducible refine w_yes ?_
  | with_reducible refine w_for ?_
  | with_reducible refine w_lc ?_
  | with_reducible refine w_iList ?_
  | with_reducible refine w_iTup ?_
  | with_reducible refine w_iStr ?_
  | with_reducible refine w_iR1 ?_
  | with_reducible refine w_iR2 ?_
  | ((with_reducible refine' w_onL ?s0 ?q); (case s0 => assumption))
  | ((with_reducible refine' w_onQ ?s0 ?q); (case s0 => assumption))
  | ((with_reducible refine' w_onT ?s0 ?q); (case s0 => assumption))
  | ((with_reducible refine' w_onU ?s0 ?q); (case s0 => assumption))
  | with_reducible refine w_onS ?_
  | ((with_reducible refine' w_onR1 ?s0 ?q); (case s0 => omega))
  | ((with_reducible refine' w_onR2 ?s0 ?q); (case s0 => omega))
  | with_reducible refine w_revL ?_
  | ((with_reducible refine' w_all ?s0 ?q); (case s0 => assumption))
  | ((with_reducible refine' w_any ?s0 ?q); (case s0 => assumption))
  | with_reducible refine w_bm ?_
  | with_reducible refine w_bm0 ?_
  | ((with_reducible refine' w_islst ?s0 ?q); (case s0 => assumption))
  | with_reducible refine w_kw ?_
  | ((with_reducible refine' w_isi ?s0 ?s1 ?q); (case s0 => assumption); (case s1 => assumption))
  | ((with_reducible refine' w_addS ?s0 ?q); (case s0 => first | omega | decide +kernel))
  | with_reducible refine w_dnew ?_
  | with_reducible refine w_pnil ?_
  | with_reducible refine w_pcons ?_
  | ((with_reducible refine' w_slS ?s0 ?q); (case s0 => first | assumption | omega))
  | ((with_reducible refine' w_inLS ?s0 ?q); (case s0 => assumption))
  | ((with_reducible refine' w_ninLS ?s0 ?q); (case s0 => assumption))
  | ((with_reducible refine' w_inTS ?s0 ?q); (case s0 => assumption))
  | with_reducible refine w_par ?_
  | with_reducible refine w_parEnd ?_
  | with_reducible refine w_fld ?_
  | with_reducible refine w_e1 ?_
  | with_reducible refine w_e2 ?_
  | with_reducible refine w_par3 ?_
  | with_reducible refine w_parEnd3 ?_
  | ((with_reducible refine' w_upper ?s0 ?q); (case s0 => first | assumption | omega | decide +kernel))
  | dsimp only [wipe, List.set_cons_zero, List.set_cons_succ])
local macro_rules | `(tactic| walk_at "w") => `(tactic| repeat walk_at "w1")
/-- the list of truth values at p -/
def Bits (H : Hp) (p : Addr) (bs : List Bool) : Prop := H p = some (.lst (bs.map V.bl))
def rowsOf (k : Nat) : List Bool := [decide (k = 0), decide (k = 1), decide (k = 2), decide (k = 3), decide (k = 0), decide (k = 1), decide (k = 2), decide (k = 3)]
/-- an error of the class x at v -/
def ErrV (K : PySem.W.Frag) (H : Hp) (v : V) (x : Str) (fs : List (Str × V)) : Prop := ∃ a, v = .ref a ∧ x ∈ allN ∧ ErrAt H a (mainAt K x) fs
theorem ErrV.same {K : PySem.W.Frag} {H J : Hp} {v : V} {x : Str} {fs : List (Str × V)} (h : ErrV K H v x fs) (s : Same H J) : ErrV K J v x fs := by
  obtain ⟨a, e, m, h⟩ := h
  exact ⟨a, e, m, h.same s⟩
def spRows (K : PySem.W.Frag) : Sp := fun vs H Q _ => ∃ v x fs, vs = [v] ∧ ErrV K H v x fs ∧ ∀ p J, H p = none → Same H J → Bits J p (rowsOf (kindOf x)) → Q (.ref p) J
def spKinds (K : PySem.W.Frag) : Sp := fun vs H Q _ => ∃ v x fs, vs = [v] ∧ ErrV K H v x fs ∧ ∀ p J, H p = none → Same H J → Bits J p (allN.map fun y => decide (x = y)) → Q (.ref p) J
def spOf : Sp := fun vs H Q _ => ∃ k : Nat, vs = [.int (k : Int)] ∧ k < 4 ∧ ∀ p J, H p = none → Same H J → Bits J p (rowsOf k) → Q (.ref p) J
abbrev s__law_rows : Stmt := topS 63
theorem sc__law_rows : FnScope ["e", "own", "under"] ["e"] (defScope s__law_rows) := ⟨rfl, rfl, rfl, by decide +kernel, rfl, by decide +kernel, by decide +kernel⟩
abbrev s__law_of : Stmt := topS 64
theorem sc__law_of : FnScope ["place", "at"] ["place"] (defScope s__law_of) := ⟨rfl, rfl, rfl, by decide +kernel, rfl, by decide +kernel, by decide +kernel⟩
abbrev s__law_same : Stmt := topS 65
theorem sc__law_same : FnScope ["left", "right"] ["left", "right"] (defScope s__law_same) := ⟨rfl, rfl, rfl, by decide +kernel, rfl, by decide +kernel, by decide +kernel⟩
section
variable {P : Program} {w : World} {K : PySem.W.Frag} {mg : Str → Option Value} {base : Heap}
theorem ok__law_rows {f : Addr} {fd : FuncData} (F : Fun K "_law_rows" "_law_rows" s__law_rows f fd) (T : Txt K mg) (EE : Errs P w K mg base) : FnOk P w K mg base CX0 1 f fd ["e"] (spRows K) := by
  refine F.ok sc__law_rows (fun vs H Q E h => ?_) (fun cdv A outer s H vs Q E hr h => ?_)
  · obtain ⟨v, x, fs, rfl, _⟩ := h
    rfl
  · obtain ⟨v, x, fs, rfl, ⟨a, rfl, hx, he⟩, q⟩ := h
    have XX := EE.xc x hx
    refine ⟨_, (pss_cons (ps_set (i := 1) sc__law_rows.nd rfl (by first | exact Or.inl rfl | exact Or.inr rfl) (pe_lst (pa_cons (pe_callB call_isx (by rfl) T.z_isinstance (by decide +kernel) (pa_cons (pv 0) (pa_cons (pe_cls (EE.bas (("RaggedError" : Str), 0) (by decide +kernel)) (by rfl)) pa_nil))) (pa_cons (pe_callB call_isx (by rfl) T.z_isinstance (by decide +kernel) (pa_cons (pv 0) (pa_cons (pe_cls (EE.bas (("StateError" : Str), 1) (by decide +kernel)) (by rfl)) pa_nil))) (pa_cons (pe_callB call_isx (by rfl) T.z_isinstance (by decide +kernel) (pa_cons (pv 0) (pa_cons (pe_cls (EE.bas (("RuleError" : Str), 2) (by decide +kernel)) (by rfl)) pa_nil))) (pa_cons (pe_callB call_isx (by rfl) T.z_isinstance (by decide +kernel) (pa_cons (pv 0) (pa_cons (pe_cls (EE.bas (("LimitError" : Str), 3) (by decide +kernel)) (by rfl)) pa_nil))) pa_nil))))))
  (pss_cons (ps_set (i := 2) sc__law_rows.nd rfl (by first | exact Or.inl rfl | exact Or.inr rfl) (pe_lst (pa_cons (pe_callB call_isx (by rfl) T.z_isinstance (by decide +kernel) (pa_cons (pv 0) (pa_cons (pe_bltn (v := .ty "ValueError") (u := .type "ValueError") (by rfl) T.z_ValueError (by decide +kernel) rfl) pa_nil))) (pa_cons (pe_callB call_isx (by rfl) T.z_isinstance (by decide +kernel) (pa_cons (pv 0) (pa_cons (pe_bltn (v := .ty "LookupError") (u := .type "LookupError") (by rfl) T.z_LookupError (by decide +kernel) rfl) pa_nil))) (pa_cons (pe_callB call_isx (by rfl) T.z_isinstance (by decide +kernel) (pa_cons (pv 0) (pa_cons (pe_bltn (v := .ty "RuntimeError") (u := .type "RuntimeError") (by rfl) T.z_RuntimeError (by decide +kernel) rfl) pa_nil))) pa_nil)))))
  (pss_one (ps_ret (pe_op op_cat (pe_op op_cat (pv 1) (pv 2)) (pe_lst (pa_cons (pe_callB call_isx (by rfl) T.z_isinstance (by decide +kernel) (pa_cons (pv 0) (pa_cons (pe_bltn (v := .ty "ArithmeticError") (u := .type "ArithmeticError") (by rfl) T.z_ArithmeticError (by decide +kernel) rfl) pa_nil))) pa_nil))))))), ?_⟩
    walk_at "w0"
    walk_at "w"
    refine w_isx XX he (.own _) (EE.up x hx (("RaggedError" : Str), 0) (by decide +kernel)) ?_
    walk_at "w"
    refine w_isx XX he (.own _) (EE.up x hx (("StateError" : Str), 1) (by decide +kernel)) ?_
    walk_at "w"
    refine w_isx XX he (.own _) (EE.up x hx (("RuleError" : Str), 2) (by decide +kernel)) ?_
    walk_at "w"
    refine w_isx XX he (.own _) (EE.up x hx (("LimitError" : Str), 3) (by decide +kernel)) ?_
    walk_at "w"
    refine w_newL rfl fun p1 L1 n1 s1 h1 => ?_
    walk_at "w"
    refine w_isx XX (he.same s1) (.ty "ValueError") (EE.py x hx ("ValueError", 0) (by decide +kernel)) ?_
    walk_at "w"
    refine w_isx XX (he.same s1) (.ty "LookupError") (EE.py x hx ("LookupError", 1) (by decide +kernel)) ?_
    walk_at "w"
    refine w_isx XX (he.same s1) (.ty "RuntimeError") (EE.py x hx ("RuntimeError", 2) (by decide +kernel)) ?_
    walk_at "w"
    refine w_newL rfl fun p2 L2 n2 s2 h2 => ?_
    walk_at "w"
    refine w_cat (s2 _ _ h1) h2 (Nat.le_of_ble_eq_true rfl) fun p3 L3 n3 s3 h3 => ?_
    walk_at "w"
    refine w_isx XX (((he.same s1).same s2).same s3) (.ty "ArithmeticError") (EE.py x hx ("ArithmeticError", 3) (by decide +kernel)) ?_
    walk_at "w"
    refine w_newL rfl fun p4 L4 n4 s4 h4 => ?_
    walk_at "w"
    refine w_cat (s4 _ _ h3) h4 (Nat.le_of_ble_eq_true rfl) fun p5 L5 n5 s5 h5 => ?_
    walk_at "w"
    have s15 : Same H L5 := (((s1.trans s2).trans s3).trans s4).trans s5
    exact q p5 L5 (Same.free (((s1.trans s2).trans s3).trans s4) n5) s15 h5
theorem ok__law_of {f : Addr} {fd : FuncData} (F : Fun K "_law_of" "_law_of" s__law_of f fd) (T : Txt K mg) : FnOk P w K mg base CX0 1 f fd ["place"] spOf := by
  refine F.ok sc__law_of (fun vs H Q E h => ?_) (fun cdv A outer s H vs Q E hr h => ?_)
  · obtain ⟨k, rfl, _⟩ := h
    rfl
  · obtain ⟨k, rfl, hk, q⟩ := h
    refine ⟨_, (pss_one (ps_ret (pe_op op_cat (pe_lc (own := [("at", 1)]) (g := (gName 1)) (tt := tYes) rfl sc__law_of.nd (pi_range1 rfl T.z_range (pa_cons pe_int pa_nil)) (blkOk_by (own := [("at", 1)]) (N := ["place", "at"]) (sc := defScope s__law_of) (by decide +kernel)) (fun _ _ _ _ _ => (pg_name (i := 1) sc__law_of.nd rfl (Or.inl rfl))) (fun _ _ _ _ _ => pts_nil) (fun _ _ _ _ _ => (pe_cmpR op_eq (pv 0) (pv 1) (nomark _)))) (pe_lc (own := [("at", 1)]) (g := (gName 1)) (tt := tYes) rfl sc__law_of.nd (pi_range1 rfl T.z_range (pa_cons pe_int pa_nil)) (blkOk_by (own := [("at", 1)]) (N := ["place", "at"]) (sc := defScope s__law_of) (by decide +kernel)) (fun _ _ _ _ _ => (pg_name (i := 1) sc__law_of.nd rfl (Or.inl rfl))) (fun _ _ _ _ _ => pts_nil) (fun _ _ _ _ _ => (pe_cmpR op_eq (pv 0) (pv 1) (nomark _))))))), ?_⟩
    walk_at "w0"
    walk_at "w"
    intro D nD
    have bit : ∀ i : Nat, decide ((k : Int) = 0 + (i : Int)) = decide (k = i) := fun i => by
      by_cases z : k = i
      · rw [decide_eq_true z, decide_eq_true (by omega)]
      · rw [decide_eq_false z, decide_eq_false (by omega)]
    refine w_comp walk_range (fun i acc L => acc = (List.range i).map (fun j => V.bl (decide (k = j))) ∧ Same H L) nD (fun L s1 _ => ⟨rfl, s1⟩) (fun _ _ _ _ => trivial) ?_ ?_
    · rintro i acc x L M hi hl ⟨rfl, s1⟩ hD ⟨rfl, rfl⟩
      walk_at "w"
      refine ⟨rfl, ?_⟩
      walk_at "w"
      refine w_put hD hl (by omega) fun Z e4 hZ => ⟨by rw [bit, List.range_succ, List.map_append]; rfl, Same.ofExt s1 nD e4⟩
    · rintro acc L hl hD ⟨rfl, s1⟩
      walk_at "w"
      intro D2 nD2
      refine w_comp walk_range (fun i acc M => acc = (List.range i).map (fun j => V.bl (decide (k = j))) ∧ Same L M) nD2 (fun M s2 _ => ⟨rfl, s2⟩) (fun _ _ _ _ => trivial) ?_ ?_
      · rintro i acc x L2 M hi hl2 ⟨rfl, s2⟩ hD2 ⟨rfl, rfl⟩
        walk_at "w"
        refine ⟨rfl, ?_⟩
        walk_at "w"
        refine w_put hD2 hl2 (by omega) fun Z e4 hZ => ⟨by rw [bit, List.range_succ, List.map_append]; rfl, Same.ofExt s2 nD2 e4⟩
      · rintro acc M hl2 hD2 ⟨rfl, s2⟩
        walk_at "w"
        refine w_cat (s2 _ _ hD) hD2 (Nat.le_of_ble_eq_true rfl) fun p J n3 s3 h3 => ?_
        exact q p J (Same.free (s1.trans s2) n3) ((s1.trans s2).trans s3) h3
/-- a thing that is equal to itself -/
def Self (K : PySem.W.Frag) (H : Hp) (v : V) : Prop := (∃ d, Dp K H v d ∧ SeqAt.shaped d = true ∧ PyData.eqv d d = true) ∨ ∃ a, v = .ref a ∧ H a = some (.dK [])
/-- its type, as far as isinstance(.., bool) asks -/
def Kinded (K : PySem.W.Frag) (H : Hp) (v : V) : Prop := ∃ t b, TyX K H v t ∧ PySem.W.kitOne K t (.type "bool") = some b
def spSame (K : PySem.W.Frag) : Sp := fun vs H Q _ => ∃ v, vs = [v, v] ∧ Self K H v ∧ Kinded K H v ∧ Q (.bl true) H
theorem ok__law_same {f : Addr} {fd : FuncData} (F : Fun K "_law_same" "_law_same" s__law_same f fd) (T : Txt K mg) : FnOk P w K mg base CX0 1 f fd ["left", "right"] (spSame K) := by
  refine F.ok sc__law_same (fun vs H Q E h => ?_) (fun cdv A outer s H vs Q E hr h => ?_)
  · obtain ⟨v, rfl, _⟩ := h
    rfl
  · obtain ⟨v, rfl, hs, ⟨t, b, ty, kt⟩, q⟩ := h
    refine ⟨_, (pss_one (ps_ret (pe_and (pe_cmpR op_eq (pe_callB (k_isi (K := K)) (by rfl) T.z_isinstance (by decide +kernel) (pa_cons (pv 0) (pa_cons (pe_bltn (v := .ty "bool") (u := .type "bool") (by rfl) T.z_bool (by decide +kernel) rfl) pa_nil))) (pe_callB (k_isi (K := K)) (by rfl) T.z_isinstance (by decide +kernel) (pa_cons (pv 1) (pa_cons (pe_bltn (v := .ty "bool") (u := .type "bool") (by rfl) T.z_bool (by decide +kernel) rfl) pa_nil))) (nomark _)) (pe_one (pe_cmpR (k_eqX (K := K) hr.units) (pv 0) (pv 1) (nomark _)))))), ?_⟩
    walk_at "w0"
    walk_at "w"
    refine ⟨rfl, ?_⟩
    rw [decide_eq_true rfl]
    refine ⟨true, rfl, iteT ?_⟩
    walk_at "w"
    rcases hs with ⟨d, h, sh, e⟩ | ⟨a, rfl, h⟩
    · refine .inl ⟨d, d, h, h, sh, sh, ?_⟩
      rw [e]
      exact q
    · exact .inr ⟨a, a, [], [], rfl, rfl, h, h, rfl, fun p hp => (by cases hp), q⟩
end
/-- a statement, what stands behind it, the rest -/
theorem seq_cut {t u : TS} {D : Ends} {σ : L2.St} {H : Hp} (Mid : L2.St → Hp → Prop) (h : ∀ N : L2.St → Hp → Prop, (∀ σ' J, Mid σ' J → N σ' J) → t { D with nx := N } σ H) (q : ∀ σ' J, Mid σ' J → u D σ' J) : tSeq t u D σ H := h _ q
/-- errors in a row -/
def AllE (K : PySem.W.Frag) (H : Hp) (vs : List V) (es : List (Str × List (Str × V))) : Prop := Paired (fun v e => ErrV K H v e.1 e.2) vs es
theorem paired_app {α β : Type} {R : α → β → Prop} : ∀ {xs : List α} {ys : List β} {zs : List α} {ws : List β}, Paired R xs ys → Paired R zs ws → Paired R (xs ++ zs) (ys ++ ws)
  | _, _, _, _, .nil, h => h
  | _, _, _, _, .cons a b, h => .cons a (paired_app b h)
theorem AllE.same {K : PySem.W.Frag} {H J : Hp} (s : Same H J) : ∀ {vs : List V} {es : List (Str × List (Str × V))}, AllE K H vs es → AllE K J vs es
  | _, _, .nil => .nil
  | _, _, .cons a b => .cons (a.same s) (AllE.same s b)
theorem AllE.snoc {K : PySem.W.Frag} {H L : Hp} {a : Addr} {x : Str} {fs : List (Str × V)} {vs : List V} {es : List (Str × List (Str × V))} (g : AllE K H vs es) (s : Same H L) (hx : x ∈ allN) (e : ErrAt L a (mainAt K x) fs) : AllE K L (vs ++ [.ref a]) (es ++ [(x, fs)]) :=
  paired_app (g.same s) (.cons ⟨a, rfl, hx, e⟩ .nil)

end RT
set_option Elab.async false
set_option linter.all false
set_option maxRecDepth 100000
set_option maxHeartbeats 4000000
namespace RT
open PySem PySem.Spec PyProof.Rows L2
local macro_rules | `(tactic| walk_at "w0") => `(tactic| dsimp only [L2.start, cxOf, Cx.nox, Cx.wish, List.map, List.length_cons, List.length_nil, List.replicate_succ, List.replicate_zero, List.cons_append, List.nil_append, Nat.reduceAdd, Nat.reduceSub, List.set_cons_zero, List.set_cons_succ])
local macro_rules | `(tactic| walk_at "w1") => `(tactic| first
  | with_reducible refine w_seq ?_
  | with_reducible refine w_asg ?_
  | with_reducible refine w_var rfl ?_
  | with_reducible refine w_c ?_
  | with_reducible refine w_op ?_
  | with_reducible refine w_cons ?_
  | with_reducible refine w_nil ?_
  | with_reducible refine w_gname ?_
  | with_reducible refine w_cb ?_
  | with_reducible refine w_I0 ?_
  | with_reducible refine w_bl ?_
  | ((with_reducible refine' w_ixL ?s0 ?s1 ?q); (case s0 => assumption); (case s1 => rfl))
  | ((with_reducible refine' w_ixT ?s0 ?s1 ?q); (case s0 => assumption); (case s1 => rfl))
  | with_reducible refine w_gsub ?_
  | with_reducible refine w_ifS ?_
  | with_reducible refine w_test ?_
  | with_reducible refine w_call ?_
  | with_reducible refine w_ret ?_
  | with_reducible refine w_int1 ?_
  | with_reducible refine w_int ?_
  | with_reducible refine w_next ?_
  | with_reducible refine w_drop ?_
  | ((with_reducible refine' w_mod ?s0 ?q); (case s0 => omega))
  | ((with_reducible refine' w_div ?s0 ?q); (case s0 => omega))
  | ((with_reducible refine' w_mul ?s0 ?q); (case s0 => omega))
  | ((with_reducible refine' w_pow ?s0 ?q); (case s0 => decide))
  | with_reducible refine w_B ?_
  | with_reducible refine w_and ?_
  | with_reducible refine w_or ?_
  | with_reducible refine w_not ?_
  | with_reducible refine w_T ?_
  | with_reducible refine w_F ?_
  | with_reducible refine w_nT ?_
  | with_reducible refine w_nF ?_
  | with_reducible refine w_un ?_
  | with_reducible refine w_U ?_
  | with_reducible refine w_if ?_
  | with_reducible refine w_lst ?_
  | with_reducible refine w_tup ?_
  | with_reducible refine w_sl ?_
  | with_reducible refine w_part ?_
  | with_reducible refine w_nopart ?_
  | with_reducible refine w_eqI ?_
  | with_reducible refine w_neI ?_
  | with_reducible refine w_eqS ?_
  | with_reducible refine w_neS ?_
  | with_reducible refine w_abs ?_
  | with_reducible refine w_max2 ?_
  | with_reducible refine w_min2 ?_
  | ((with_reducible refine' w_lenL ?s0 ?q); (case s0 => assumption))
  | ((with_reducible refine' w_lenH ?s0 ?q); (case s0 => assumption))
  | ((with_reducible refine' w_lenT ?s0 ?q); (case s0 => assumption))
  | ((with_reducible refine' w_lenS ?s0 ?q); (case s0 => first | assumption | omega | decide +kernel))
  | with_reducible refine w_inC ?_
  | with_reducible refine w_ninC ?_
  | with_reducible refine w_m1 ?_
  | with_reducible refine w_m0 ?_
  | with_reducible refine w_isstr ?_
  | with_reducible refine w_andV ?_
  | with_reducible refine w_orV ?_
  | with_reducible refine w_notV ?_
  | with_reducible refine w_chain ?_
  | with_reducible refine w_retN ?_
  | with_reducible refine w_break ?_
  | with_reducible refine w_cont ?_
  | with_reducible refine w_yes ?_
  | with_reducible refine w_for ?_
  | with_reducible refine w_lc ?_
  | with_reducible refine w_iList ?_
  | with_reducible refine w_iTup ?_
  | with_reducible refine w_iStr ?_
  | with_reducible refine w_iR1 ?_
  | with_reducible refine w_iR2 ?_
  | ((with_reducible refine' w_onL ?s0 ?q); (case s0 => assumption))
  | ((with_reducible refine' w_onQ ?s0 ?q); (case s0 => assumption))
  | ((with_reducible refine' w_onT ?s0 ?q); (case s0 => assumption))
  | ((with_reducible refine' w_onU ?s0 ?q); (case s0 => assumption))
  | with_reducible refine w_onS ?_
  | ((with_reducible refine' w_onR1 ?s0 ?q); (case s0 => omega))
  | ((with_reducible refine' w_onR2 ?s0 ?q); (case s0 => omega))
  | with_reducible refine w_revL ?_
  | ((with_reducible refine' w_all ?s0 ?q); (case s0 => assumption))
  | ((with_reducible refine' w_any ?s0 ?q); (case s0 => assumption))
  | with_reducible refine w_bm ?_
  | with_reducible refine w_bm0 ?_
  | ((with_reducible refine' w_islst ?s0 ?q); (case s0 => assumption))
  | with_reducible refine w_kw ?_
  | ((with_reducible refine' w_isi ?s0 ?s1 ?q); (case s0 => assumption); (case s1 => assumption))
  | ((with_reducible refine' w_addS ?s0 ?q); (case s0 => first | omega | decide +kernel))
  | with_reducible refine w_dnew ?_
  | with_reducible refine w_pnil ?_
  | with_reducible refine w_pcons ?_
  | ((with_reducible refine' w_slS ?s0 ?q); (case s0 => first | assumption | omega))
  | ((with_reducible refine' w_inLS ?s0 ?q); (case s0 => assumption))
  | ((with_reducible refine' w_ninLS ?s0 ?q); (case s0 => assumption))
  | ((with_reducible refine' w_inTS ?s0 ?q); (case s0 => assumption))
  | with_reducible refine w_par ?_
  | with_reducible refine w_parEnd ?_
  | with_reducible refine w_fld ?_
  | with_reducible refine w_e1 ?_
  | with_reducible refine w_e2 ?_
  | with_reducible refine w_par3 ?_
  | with_reducible refine w_parEnd3 ?_
  | ((with_reducible refine' w_upper ?s0 ?q); (case s0 => first | assumption | omega | decide +kernel))
  | dsimp only [wipe, List.set_cons_zero, List.set_cons_succ])
local macro_rules | `(tactic| walk_at "w") => `(tactic| repeat walk_at "w1")
abbrev s__law_kinds : Stmt := topS 67
theorem sc__law_kinds : FnScope ["e", "found"] ["e"] (defScope s__law_kinds) := ⟨rfl, rfl, rfl, by decide +kernel, rfl, by decide +kernel, by decide +kernel⟩
section
variable {P : Program} {w : World} {K : PySem.W.Frag} {mg : Str → Option Value} {base : Heap}
theorem ok__law_kinds {f : Addr} {fd : FuncData} (F : Fun K "_law_kinds" "_law_kinds" s__law_kinds f fd) (T : Txt K mg) (EE : Errs P w K mg base) : FnOk P w K mg base CX0 1 f fd ["e"] (spKinds K) := by
  refine F.ok sc__law_kinds (fun vs H Q E h => ?_) (fun cdv A outer s H vs Q E hr h => ?_)
  · obtain ⟨v, x, fs, rfl, _⟩ := h
    rfl
  · obtain ⟨v, x, fs, rfl, ⟨a, rfl, hx, he⟩, q⟩ := h
    have XX := EE.xc x hx
    refine ⟨_, (pss_cons (ps_set (i := 1) sc__law_kinds.nd rfl (by first | exact Or.inl rfl | exact Or.inr rfl) (pe_lst pa_nil))
  (pss_cons (ps_set (i := 1) sc__law_kinds.nd rfl (by first | exact Or.inl rfl | exact Or.inr rfl) (pe_op op_cat (pv 1) (pe_lst (pa_cons (pe_callB call_isx (by rfl) T.z_isinstance (by decide +kernel) (pa_cons (pv 0) (pa_cons (pe_cls (EE.at_ "InvalidName" (by decide +kernel)) (by rfl)) pa_nil))) (pa_cons (pe_callB call_isx (by rfl) T.z_isinstance (by decide +kernel) (pa_cons (pv 0) (pa_cons (pe_cls (EE.at_ "InvalidText" (by decide +kernel)) (by rfl)) pa_nil))) (pa_cons (pe_callB call_isx (by rfl) T.z_isinstance (by decide +kernel) (pa_cons (pv 0) (pa_cons (pe_cls (EE.at_ "InvalidLevel" (by decide +kernel)) (by rfl)) pa_nil))) pa_nil))))))
  (pss_cons (ps_set (i := 1) sc__law_kinds.nd rfl (by first | exact Or.inl rfl | exact Or.inr rfl) (pe_op op_cat (pv 1) (pe_lst (pa_cons (pe_callB call_isx (by rfl) T.z_isinstance (by decide +kernel) (pa_cons (pv 0) (pa_cons (pe_cls (EE.at_ "InvalidView" (by decide +kernel)) (by rfl)) pa_nil))) (pa_cons (pe_callB call_isx (by rfl) T.z_isinstance (by decide +kernel) (pa_cons (pv 0) (pa_cons (pe_cls (EE.at_ "InvalidCell" (by decide +kernel)) (by rfl)) pa_nil))) pa_nil)))))
  (pss_cons (ps_set (i := 1) sc__law_kinds.nd rfl (by first | exact Or.inl rfl | exact Or.inr rfl) (pe_op op_cat (pv 1) (pe_lst (pa_cons (pe_callB call_isx (by rfl) T.z_isinstance (by decide +kernel) (pa_cons (pv 0) (pa_cons (pe_cls (EE.at_ "InvalidAmount" (by decide +kernel)) (by rfl)) pa_nil))) (pa_cons (pe_callB call_isx (by rfl) T.z_isinstance (by decide +kernel) (pa_cons (pv 0) (pa_cons (pe_cls (EE.at_ "InvalidTimes" (by decide +kernel)) (by rfl)) pa_nil))) pa_nil)))))
  (pss_cons (ps_set (i := 1) sc__law_kinds.nd rfl (by first | exact Or.inl rfl | exact Or.inr rfl) (pe_op op_cat (pv 1) (pe_lst (pa_cons (pe_callB call_isx (by rfl) T.z_isinstance (by decide +kernel) (pa_cons (pv 0) (pa_cons (pe_cls (EE.at_ "InvalidMeasure" (by decide +kernel)) (by rfl)) pa_nil))) (pa_cons (pe_callB call_isx (by rfl) T.z_isinstance (by decide +kernel) (pa_cons (pv 0) (pa_cons (pe_cls (EE.at_ "NotACondition" (by decide +kernel)) (by rfl)) pa_nil))) pa_nil)))))
  (pss_cons (ps_set (i := 1) sc__law_kinds.nd rfl (by first | exact Or.inl rfl | exact Or.inr rfl) (pe_op op_cat (pv 1) (pe_lst (pa_cons (pe_callB call_isx (by rfl) T.z_isinstance (by decide +kernel) (pa_cons (pv 0) (pa_cons (pe_cls (EE.at_ "NotAShape" (by decide +kernel)) (by rfl)) pa_nil))) (pa_cons (pe_callB call_isx (by rfl) T.z_isinstance (by decide +kernel) (pa_cons (pv 0) (pa_cons (pe_cls (EE.at_ "NotASchema" (by decide +kernel)) (by rfl)) pa_nil))) (pa_cons (pe_callB call_isx (by rfl) T.z_isinstance (by decide +kernel) (pa_cons (pv 0) (pa_cons (pe_cls (EE.at_ "NotACube" (by decide +kernel)) (by rfl)) pa_nil))) pa_nil))))))
  (pss_cons (ps_set (i := 1) sc__law_kinds.nd rfl (by first | exact Or.inl rfl | exact Or.inr rfl) (pe_op op_cat (pv 1) (pe_lst (pa_cons (pe_callB call_isx (by rfl) T.z_isinstance (by decide +kernel) (pa_cons (pv 0) (pa_cons (pe_cls (EE.at_ "NotADataset" (by decide +kernel)) (by rfl)) pa_nil))) (pa_cons (pe_callB call_isx (by rfl) T.z_isinstance (by decide +kernel) (pa_cons (pv 0) (pa_cons (pe_cls (EE.at_ "NotAWarehouse" (by decide +kernel)) (by rfl)) pa_nil))) pa_nil)))))
  (pss_cons (ps_set (i := 1) sc__law_kinds.nd rfl (by first | exact Or.inl rfl | exact Or.inr rfl) (pe_op op_cat (pv 1) (pe_lst (pa_cons (pe_callB call_isx (by rfl) T.z_isinstance (by decide +kernel) (pa_cons (pv 0) (pa_cons (pe_cls (EE.at_ "InvalidLinks" (by decide +kernel)) (by rfl)) pa_nil))) (pa_cons (pe_callB call_isx (by rfl) T.z_isinstance (by decide +kernel) (pa_cons (pv 0) (pa_cons (pe_cls (EE.at_ "InvalidMarks" (by decide +kernel)) (by rfl)) pa_nil))) pa_nil)))))
  (pss_cons (ps_set (i := 1) sc__law_kinds.nd rfl (by first | exact Or.inl rfl | exact Or.inr rfl) (pe_op op_cat (pv 1) (pe_lst (pa_cons (pe_callB call_isx (by rfl) T.z_isinstance (by decide +kernel) (pa_cons (pv 0) (pa_cons (pe_cls (EE.at_ "InvalidRules" (by decide +kernel)) (by rfl)) pa_nil))) (pa_cons (pe_callB call_isx (by rfl) T.z_isinstance (by decide +kernel) (pa_cons (pv 0) (pa_cons (pe_cls (EE.at_ "InvalidMembers" (by decide +kernel)) (by rfl)) pa_nil))) pa_nil)))))
  (pss_cons (ps_set (i := 1) sc__law_kinds.nd rfl (by first | exact Or.inl rfl | exact Or.inr rfl) (pe_op op_cat (pv 1) (pe_lst (pa_cons (pe_callB call_isx (by rfl) T.z_isinstance (by decide +kernel) (pa_cons (pv 0) (pa_cons (pe_cls (EE.at_ "InvalidSchemas" (by decide +kernel)) (by rfl)) pa_nil))) (pa_cons (pe_callB call_isx (by rfl) T.z_isinstance (by decide +kernel) (pa_cons (pv 0) (pa_cons (pe_cls (EE.at_ "InvalidHierarchies" (by decide +kernel)) (by rfl)) pa_nil))) pa_nil)))))
  (pss_cons (ps_set (i := 1) sc__law_kinds.nd rfl (by first | exact Or.inl rfl | exact Or.inr rfl) (pe_op op_cat (pv 1) (pe_lst (pa_cons (pe_callB call_isx (by rfl) T.z_isinstance (by decide +kernel) (pa_cons (pv 0) (pa_cons (pe_cls (EE.at_ "InvalidFacts" (by decide +kernel)) (by rfl)) pa_nil))) (pa_cons (pe_callB call_isx (by rfl) T.z_isinstance (by decide +kernel) (pa_cons (pv 0) (pa_cons (pe_cls (EE.at_ "InvalidStored" (by decide +kernel)) (by rfl)) pa_nil))) pa_nil)))))
  (pss_cons (ps_set (i := 1) sc__law_kinds.nd rfl (by first | exact Or.inl rfl | exact Or.inr rfl) (pe_op op_cat (pv 1) (pe_lst (pa_cons (pe_callB call_isx (by rfl) T.z_isinstance (by decide +kernel) (pa_cons (pv 0) (pa_cons (pe_cls (EE.at_ "InvalidWanted" (by decide +kernel)) (by rfl)) pa_nil))) (pa_cons (pe_callB call_isx (by rfl) T.z_isinstance (by decide +kernel) (pa_cons (pv 0) (pa_cons (pe_cls (EE.at_ "InvalidPrices" (by decide +kernel)) (by rfl)) pa_nil))) pa_nil)))))
  (pss_cons (ps_set (i := 1) sc__law_kinds.nd rfl (by first | exact Or.inl rfl | exact Or.inr rfl) (pe_op op_cat (pv 1) (pe_lst (pa_cons (pe_callB call_isx (by rfl) T.z_isinstance (by decide +kernel) (pa_cons (pv 0) (pa_cons (pe_cls (EE.at_ "InvalidShapes" (by decide +kernel)) (by rfl)) pa_nil))) (pa_cons (pe_callB call_isx (by rfl) T.z_isinstance (by decide +kernel) (pa_cons (pv 0) (pa_cons (pe_cls (EE.at_ "InvalidRows" (by decide +kernel)) (by rfl)) pa_nil))) pa_nil)))))
  (pss_cons (ps_set (i := 1) sc__law_kinds.nd rfl (by first | exact Or.inl rfl | exact Or.inr rfl) (pe_op op_cat (pv 1) (pe_lst (pa_cons (pe_callB call_isx (by rfl) T.z_isinstance (by decide +kernel) (pa_cons (pv 0) (pa_cons (pe_cls (EE.at_ "InvalidGoal" (by decide +kernel)) (by rfl)) pa_nil))) (pa_cons (pe_callB call_isx (by rfl) T.z_isinstance (by decide +kernel) (pa_cons (pv 0) (pa_cons (pe_cls (EE.at_ "InvalidDeed" (by decide +kernel)) (by rfl)) pa_nil))) pa_nil)))))
  (pss_cons (ps_set (i := 1) sc__law_kinds.nd rfl (by first | exact Or.inl rfl | exact Or.inr rfl) (pe_op op_cat (pv 1) (pe_lst (pa_cons (pe_callB call_isx (by rfl) T.z_isinstance (by decide +kernel) (pa_cons (pv 0) (pa_cons (pe_cls (EE.at_ "UnknownMember" (by decide +kernel)) (by rfl)) pa_nil))) (pa_cons (pe_callB call_isx (by rfl) T.z_isinstance (by decide +kernel) (pa_cons (pv 0) (pa_cons (pe_cls (EE.at_ "MissingFact" (by decide +kernel)) (by rfl)) pa_nil))) (pa_cons (pe_callB call_isx (by rfl) T.z_isinstance (by decide +kernel) (pa_cons (pv 0) (pa_cons (pe_cls (EE.at_ "NotStored" (by decide +kernel)) (by rfl)) pa_nil))) pa_nil))))))
  (pss_cons (ps_set (i := 1) sc__law_kinds.nd rfl (by first | exact Or.inl rfl | exact Or.inr rfl) (pe_op op_cat (pv 1) (pe_lst (pa_cons (pe_callB call_isx (by rfl) T.z_isinstance (by decide +kernel) (pa_cons (pv 0) (pa_cons (pe_cls (EE.at_ "HasChildren" (by decide +kernel)) (by rfl)) pa_nil))) (pa_cons (pe_callB call_isx (by rfl) T.z_isinstance (by decide +kernel) (pa_cons (pv 0) (pa_cons (pe_cls (EE.at_ "HasFacts" (by decide +kernel)) (by rfl)) pa_nil))) (pa_cons (pe_callB call_isx (by rfl) T.z_isinstance (by decide +kernel) (pa_cons (pv 0) (pa_cons (pe_cls (EE.at_ "NothingToUndo" (by decide +kernel)) (by rfl)) pa_nil))) pa_nil))))))
  (pss_cons (ps_set (i := 1) sc__law_kinds.nd rfl (by first | exact Or.inl rfl | exact Or.inr rfl) (pe_op op_cat (pv 1) (pe_lst (pa_cons (pe_callB call_isx (by rfl) T.z_isinstance (by decide +kernel) (pa_cons (pv 0) (pa_cons (pe_cls (EE.at_ "InvalidParents" (by decide +kernel)) (by rfl)) pa_nil))) (pa_cons (pe_callB call_isx (by rfl) T.z_isinstance (by decide +kernel) (pa_cons (pv 0) (pa_cons (pe_cls (EE.at_ "TwoAncestors" (by decide +kernel)) (by rfl)) pa_nil))) pa_nil)))))
  (pss_cons (ps_set (i := 1) sc__law_kinds.nd rfl (by first | exact Or.inl rfl | exact Or.inr rfl) (pe_op op_cat (pv 1) (pe_lst (pa_cons (pe_callB call_isx (by rfl) T.z_isinstance (by decide +kernel) (pa_cons (pv 0) (pa_cons (pe_cls (EE.at_ "BrokenRule" (by decide +kernel)) (by rfl)) pa_nil))) (pa_cons (pe_callB call_isx (by rfl) T.z_isinstance (by decide +kernel) (pa_cons (pv 0) (pa_cons (pe_cls (EE.at_ "NotAllowed" (by decide +kernel)) (by rfl)) pa_nil))) (pa_cons (pe_callB call_isx (by rfl) T.z_isinstance (by decide +kernel) (pa_cons (pv 0) (pa_cons (pe_cls (EE.at_ "NotDetermined" (by decide +kernel)) (by rfl)) pa_nil))) pa_nil))))))
  (pss_cons (ps_set (i := 1) sc__law_kinds.nd rfl (by first | exact Or.inl rfl | exact Or.inr rfl) (pe_op op_cat (pv 1) (pe_lst (pa_cons (pe_callB call_isx (by rfl) T.z_isinstance (by decide +kernel) (pa_cons (pv 0) (pa_cons (pe_cls (EE.at_ "NotComparable" (by decide +kernel)) (by rfl)) pa_nil))) (pa_cons (pe_callB call_isx (by rfl) T.z_isinstance (by decide +kernel) (pa_cons (pv 0) (pa_cons (pe_cls (EE.at_ "OtherCube" (by decide +kernel)) (by rfl)) pa_nil))) (pa_cons (pe_callB call_isx (by rfl) T.z_isinstance (by decide +kernel) (pa_cons (pv 0) (pa_cons (pe_cls (EE.at_ "TooMany" (by decide +kernel)) (by rfl)) pa_nil))) pa_nil))))))
  (pss_one (ps_ret (pv 1)))))))))))))))))))))), ?_⟩
    walk_at "w0"
    refine seq_cut (fun σ J => ∃ p, σ = [some (.ref a), some (.ref p)] ∧ H p = none ∧ Same H J ∧ Bits J p (([] : List Str).map fun y => decide (x = y))) (fun N hN => ?_) ?_
    · walk_at "w"
      refine w_newL rfl fun p L n z h => ?_
      walk_at "w"
      exact hN _ _ ⟨p, rfl, n, z, h⟩
    rintro _ J ⟨p, rfl, np, z, hp⟩
    have hj := he.same z
    refine seq_cut (fun σ J => ∃ p, σ = [some (.ref a), some (.ref p)] ∧ H p = none ∧ Same H J ∧ Bits J p (([("InvalidName" : Str), ("InvalidText" : Str), ("InvalidLevel" : Str)] : List Str).map fun y => decide (x = y))) (fun N hN => ?_) ?_
    · walk_at "w"
      refine w_isx XX hj (.own _) (EE.same x hx "InvalidName" (by decide +kernel)) ?_
      walk_at "w"
      refine w_isx XX hj (.own _) (EE.same x hx "InvalidText" (by decide +kernel)) ?_
      walk_at "w"
      refine w_isx XX hj (.own _) (EE.same x hx "InvalidLevel" (by decide +kernel)) ?_
      walk_at "w"
      refine w_newL rfl fun b M c r g => ?_
      walk_at "w"
      refine w_cat (r _ _ hp) g (Nat.le_of_ble_eq_true rfl) fun p2 L n s2 h2 => ?_
      walk_at "w"
      exact hN _ _ ⟨p2, rfl, Same.free (z.trans r) n, (z.trans r).trans s2, h2⟩
    rintro _ J ⟨p, rfl, np, z, hp⟩
    have hj := he.same z
    refine seq_cut (fun σ J => ∃ p, σ = [some (.ref a), some (.ref p)] ∧ H p = none ∧ Same H J ∧ Bits J p (([("InvalidName" : Str), ("InvalidText" : Str), ("InvalidLevel" : Str), ("InvalidView" : Str), ("InvalidCell" : Str)] : List Str).map fun y => decide (x = y))) (fun N hN => ?_) ?_
    · walk_at "w"
      refine w_isx XX hj (.own _) (EE.same x hx "InvalidView" (by decide +kernel)) ?_
      walk_at "w"
      refine w_isx XX hj (.own _) (EE.same x hx "InvalidCell" (by decide +kernel)) ?_
      walk_at "w"
      refine w_newL rfl fun b M c r g => ?_
      walk_at "w"
      refine w_cat (r _ _ hp) g (Nat.le_of_ble_eq_true rfl) fun p2 L n s2 h2 => ?_
      walk_at "w"
      exact hN _ _ ⟨p2, rfl, Same.free (z.trans r) n, (z.trans r).trans s2, h2⟩
    rintro _ J ⟨p, rfl, np, z, hp⟩
    have hj := he.same z
    refine seq_cut (fun σ J => ∃ p, σ = [some (.ref a), some (.ref p)] ∧ H p = none ∧ Same H J ∧ Bits J p (([("InvalidName" : Str), ("InvalidText" : Str), ("InvalidLevel" : Str), ("InvalidView" : Str), ("InvalidCell" : Str), ("InvalidAmount" : Str), ("InvalidTimes" : Str)] : List Str).map fun y => decide (x = y))) (fun N hN => ?_) ?_
    · walk_at "w"
      refine w_isx XX hj (.own _) (EE.same x hx "InvalidAmount" (by decide +kernel)) ?_
      walk_at "w"
      refine w_isx XX hj (.own _) (EE.same x hx "InvalidTimes" (by decide +kernel)) ?_
      walk_at "w"
      refine w_newL rfl fun b M c r g => ?_
      walk_at "w"
      refine w_cat (r _ _ hp) g (Nat.le_of_ble_eq_true rfl) fun p2 L n s2 h2 => ?_
      walk_at "w"
      exact hN _ _ ⟨p2, rfl, Same.free (z.trans r) n, (z.trans r).trans s2, h2⟩
    rintro _ J ⟨p, rfl, np, z, hp⟩
    have hj := he.same z
    refine seq_cut (fun σ J => ∃ p, σ = [some (.ref a), some (.ref p)] ∧ H p = none ∧ Same H J ∧ Bits J p (([("InvalidName" : Str), ("InvalidText" : Str), ("InvalidLevel" : Str), ("InvalidView" : Str), ("InvalidCell" : Str), ("InvalidAmount" : Str), ("InvalidTimes" : Str), ("InvalidMeasure" : Str), ("NotACondition" : Str)] : List Str).map fun y => decide (x = y))) (fun N hN => ?_) ?_
    · walk_at "w"
      refine w_isx XX hj (.own _) (EE.same x hx "InvalidMeasure" (by decide +kernel)) ?_
      walk_at "w"
      refine w_isx XX hj (.own _) (EE.same x hx "NotACondition" (by decide +kernel)) ?_
      walk_at "w"
      refine w_newL rfl fun b M c r g => ?_
      walk_at "w"
      refine w_cat (r _ _ hp) g (Nat.le_of_ble_eq_true rfl) fun p2 L n s2 h2 => ?_
      walk_at "w"
      exact hN _ _ ⟨p2, rfl, Same.free (z.trans r) n, (z.trans r).trans s2, h2⟩
    rintro _ J ⟨p, rfl, np, z, hp⟩
    have hj := he.same z
    refine seq_cut (fun σ J => ∃ p, σ = [some (.ref a), some (.ref p)] ∧ H p = none ∧ Same H J ∧ Bits J p (([("InvalidName" : Str), ("InvalidText" : Str), ("InvalidLevel" : Str), ("InvalidView" : Str), ("InvalidCell" : Str), ("InvalidAmount" : Str), ("InvalidTimes" : Str), ("InvalidMeasure" : Str), ("NotACondition" : Str), ("NotAShape" : Str), ("NotASchema" : Str), ("NotACube" : Str)] : List Str).map fun y => decide (x = y))) (fun N hN => ?_) ?_
    · walk_at "w"
      refine w_isx XX hj (.own _) (EE.same x hx "NotAShape" (by decide +kernel)) ?_
      walk_at "w"
      refine w_isx XX hj (.own _) (EE.same x hx "NotASchema" (by decide +kernel)) ?_
      walk_at "w"
      refine w_isx XX hj (.own _) (EE.same x hx "NotACube" (by decide +kernel)) ?_
      walk_at "w"
      refine w_newL rfl fun b M c r g => ?_
      walk_at "w"
      refine w_cat (r _ _ hp) g (Nat.le_of_ble_eq_true rfl) fun p2 L n s2 h2 => ?_
      walk_at "w"
      exact hN _ _ ⟨p2, rfl, Same.free (z.trans r) n, (z.trans r).trans s2, h2⟩
    rintro _ J ⟨p, rfl, np, z, hp⟩
    have hj := he.same z
    refine seq_cut (fun σ J => ∃ p, σ = [some (.ref a), some (.ref p)] ∧ H p = none ∧ Same H J ∧ Bits J p (([("InvalidName" : Str), ("InvalidText" : Str), ("InvalidLevel" : Str), ("InvalidView" : Str), ("InvalidCell" : Str), ("InvalidAmount" : Str), ("InvalidTimes" : Str), ("InvalidMeasure" : Str), ("NotACondition" : Str), ("NotAShape" : Str), ("NotASchema" : Str), ("NotACube" : Str), ("NotADataset" : Str), ("NotAWarehouse" : Str)] : List Str).map fun y => decide (x = y))) (fun N hN => ?_) ?_
    · walk_at "w"
      refine w_isx XX hj (.own _) (EE.same x hx "NotADataset" (by decide +kernel)) ?_
      walk_at "w"
      refine w_isx XX hj (.own _) (EE.same x hx "NotAWarehouse" (by decide +kernel)) ?_
      walk_at "w"
      refine w_newL rfl fun b M c r g => ?_
      walk_at "w"
      refine w_cat (r _ _ hp) g (Nat.le_of_ble_eq_true rfl) fun p2 L n s2 h2 => ?_
      walk_at "w"
      exact hN _ _ ⟨p2, rfl, Same.free (z.trans r) n, (z.trans r).trans s2, h2⟩
    rintro _ J ⟨p, rfl, np, z, hp⟩
    have hj := he.same z
    refine seq_cut (fun σ J => ∃ p, σ = [some (.ref a), some (.ref p)] ∧ H p = none ∧ Same H J ∧ Bits J p (([("InvalidName" : Str), ("InvalidText" : Str), ("InvalidLevel" : Str), ("InvalidView" : Str), ("InvalidCell" : Str), ("InvalidAmount" : Str), ("InvalidTimes" : Str), ("InvalidMeasure" : Str), ("NotACondition" : Str), ("NotAShape" : Str), ("NotASchema" : Str), ("NotACube" : Str), ("NotADataset" : Str), ("NotAWarehouse" : Str), ("InvalidLinks" : Str), ("InvalidMarks" : Str)] : List Str).map fun y => decide (x = y))) (fun N hN => ?_) ?_
    · walk_at "w"
      refine w_isx XX hj (.own _) (EE.same x hx "InvalidLinks" (by decide +kernel)) ?_
      walk_at "w"
      refine w_isx XX hj (.own _) (EE.same x hx "InvalidMarks" (by decide +kernel)) ?_
      walk_at "w"
      refine w_newL rfl fun b M c r g => ?_
      walk_at "w"
      refine w_cat (r _ _ hp) g (Nat.le_of_ble_eq_true rfl) fun p2 L n s2 h2 => ?_
      walk_at "w"
      exact hN _ _ ⟨p2, rfl, Same.free (z.trans r) n, (z.trans r).trans s2, h2⟩
    rintro _ J ⟨p, rfl, np, z, hp⟩
    have hj := he.same z
    refine seq_cut (fun σ J => ∃ p, σ = [some (.ref a), some (.ref p)] ∧ H p = none ∧ Same H J ∧ Bits J p (([("InvalidName" : Str), ("InvalidText" : Str), ("InvalidLevel" : Str), ("InvalidView" : Str), ("InvalidCell" : Str), ("InvalidAmount" : Str), ("InvalidTimes" : Str), ("InvalidMeasure" : Str), ("NotACondition" : Str), ("NotAShape" : Str), ("NotASchema" : Str), ("NotACube" : Str), ("NotADataset" : Str), ("NotAWarehouse" : Str), ("InvalidLinks" : Str), ("InvalidMarks" : Str), ("InvalidRules" : Str), ("InvalidMembers" : Str)] : List Str).map fun y => decide (x = y))) (fun N hN => ?_) ?_
    · walk_at "w"
      refine w_isx XX hj (.own _) (EE.same x hx "InvalidRules" (by decide +kernel)) ?_
      walk_at "w"
      refine w_isx XX hj (.own _) (EE.same x hx "InvalidMembers" (by decide +kernel)) ?_
      walk_at "w"
      refine w_newL rfl fun b M c r g => ?_
      walk_at "w"
      refine w_cat (r _ _ hp) g (Nat.le_of_ble_eq_true rfl) fun p2 L n s2 h2 => ?_
      walk_at "w"
      exact hN _ _ ⟨p2, rfl, Same.free (z.trans r) n, (z.trans r).trans s2, h2⟩
    rintro _ J ⟨p, rfl, np, z, hp⟩
    have hj := he.same z
    refine seq_cut (fun σ J => ∃ p, σ = [some (.ref a), some (.ref p)] ∧ H p = none ∧ Same H J ∧ Bits J p (([("InvalidName" : Str), ("InvalidText" : Str), ("InvalidLevel" : Str), ("InvalidView" : Str), ("InvalidCell" : Str), ("InvalidAmount" : Str), ("InvalidTimes" : Str), ("InvalidMeasure" : Str), ("NotACondition" : Str), ("NotAShape" : Str), ("NotASchema" : Str), ("NotACube" : Str), ("NotADataset" : Str), ("NotAWarehouse" : Str), ("InvalidLinks" : Str), ("InvalidMarks" : Str), ("InvalidRules" : Str), ("InvalidMembers" : Str), ("InvalidSchemas" : Str), ("InvalidHierarchies" : Str)] : List Str).map fun y => decide (x = y))) (fun N hN => ?_) ?_
    · walk_at "w"
      refine w_isx XX hj (.own _) (EE.same x hx "InvalidSchemas" (by decide +kernel)) ?_
      walk_at "w"
      refine w_isx XX hj (.own _) (EE.same x hx "InvalidHierarchies" (by decide +kernel)) ?_
      walk_at "w"
      refine w_newL rfl fun b M c r g => ?_
      walk_at "w"
      refine w_cat (r _ _ hp) g (Nat.le_of_ble_eq_true rfl) fun p2 L n s2 h2 => ?_
      walk_at "w"
      exact hN _ _ ⟨p2, rfl, Same.free (z.trans r) n, (z.trans r).trans s2, h2⟩
    rintro _ J ⟨p, rfl, np, z, hp⟩
    have hj := he.same z
    refine seq_cut (fun σ J => ∃ p, σ = [some (.ref a), some (.ref p)] ∧ H p = none ∧ Same H J ∧ Bits J p (([("InvalidName" : Str), ("InvalidText" : Str), ("InvalidLevel" : Str), ("InvalidView" : Str), ("InvalidCell" : Str), ("InvalidAmount" : Str), ("InvalidTimes" : Str), ("InvalidMeasure" : Str), ("NotACondition" : Str), ("NotAShape" : Str), ("NotASchema" : Str), ("NotACube" : Str), ("NotADataset" : Str), ("NotAWarehouse" : Str), ("InvalidLinks" : Str), ("InvalidMarks" : Str), ("InvalidRules" : Str), ("InvalidMembers" : Str), ("InvalidSchemas" : Str), ("InvalidHierarchies" : Str), ("InvalidFacts" : Str), ("InvalidStored" : Str)] : List Str).map fun y => decide (x = y))) (fun N hN => ?_) ?_
    · walk_at "w"
      refine w_isx XX hj (.own _) (EE.same x hx "InvalidFacts" (by decide +kernel)) ?_
      walk_at "w"
      refine w_isx XX hj (.own _) (EE.same x hx "InvalidStored" (by decide +kernel)) ?_
      walk_at "w"
      refine w_newL rfl fun b M c r g => ?_
      walk_at "w"
      refine w_cat (r _ _ hp) g (Nat.le_of_ble_eq_true rfl) fun p2 L n s2 h2 => ?_
      walk_at "w"
      exact hN _ _ ⟨p2, rfl, Same.free (z.trans r) n, (z.trans r).trans s2, h2⟩
    rintro _ J ⟨p, rfl, np, z, hp⟩
    have hj := he.same z
    refine seq_cut (fun σ J => ∃ p, σ = [some (.ref a), some (.ref p)] ∧ H p = none ∧ Same H J ∧ Bits J p (([("InvalidName" : Str), ("InvalidText" : Str), ("InvalidLevel" : Str), ("InvalidView" : Str), ("InvalidCell" : Str), ("InvalidAmount" : Str), ("InvalidTimes" : Str), ("InvalidMeasure" : Str), ("NotACondition" : Str), ("NotAShape" : Str), ("NotASchema" : Str), ("NotACube" : Str), ("NotADataset" : Str), ("NotAWarehouse" : Str), ("InvalidLinks" : Str), ("InvalidMarks" : Str), ("InvalidRules" : Str), ("InvalidMembers" : Str), ("InvalidSchemas" : Str), ("InvalidHierarchies" : Str), ("InvalidFacts" : Str), ("InvalidStored" : Str), ("InvalidWanted" : Str), ("InvalidPrices" : Str)] : List Str).map fun y => decide (x = y))) (fun N hN => ?_) ?_
    · walk_at "w"
      refine w_isx XX hj (.own _) (EE.same x hx "InvalidWanted" (by decide +kernel)) ?_
      walk_at "w"
      refine w_isx XX hj (.own _) (EE.same x hx "InvalidPrices" (by decide +kernel)) ?_
      walk_at "w"
      refine w_newL rfl fun b M c r g => ?_
      walk_at "w"
      refine w_cat (r _ _ hp) g (Nat.le_of_ble_eq_true rfl) fun p2 L n s2 h2 => ?_
      walk_at "w"
      exact hN _ _ ⟨p2, rfl, Same.free (z.trans r) n, (z.trans r).trans s2, h2⟩
    rintro _ J ⟨p, rfl, np, z, hp⟩
    have hj := he.same z
    refine seq_cut (fun σ J => ∃ p, σ = [some (.ref a), some (.ref p)] ∧ H p = none ∧ Same H J ∧ Bits J p (([("InvalidName" : Str), ("InvalidText" : Str), ("InvalidLevel" : Str), ("InvalidView" : Str), ("InvalidCell" : Str), ("InvalidAmount" : Str), ("InvalidTimes" : Str), ("InvalidMeasure" : Str), ("NotACondition" : Str), ("NotAShape" : Str), ("NotASchema" : Str), ("NotACube" : Str), ("NotADataset" : Str), ("NotAWarehouse" : Str), ("InvalidLinks" : Str), ("InvalidMarks" : Str), ("InvalidRules" : Str), ("InvalidMembers" : Str), ("InvalidSchemas" : Str), ("InvalidHierarchies" : Str), ("InvalidFacts" : Str), ("InvalidStored" : Str), ("InvalidWanted" : Str), ("InvalidPrices" : Str), ("InvalidShapes" : Str), ("InvalidRows" : Str)] : List Str).map fun y => decide (x = y))) (fun N hN => ?_) ?_
    · walk_at "w"
      refine w_isx XX hj (.own _) (EE.same x hx "InvalidShapes" (by decide +kernel)) ?_
      walk_at "w"
      refine w_isx XX hj (.own _) (EE.same x hx "InvalidRows" (by decide +kernel)) ?_
      walk_at "w"
      refine w_newL rfl fun b M c r g => ?_
      walk_at "w"
      refine w_cat (r _ _ hp) g (Nat.le_of_ble_eq_true rfl) fun p2 L n s2 h2 => ?_
      walk_at "w"
      exact hN _ _ ⟨p2, rfl, Same.free (z.trans r) n, (z.trans r).trans s2, h2⟩
    rintro _ J ⟨p, rfl, np, z, hp⟩
    have hj := he.same z
    refine seq_cut (fun σ J => ∃ p, σ = [some (.ref a), some (.ref p)] ∧ H p = none ∧ Same H J ∧ Bits J p (([("InvalidName" : Str), ("InvalidText" : Str), ("InvalidLevel" : Str), ("InvalidView" : Str), ("InvalidCell" : Str), ("InvalidAmount" : Str), ("InvalidTimes" : Str), ("InvalidMeasure" : Str), ("NotACondition" : Str), ("NotAShape" : Str), ("NotASchema" : Str), ("NotACube" : Str), ("NotADataset" : Str), ("NotAWarehouse" : Str), ("InvalidLinks" : Str), ("InvalidMarks" : Str), ("InvalidRules" : Str), ("InvalidMembers" : Str), ("InvalidSchemas" : Str), ("InvalidHierarchies" : Str), ("InvalidFacts" : Str), ("InvalidStored" : Str), ("InvalidWanted" : Str), ("InvalidPrices" : Str), ("InvalidShapes" : Str), ("InvalidRows" : Str), ("InvalidGoal" : Str), ("InvalidDeed" : Str)] : List Str).map fun y => decide (x = y))) (fun N hN => ?_) ?_
    · walk_at "w"
      refine w_isx XX hj (.own _) (EE.same x hx "InvalidGoal" (by decide +kernel)) ?_
      walk_at "w"
      refine w_isx XX hj (.own _) (EE.same x hx "InvalidDeed" (by decide +kernel)) ?_
      walk_at "w"
      refine w_newL rfl fun b M c r g => ?_
      walk_at "w"
      refine w_cat (r _ _ hp) g (Nat.le_of_ble_eq_true rfl) fun p2 L n s2 h2 => ?_
      walk_at "w"
      exact hN _ _ ⟨p2, rfl, Same.free (z.trans r) n, (z.trans r).trans s2, h2⟩
    rintro _ J ⟨p, rfl, np, z, hp⟩
    have hj := he.same z
    refine seq_cut (fun σ J => ∃ p, σ = [some (.ref a), some (.ref p)] ∧ H p = none ∧ Same H J ∧ Bits J p (([("InvalidName" : Str), ("InvalidText" : Str), ("InvalidLevel" : Str), ("InvalidView" : Str), ("InvalidCell" : Str), ("InvalidAmount" : Str), ("InvalidTimes" : Str), ("InvalidMeasure" : Str), ("NotACondition" : Str), ("NotAShape" : Str), ("NotASchema" : Str), ("NotACube" : Str), ("NotADataset" : Str), ("NotAWarehouse" : Str), ("InvalidLinks" : Str), ("InvalidMarks" : Str), ("InvalidRules" : Str), ("InvalidMembers" : Str), ("InvalidSchemas" : Str), ("InvalidHierarchies" : Str), ("InvalidFacts" : Str), ("InvalidStored" : Str), ("InvalidWanted" : Str), ("InvalidPrices" : Str), ("InvalidShapes" : Str), ("InvalidRows" : Str), ("InvalidGoal" : Str), ("InvalidDeed" : Str), ("UnknownMember" : Str), ("MissingFact" : Str), ("NotStored" : Str)] : List Str).map fun y => decide (x = y))) (fun N hN => ?_) ?_
    · walk_at "w"
      refine w_isx XX hj (.own _) (EE.same x hx "UnknownMember" (by decide +kernel)) ?_
      walk_at "w"
      refine w_isx XX hj (.own _) (EE.same x hx "MissingFact" (by decide +kernel)) ?_
      walk_at "w"
      refine w_isx XX hj (.own _) (EE.same x hx "NotStored" (by decide +kernel)) ?_
      walk_at "w"
      refine w_newL rfl fun b M c r g => ?_
      walk_at "w"
      refine w_cat (r _ _ hp) g (Nat.le_of_ble_eq_true rfl) fun p2 L n s2 h2 => ?_
      walk_at "w"
      exact hN _ _ ⟨p2, rfl, Same.free (z.trans r) n, (z.trans r).trans s2, h2⟩
    rintro _ J ⟨p, rfl, np, z, hp⟩
    have hj := he.same z
    refine seq_cut (fun σ J => ∃ p, σ = [some (.ref a), some (.ref p)] ∧ H p = none ∧ Same H J ∧ Bits J p (([("InvalidName" : Str), ("InvalidText" : Str), ("InvalidLevel" : Str), ("InvalidView" : Str), ("InvalidCell" : Str), ("InvalidAmount" : Str), ("InvalidTimes" : Str), ("InvalidMeasure" : Str), ("NotACondition" : Str), ("NotAShape" : Str), ("NotASchema" : Str), ("NotACube" : Str), ("NotADataset" : Str), ("NotAWarehouse" : Str), ("InvalidLinks" : Str), ("InvalidMarks" : Str), ("InvalidRules" : Str), ("InvalidMembers" : Str), ("InvalidSchemas" : Str), ("InvalidHierarchies" : Str), ("InvalidFacts" : Str), ("InvalidStored" : Str), ("InvalidWanted" : Str), ("InvalidPrices" : Str), ("InvalidShapes" : Str), ("InvalidRows" : Str), ("InvalidGoal" : Str), ("InvalidDeed" : Str), ("UnknownMember" : Str), ("MissingFact" : Str), ("NotStored" : Str), ("HasChildren" : Str), ("HasFacts" : Str), ("NothingToUndo" : Str)] : List Str).map fun y => decide (x = y))) (fun N hN => ?_) ?_
    · walk_at "w"
      refine w_isx XX hj (.own _) (EE.same x hx "HasChildren" (by decide +kernel)) ?_
      walk_at "w"
      refine w_isx XX hj (.own _) (EE.same x hx "HasFacts" (by decide +kernel)) ?_
      walk_at "w"
      refine w_isx XX hj (.own _) (EE.same x hx "NothingToUndo" (by decide +kernel)) ?_
      walk_at "w"
      refine w_newL rfl fun b M c r g => ?_
      walk_at "w"
      refine w_cat (r _ _ hp) g (Nat.le_of_ble_eq_true rfl) fun p2 L n s2 h2 => ?_
      walk_at "w"
      exact hN _ _ ⟨p2, rfl, Same.free (z.trans r) n, (z.trans r).trans s2, h2⟩
    rintro _ J ⟨p, rfl, np, z, hp⟩
    have hj := he.same z
    refine seq_cut (fun σ J => ∃ p, σ = [some (.ref a), some (.ref p)] ∧ H p = none ∧ Same H J ∧ Bits J p (([("InvalidName" : Str), ("InvalidText" : Str), ("InvalidLevel" : Str), ("InvalidView" : Str), ("InvalidCell" : Str), ("InvalidAmount" : Str), ("InvalidTimes" : Str), ("InvalidMeasure" : Str), ("NotACondition" : Str), ("NotAShape" : Str), ("NotASchema" : Str), ("NotACube" : Str), ("NotADataset" : Str), ("NotAWarehouse" : Str), ("InvalidLinks" : Str), ("InvalidMarks" : Str), ("InvalidRules" : Str), ("InvalidMembers" : Str), ("InvalidSchemas" : Str), ("InvalidHierarchies" : Str), ("InvalidFacts" : Str), ("InvalidStored" : Str), ("InvalidWanted" : Str), ("InvalidPrices" : Str), ("InvalidShapes" : Str), ("InvalidRows" : Str), ("InvalidGoal" : Str), ("InvalidDeed" : Str), ("UnknownMember" : Str), ("MissingFact" : Str), ("NotStored" : Str), ("HasChildren" : Str), ("HasFacts" : Str), ("NothingToUndo" : Str), ("InvalidParents" : Str), ("TwoAncestors" : Str)] : List Str).map fun y => decide (x = y))) (fun N hN => ?_) ?_
    · walk_at "w"
      refine w_isx XX hj (.own _) (EE.same x hx "InvalidParents" (by decide +kernel)) ?_
      walk_at "w"
      refine w_isx XX hj (.own _) (EE.same x hx "TwoAncestors" (by decide +kernel)) ?_
      walk_at "w"
      refine w_newL rfl fun b M c r g => ?_
      walk_at "w"
      refine w_cat (r _ _ hp) g (Nat.le_of_ble_eq_true rfl) fun p2 L n s2 h2 => ?_
      walk_at "w"
      exact hN _ _ ⟨p2, rfl, Same.free (z.trans r) n, (z.trans r).trans s2, h2⟩
    rintro _ J ⟨p, rfl, np, z, hp⟩
    have hj := he.same z
    refine seq_cut (fun σ J => ∃ p, σ = [some (.ref a), some (.ref p)] ∧ H p = none ∧ Same H J ∧ Bits J p (([("InvalidName" : Str), ("InvalidText" : Str), ("InvalidLevel" : Str), ("InvalidView" : Str), ("InvalidCell" : Str), ("InvalidAmount" : Str), ("InvalidTimes" : Str), ("InvalidMeasure" : Str), ("NotACondition" : Str), ("NotAShape" : Str), ("NotASchema" : Str), ("NotACube" : Str), ("NotADataset" : Str), ("NotAWarehouse" : Str), ("InvalidLinks" : Str), ("InvalidMarks" : Str), ("InvalidRules" : Str), ("InvalidMembers" : Str), ("InvalidSchemas" : Str), ("InvalidHierarchies" : Str), ("InvalidFacts" : Str), ("InvalidStored" : Str), ("InvalidWanted" : Str), ("InvalidPrices" : Str), ("InvalidShapes" : Str), ("InvalidRows" : Str), ("InvalidGoal" : Str), ("InvalidDeed" : Str), ("UnknownMember" : Str), ("MissingFact" : Str), ("NotStored" : Str), ("HasChildren" : Str), ("HasFacts" : Str), ("NothingToUndo" : Str), ("InvalidParents" : Str), ("TwoAncestors" : Str), ("BrokenRule" : Str), ("NotAllowed" : Str), ("NotDetermined" : Str)] : List Str).map fun y => decide (x = y))) (fun N hN => ?_) ?_
    · walk_at "w"
      refine w_isx XX hj (.own _) (EE.same x hx "BrokenRule" (by decide +kernel)) ?_
      walk_at "w"
      refine w_isx XX hj (.own _) (EE.same x hx "NotAllowed" (by decide +kernel)) ?_
      walk_at "w"
      refine w_isx XX hj (.own _) (EE.same x hx "NotDetermined" (by decide +kernel)) ?_
      walk_at "w"
      refine w_newL rfl fun b M c r g => ?_
      walk_at "w"
      refine w_cat (r _ _ hp) g (Nat.le_of_ble_eq_true rfl) fun p2 L n s2 h2 => ?_
      walk_at "w"
      exact hN _ _ ⟨p2, rfl, Same.free (z.trans r) n, (z.trans r).trans s2, h2⟩
    rintro _ J ⟨p, rfl, np, z, hp⟩
    have hj := he.same z
    refine seq_cut (fun σ J => ∃ p, σ = [some (.ref a), some (.ref p)] ∧ H p = none ∧ Same H J ∧ Bits J p (([("InvalidName" : Str), ("InvalidText" : Str), ("InvalidLevel" : Str), ("InvalidView" : Str), ("InvalidCell" : Str), ("InvalidAmount" : Str), ("InvalidTimes" : Str), ("InvalidMeasure" : Str), ("NotACondition" : Str), ("NotAShape" : Str), ("NotASchema" : Str), ("NotACube" : Str), ("NotADataset" : Str), ("NotAWarehouse" : Str), ("InvalidLinks" : Str), ("InvalidMarks" : Str), ("InvalidRules" : Str), ("InvalidMembers" : Str), ("InvalidSchemas" : Str), ("InvalidHierarchies" : Str), ("InvalidFacts" : Str), ("InvalidStored" : Str), ("InvalidWanted" : Str), ("InvalidPrices" : Str), ("InvalidShapes" : Str), ("InvalidRows" : Str), ("InvalidGoal" : Str), ("InvalidDeed" : Str), ("UnknownMember" : Str), ("MissingFact" : Str), ("NotStored" : Str), ("HasChildren" : Str), ("HasFacts" : Str), ("NothingToUndo" : Str), ("InvalidParents" : Str), ("TwoAncestors" : Str), ("BrokenRule" : Str), ("NotAllowed" : Str), ("NotDetermined" : Str), ("NotComparable" : Str), ("OtherCube" : Str), ("TooMany" : Str)] : List Str).map fun y => decide (x = y))) (fun N hN => ?_) ?_
    · walk_at "w"
      refine w_isx XX hj (.own _) (EE.same x hx "NotComparable" (by decide +kernel)) ?_
      walk_at "w"
      refine w_isx XX hj (.own _) (EE.same x hx "OtherCube" (by decide +kernel)) ?_
      walk_at "w"
      refine w_isx XX hj (.own _) (EE.same x hx "TooMany" (by decide +kernel)) ?_
      walk_at "w"
      refine w_newL rfl fun b M c r g => ?_
      walk_at "w"
      refine w_cat (r _ _ hp) g (Nat.le_of_ble_eq_true rfl) fun p2 L n s2 h2 => ?_
      walk_at "w"
      exact hN _ _ ⟨p2, rfl, Same.free (z.trans r) n, (z.trans r).trans s2, h2⟩
    rintro _ J ⟨p, rfl, np, z, hp⟩
    walk_at "w"
    exact q p J np z hp
end

end RT
set_option Elab.async false
set_option linter.all false
set_option maxRecDepth 100000
set_option maxHeartbeats 4000000
namespace RT
open PySem PySem.Spec PyProof.Rows L2
local macro_rules | `(tactic| walk_at "w0") => `(tactic| dsimp only [L2.start, cxOf, Cx.nox, Cx.wish, List.map, List.length_cons, List.length_nil, List.replicate_succ, List.replicate_zero, List.cons_append, List.nil_append, Nat.reduceAdd, Nat.reduceSub, List.set_cons_zero, List.set_cons_succ])
local macro_rules | `(tactic| walk_at "w1") => `(tactic| first
  | with_reducible refine w_seq ?_
  | with_reducible refine w_asg ?_
  | with_reducible refine w_var rfl ?_
  | with_reducible refine w_c ?_
  | with_reducible refine w_op ?_
  | with_reducible refine w_cons ?_
  | with_reducible refine w_nil ?_
  | with_reducible refine w_gname ?_
  | with_reducible refine w_cb ?_
  | with_reducible refine w_I0 ?_
  | with_reducible refine w_bl ?_
  | ((with_reducible refine' w_ixL ?s0 ?s1 ?q); (case s0 => assumption); (case s1 => rfl))
  | ((with_reducible refine' w_ixT ?s0 ?s1 ?q); (case s0 => assumption); (case s1 => rfl))
  | with_reducible refine w_gsub ?_
  | with_reducible refine w_ifS ?_
  | with_reducible refine w_test ?_
  | with_reducible refine w_call ?_
  | with_reducible refine w_ret ?_
  | with_reducible refine w_int1 ?_
  | with_reducible refine w_int ?_
  | with_reducible refine w_next ?_
  | with_reducible refine w_drop ?_
  | ((with_reducible refine' w_mod ?s0 ?q); (case s0 => omega))
  | ((with_reducible refine' w_div ?s0 ?q); (case s0 => omega))
  | ((with_reducible refine' w_mul ?s0 ?q); (case s0 => omega))
  | ((with_reducible refine' w_pow ?s0 ?q); (case s0 => decide))
  | with_reducible refine w_B ?_
  | with_reducible refine w_and ?_
  | with_reducible refine w_or ?_
  | with_reducible refine w_not ?_
  | with_reducible refine w_T ?_
  | with_reducible refine w_F ?_
  | with_reducible refine w_nT ?_
  | with_reducible refine w_nF ?_
  | with_reducible refine w_un ?_
  | with_reducible refine w_U ?_
  | with_reducible refine w_if ?_
  | with_reducible refine w_lst ?_
  | with_reducible refine w_tup ?_
  | with_reducible refine w_sl ?_
  | with_reducible refine w_part ?_
  | with_reducible refine w_nopart ?_
  | with_reducible refine w_eqI ?_
  | with_reducible refine w_neI ?_
  | with_reducible refine w_eqS ?_
  | with_reducible refine w_neS ?_
  | with_reducible refine w_abs ?_
  | with_reducible refine w_max2 ?_
  | with_reducible refine w_min2 ?_
  | ((with_reducible refine' w_lenL ?s0 ?q); (case s0 => assumption))
  | ((with_reducible refine' w_lenH ?s0 ?q); (case s0 => assumption))
  | ((with_reducible refine' w_lenT ?s0 ?q); (case s0 => assumption))
  | ((with_reducible refine' w_lenS ?s0 ?q); (case s0 => first | assumption | omega | decide +kernel))
  | with_reducible refine w_inC ?_
  | with_reducible refine w_ninC ?_
  | with_reducible refine w_m1 ?_
  | with_reducible refine w_m0 ?_
  | with_reducible refine w_isstr ?_
  | with_reducible refine w_andV ?_
  | with_reducible refine w_orV ?_
  | with_reducible refine w_notV ?_
  | with_reducible refine w_chain ?_
  | with_reducible refine w_retN ?_
  | with_reducible refine w_break ?_
  | with_reducible refine w_cont ?_
  | with_reducible refine w_yes ?_
  | with_reducible refine w_for ?_
  | with_reducible refine w_lc ?_
  | with_reducible refine w_iList ?_
  | with_reducible refine w_iTup ?_
  | with_reducible refine w_iStr ?_
  | with_reducible refine w_iR1 ?_
  | with_reducible refine w_iR2 ?_
  | ((with_reducible refine' w_onL ?s0 ?q); (case s0 => assumption))
  | ((with_reducible refine' w_onQ ?s0 ?q); (case s0 => assumption))
  | ((with_reducible refine' w_onT ?s0 ?q); (case s0 => assumption))
  | ((with_reducible refine' w_onU ?s0 ?q); (case s0 => assumption))
  | with_reducible refine w_onS ?_
  | ((with_reducible refine' w_onR1 ?s0 ?q); (case s0 => omega))
  | ((with_reducible refine' w_onR2 ?s0 ?q); (case s0 => omega))
  | with_reducible refine w_revL ?_
  | ((with_reducible refine' w_all ?s0 ?q); (case s0 => assumption))
  | ((with_reducible refine' w_any ?s0 ?q); (case s0 => assumption))
  | with_reducible refine w_bm ?_
  | with_reducible refine w_bm0 ?_
  | ((with_reducible refine' w_islst ?s0 ?q); (case s0 => assumption))
  | with_reducible refine w_kw ?_
  | ((with_reducible refine' w_isi ?s0 ?s1 ?q); (case s0 => assumption); (case s1 => assumption))
  | ((with_reducible refine' w_addS ?s0 ?q); (case s0 => first | omega | decide +kernel))
  | with_reducible refine w_dnew ?_
  | with_reducible refine w_pnil ?_
  | with_reducible refine w_pcons ?_
  | ((with_reducible refine' w_slS ?s0 ?q); (case s0 => first | assumption | omega))
  | ((with_reducible refine' w_inLS ?s0 ?q); (case s0 => assumption))
  | ((with_reducible refine' w_ninLS ?s0 ?q); (case s0 => assumption))
  | ((with_reducible refine' w_inTS ?s0 ?q); (case s0 => assumption))
  | with_reducible refine w_par ?_
  | with_reducible refine w_parEnd ?_
  | with_reducible refine w_fld ?_
  | with_reducible refine w_e1 ?_
  | with_reducible refine w_e2 ?_
  | with_reducible refine w_par3 ?_
  | with_reducible refine w_parEnd3 ?_
  | ((with_reducible refine' w_upper ?s0 ?q); (case s0 => first | assumption | omega | decide +kernel))
  | dsimp only [wipe, List.set_cons_zero, List.set_cons_succ])
local macro_rules | `(tactic| walk_at "w") => `(tactic| repeat walk_at "w1")
def es_values (y : V) : List (Str × List (Str × V)) := [(("InvalidName" : Str), [(("value" : Str), y)]), (("InvalidText" : Str), [(("value" : Str), y)]), (("InvalidLevel" : Str), [(("value" : Str), y)]), (("InvalidView" : Str), [(("value" : Str), y)]), (("InvalidCell" : Str), [(("value" : Str), y)]), (("InvalidAmount" : Str), [(("value" : Str), y)]), (("InvalidTimes" : Str), [(("value" : Str), y)]), (("InvalidMeasure" : Str), [(("value" : Str), y)]), (("NotACondition" : Str), [(("value" : Str), y)]), (("NotAShape" : Str), [(("value" : Str), y)]), (("NotASchema" : Str), [(("value" : Str), y)]), (("NotACube" : Str), [(("value" : Str), y)]), (("NotADataset" : Str), [(("value" : Str), y)]), (("NotAWarehouse" : Str), [(("value" : Str), y)]), (("InvalidText" : Str), [(("value" : Str), y)]), (("NotACube" : Str), [(("value" : Str), y)]), (("InvalidTimes" : Str), [(("value" : Str), y)])]
def sp_values (K : PySem.W.Frag) : Sp := fun vs H Q _ => ∃ y, vs = [y] ∧ ∀ p ws J, H p = none → Same H J → J p = some (.lst ws) → AllE K J ws (es_values y) → Q (.ref p) J
abbrev s__law_values : Stmt := topS 60
theorem sc__law_values : FnScope ["thing", "found"] ["thing"] (defScope s__law_values) := ⟨rfl, rfl, rfl, by decide +kernel, rfl, by decide +kernel, by decide +kernel⟩
section
variable {P : Program} {w : World} {K : PySem.W.Frag} {mg : Str → Option Value} {base : Heap}
theorem ok__law_values {f : Addr} {fd : FuncData} (F : Fun K "_law_values" "_law_values" s__law_values f fd) (T : Txt K mg) (EE : Errs P w K mg base) : FnOk P w K mg base CX0 3 f fd ["thing"] (sp_values K) := by
  refine F.ok sc__law_values (fun vs H Q E h => ?_) (fun cdv A outer s H vs Q E hr h => ?_)
  · obtain ⟨y, rfl, _⟩ := h
    rfl
  · obtain ⟨y, rfl, q⟩ := h
    refine ⟨_, (pss_cons (ps_set (i := 1) sc__law_values.nd rfl (by first | exact Or.inl rfl | exact Or.inr rfl) (pe_lst (pa_cons (pe_e1 (EE.m1 "InvalidName" "value" (by decide +kernel)) hr (by decide) (by rfl) (pa_cons (pv 0) pa_nil)) (pa_cons (pe_e1 (EE.m1 "InvalidText" "value" (by decide +kernel)) hr (by decide) (by rfl) (pa_cons (pv 0) pa_nil)) (pa_cons (pe_e1 (EE.m1 "InvalidLevel" "value" (by decide +kernel)) hr (by decide) (by rfl) (pa_cons (pv 0) pa_nil)) (pa_cons (pe_e1 (EE.m1 "InvalidView" "value" (by decide +kernel)) hr (by decide) (by rfl) (pa_cons (pv 0) pa_nil)) (pa_cons (pe_e1 (EE.m1 "InvalidCell" "value" (by decide +kernel)) hr (by decide) (by rfl) (pa_cons (pv 0) pa_nil)) pa_nil)))))))
  (pss_cons (ps_set (i := 1) sc__law_values.nd rfl (by first | exact Or.inl rfl | exact Or.inr rfl) (pe_op op_cat (pv 1) (pe_lst (pa_cons (pe_e1 (EE.m1 "InvalidAmount" "value" (by decide +kernel)) hr (by decide) (by rfl) (pa_cons (pv 0) pa_nil)) (pa_cons (pe_e1 (EE.m1 "InvalidTimes" "value" (by decide +kernel)) hr (by decide) (by rfl) (pa_cons (pv 0) pa_nil)) (pa_cons (pe_e1 (EE.m1 "InvalidMeasure" "value" (by decide +kernel)) hr (by decide) (by rfl) (pa_cons (pv 0) pa_nil)) (pa_cons (pe_e1 (EE.m1 "NotACondition" "value" (by decide +kernel)) hr (by decide) (by rfl) (pa_cons (pv 0) pa_nil)) pa_nil)))))))
  (pss_cons (ps_set (i := 1) sc__law_values.nd rfl (by first | exact Or.inl rfl | exact Or.inr rfl) (pe_op op_cat (pv 1) (pe_lst (pa_cons (pe_e1 (EE.m1 "NotAShape" "value" (by decide +kernel)) hr (by decide) (by rfl) (pa_cons (pv 0) pa_nil)) (pa_cons (pe_e1 (EE.m1 "NotASchema" "value" (by decide +kernel)) hr (by decide) (by rfl) (pa_cons (pv 0) pa_nil)) (pa_cons (pe_e1 (EE.m1 "NotACube" "value" (by decide +kernel)) hr (by decide) (by rfl) (pa_cons (pv 0) pa_nil)) (pa_cons (pe_e1 (EE.m1 "NotADataset" "value" (by decide +kernel)) hr (by decide) (by rfl) (pa_cons (pv 0) pa_nil)) pa_nil)))))))
  (pss_one (ps_ret (pe_op op_cat (pv 1) (pe_lst (pa_cons (pe_e1 (EE.m1 "NotAWarehouse" "value" (by decide +kernel)) hr (by decide) (by rfl) (pa_cons (pv 0) pa_nil)) (pa_cons (pe_e1k (EE.m1 "InvalidText" "value" (by decide +kernel)) hr (by decide) (by rfl) (pk_cons (pv 0) pk_nil)) (pa_cons (pe_e1k (EE.m1 "NotACube" "value" (by decide +kernel)) hr (by decide) (by rfl) (pk_cons (pv 0) pk_nil)) (pa_cons (pe_e1k (EE.m1 "InvalidTimes" "value" (by decide +kernel)) hr (by decide) (by rfl) (pk_cons (pv 0) pk_nil)) pa_nil))))))))))), ?_⟩
    walk_at "w0"
    refine seq_cut (fun σ J => ∃ p ws, σ = [some y, some (.ref p)] ∧ H p = none ∧ Same H J ∧ J p = some (.lst ws) ∧ ws.length = 5 ∧ AllE K J ws ([(("InvalidName" : Str), [(("value" : Str), y)]), (("InvalidText" : Str), [(("value" : Str), y)]), (("InvalidLevel" : Str), [(("value" : Str), y)]), (("InvalidView" : Str), [(("value" : Str), y)]), (("InvalidCell" : Str), [(("value" : Str), y)])] : List (Str × List (Str × V)))) (fun N hN => ?_) ?_
    · walk_at "w"
      have g0 : AllE K H [] [] := .nil
      have t0 : Same H H := Same.refl _
      refine w_aE1 fun a1 L1 n1 s1 e1 => ?_
      have g1 := g0.snoc (x := "InvalidName") s1 (by decide +kernel) e1
      have t1 := t0.trans s1
      walk_at "w"
      refine w_aE1 fun a2 L2 n2 s2 e2 => ?_
      have g2 := g1.snoc (x := "InvalidText") s2 (by decide +kernel) e2
      have t2 := t1.trans s2
      walk_at "w"
      refine w_aE1 fun a3 L3 n3 s3 e3 => ?_
      have g3 := g2.snoc (x := "InvalidLevel") s3 (by decide +kernel) e3
      have t3 := t2.trans s3
      walk_at "w"
      refine w_aE1 fun a4 L4 n4 s4 e4 => ?_
      have g4 := g3.snoc (x := "InvalidView") s4 (by decide +kernel) e4
      have t4 := t3.trans s4
      walk_at "w"
      refine w_aE1 fun a5 L5 n5 s5 e5 => ?_
      have g5 := g4.snoc (x := "InvalidCell") s5 (by decide +kernel) e5
      have t5 := t4.trans s5
      walk_at "w"
      refine w_newL rfl fun p1 M1 c1 r1 h1 => ?_
      walk_at "w"
      exact hN _ _ ⟨p1, _, rfl, Same.free t5 c1, t5.trans r1, h1, rfl, g5.same r1⟩
    rintro _ J ⟨p, ws, rfl, np, z0, hp, hl, gg⟩
    refine seq_cut (fun σ J => ∃ p ws, σ = [some y, some (.ref p)] ∧ H p = none ∧ Same H J ∧ J p = some (.lst ws) ∧ ws.length = 9 ∧ AllE K J ws ([(("InvalidName" : Str), [(("value" : Str), y)]), (("InvalidText" : Str), [(("value" : Str), y)]), (("InvalidLevel" : Str), [(("value" : Str), y)]), (("InvalidView" : Str), [(("value" : Str), y)]), (("InvalidCell" : Str), [(("value" : Str), y)]), (("InvalidAmount" : Str), [(("value" : Str), y)]), (("InvalidTimes" : Str), [(("value" : Str), y)]), (("InvalidMeasure" : Str), [(("value" : Str), y)]), (("NotACondition" : Str), [(("value" : Str), y)])] : List (Str × List (Str × V)))) (fun N hN => ?_) ?_
    · walk_at "w"
      have g0 : AllE K J [] [] := .nil
      have t0 : Same J J := Same.refl _
      refine w_aE1 fun a1 L1 n1 s1 e1 => ?_
      have g1 := g0.snoc (x := "InvalidAmount") s1 (by decide +kernel) e1
      have t1 := t0.trans s1
      walk_at "w"
      refine w_aE1 fun a2 L2 n2 s2 e2 => ?_
      have g2 := g1.snoc (x := "InvalidTimes") s2 (by decide +kernel) e2
      have t2 := t1.trans s2
      walk_at "w"
      refine w_aE1 fun a3 L3 n3 s3 e3 => ?_
      have g3 := g2.snoc (x := "InvalidMeasure") s3 (by decide +kernel) e3
      have t3 := t2.trans s3
      walk_at "w"
      refine w_aE1 fun a4 L4 n4 s4 e4 => ?_
      have g4 := g3.snoc (x := "NotACondition") s4 (by decide +kernel) e4
      have t4 := t3.trans s4
      walk_at "w"
      refine w_newL rfl fun p1 M1 c1 r1 h1 => ?_
      walk_at "w"
      refine w_cat ((t4.trans r1) _ _ hp) h1 (by rw [hl]; exact Nat.le_of_ble_eq_true rfl) fun p2 M2 c2 r2 h2 => ?_
      walk_at "w"
      have zz := z0.trans (t4.trans r1)
      have gz := paired_app (gg.same ((t4.trans r1).trans r2)) (g4.same (r1.trans r2))
      exact hN _ _ ⟨p2, _, rfl, Same.free zz c2, zz.trans r2, h2, by rw [List.length_append, hl]; rfl, gz⟩
    rintro _ J ⟨p, ws, rfl, np, z0, hp, hl, gg⟩
    refine seq_cut (fun σ J => ∃ p ws, σ = [some y, some (.ref p)] ∧ H p = none ∧ Same H J ∧ J p = some (.lst ws) ∧ ws.length = 13 ∧ AllE K J ws ([(("InvalidName" : Str), [(("value" : Str), y)]), (("InvalidText" : Str), [(("value" : Str), y)]), (("InvalidLevel" : Str), [(("value" : Str), y)]), (("InvalidView" : Str), [(("value" : Str), y)]), (("InvalidCell" : Str), [(("value" : Str), y)]), (("InvalidAmount" : Str), [(("value" : Str), y)]), (("InvalidTimes" : Str), [(("value" : Str), y)]), (("InvalidMeasure" : Str), [(("value" : Str), y)]), (("NotACondition" : Str), [(("value" : Str), y)]), (("NotAShape" : Str), [(("value" : Str), y)]), (("NotASchema" : Str), [(("value" : Str), y)]), (("NotACube" : Str), [(("value" : Str), y)]), (("NotADataset" : Str), [(("value" : Str), y)])] : List (Str × List (Str × V)))) (fun N hN => ?_) ?_
    · walk_at "w"
      have g0 : AllE K J [] [] := .nil
      have t0 : Same J J := Same.refl _
      refine w_aE1 fun a1 L1 n1 s1 e1 => ?_
      have g1 := g0.snoc (x := "NotAShape") s1 (by decide +kernel) e1
      have t1 := t0.trans s1
      walk_at "w"
      refine w_aE1 fun a2 L2 n2 s2 e2 => ?_
      have g2 := g1.snoc (x := "NotASchema") s2 (by decide +kernel) e2
      have t2 := t1.trans s2
      walk_at "w"
      refine w_aE1 fun a3 L3 n3 s3 e3 => ?_
      have g3 := g2.snoc (x := "NotACube") s3 (by decide +kernel) e3
      have t3 := t2.trans s3
      walk_at "w"
      refine w_aE1 fun a4 L4 n4 s4 e4 => ?_
      have g4 := g3.snoc (x := "NotADataset") s4 (by decide +kernel) e4
      have t4 := t3.trans s4
      walk_at "w"
      refine w_newL rfl fun p1 M1 c1 r1 h1 => ?_
      walk_at "w"
      refine w_cat ((t4.trans r1) _ _ hp) h1 (by rw [hl]; exact Nat.le_of_ble_eq_true rfl) fun p2 M2 c2 r2 h2 => ?_
      walk_at "w"
      have zz := z0.trans (t4.trans r1)
      have gz := paired_app (gg.same ((t4.trans r1).trans r2)) (g4.same (r1.trans r2))
      exact hN _ _ ⟨p2, _, rfl, Same.free zz c2, zz.trans r2, h2, by rw [List.length_append, hl]; rfl, gz⟩
    rintro _ J ⟨p, ws, rfl, np, z0, hp, hl, gg⟩
    walk_at "w"
    have g0 : AllE K J [] [] := .nil
    have t0 : Same J J := Same.refl _
    refine w_aE1 fun a1 L1 n1 s1 e1 => ?_
    have g1 := g0.snoc (x := "NotAWarehouse") s1 (by decide +kernel) e1
    have t1 := t0.trans s1
    walk_at "w"
    refine w_aE1 fun a2 L2 n2 s2 e2 => ?_
    have g2 := g1.snoc (x := "InvalidText") s2 (by decide +kernel) e2
    have t2 := t1.trans s2
    walk_at "w"
    refine w_aE1 fun a3 L3 n3 s3 e3 => ?_
    have g3 := g2.snoc (x := "NotACube") s3 (by decide +kernel) e3
    have t3 := t2.trans s3
    walk_at "w"
    refine w_aE1 fun a4 L4 n4 s4 e4 => ?_
    have g4 := g3.snoc (x := "InvalidTimes") s4 (by decide +kernel) e4
    have t4 := t3.trans s4
    walk_at "w"
    refine w_newL rfl fun p1 M1 c1 r1 h1 => ?_
    walk_at "w"
    refine w_cat ((t4.trans r1) _ _ hp) h1 (by rw [hl]; exact Nat.le_of_ble_eq_true rfl) fun p2 M2 c2 r2 h2 => ?_
    walk_at "w"
    have zz := z0.trans (t4.trans r1)
    have gz := paired_app (gg.same ((t4.trans r1).trans r2)) (g4.same (r1.trans r2))
    exact q p2 _ M2 (Same.free zz c2) (zz.trans r2) h2 gz
end

end RT
set_option Elab.async false
set_option linter.all false
set_option maxRecDepth 100000
set_option maxHeartbeats 4000000
namespace RT
open PySem PySem.Spec PyProof.Rows L2
local macro_rules | `(tactic| walk_at "w0") => `(tactic| dsimp only [L2.start, cxOf, Cx.nox, Cx.wish, List.map, List.length_cons, List.length_nil, List.replicate_succ, List.replicate_zero, List.cons_append, List.nil_append, Nat.reduceAdd, Nat.reduceSub, List.set_cons_zero, List.set_cons_succ])
local macro_rules | `(tactic| walk_at "w1") => `(tactic| first
  | with_reducible refine w_seq ?_
  | with_reducible refine w_asg ?_
  | with_reducible refine w_var rfl ?_
  | with_reducible refine w_c ?_
  | with_reducible refine w_op ?_
  | with_reducible refine w_cons ?_
  | with_reducible refine w_nil ?_
  | with_reducible refine w_gname ?_
  | with_reducible refine w_cb ?_
  | with_reducible refine w_I0 ?_
  | with_reducible refine w_bl ?_
  | ((with_reducible refine' w_ixL ?s0 ?s1 ?q); (case s0 => assumption); (case s1 => rfl))
  | ((with_reducible refine' w_ixT ?s0 ?s1 ?q); (case s0 => assumption); (case s1 => rfl))
  | with_reducible refine w_gsub ?_
  | with_reducible refine w_ifS ?_
  | with_reducible refine w_test ?_
  | with_reducible refine w_call ?_
  | with_reducible refine w_ret ?_
  | with_reducible refine w_int1 ?_
  | with_reducible refine w_int ?_
  | with_reducible refine w_next ?_
  | with_reducible refine w_drop ?_
  | ((with_reducible refine' w_mod ?s0 ?q); (case s0 => omega))
  | ((with_reducible refine' w_div ?s0 ?q); (case s0 => omega))
  | ((with_reducible refine' w_mul ?s0 ?q); (case s0 => omega))
  | ((with_reducible refine' w_pow ?s0 ?q); (case s0 => decide))
  | with_reducible refine w_B ?_
  | with_reducible refine w_and ?_
  | with_reducible refine w_or ?_
  | with_reducible refine w_not ?_
  | with_reducible refine w_T ?_
  | with_reducible refine w_F ?_
  | with_reducible refine w_nT ?_
  | with_reducible refine w_nF ?_
  | with_reducible refine w_un ?_
  | with_reducible refine w_U ?_
  | with_reducible refine w_if ?_
  | with_reducible refine w_lst ?_
  | with_reducible refine w_tup ?_
  | with_reducible refine w_sl ?_
  | with_reducible refine w_part ?_
  | with_reducible refine w_nopart ?_
  | with_reducible refine w_eqI ?_
  | with_reducible refine w_neI ?_
  | with_reducible refine w_eqS ?_
  | with_reducible refine w_neS ?_
  | with_reducible refine w_abs ?_
  | with_reducible refine w_max2 ?_
  | with_reducible refine w_min2 ?_
  | ((with_reducible refine' w_lenL ?s0 ?q); (case s0 => assumption))
  | ((with_reducible refine' w_lenH ?s0 ?q); (case s0 => assumption))
  | ((with_reducible refine' w_lenT ?s0 ?q); (case s0 => assumption))
  | ((with_reducible refine' w_lenS ?s0 ?q); (case s0 => first | assumption | omega | decide +kernel))
  | with_reducible refine w_inC ?_
  | with_reducible refine w_ninC ?_
  | with_reducible refine w_m1 ?_
  | with_reducible refine w_m0 ?_
  | with_reducible refine w_isstr ?_
  | with_reducible refine w_andV ?_
  | with_reducible refine w_orV ?_
  | with_reducible refine w_notV ?_
  | with_reducible refine w_chain ?_
  | with_reducible refine w_retN ?_
  | with_reducible refine w_break ?_
  | with_reducible refine w_cont ?_
  | with_reducible refine w_yes ?_
  | with_reducible refine w_for ?_
  | with_reducible refine w_lc ?_
  | with_reducible refine w_iList ?_
  | with_reducible refine w_iTup ?_
  | with_reducible refine w_iStr ?_
  | with_reducible refine w_iR1 ?_
  | with_reducible refine w_iR2 ?_
  | ((with_reducible refine' w_onL ?s0 ?q); (case s0 => assumption))
  | ((with_reducible refine' w_onQ ?s0 ?q); (case s0 => assumption))
  | ((with_reducible refine' w_onT ?s0 ?q); (case s0 => assumption))
  | ((with_reducible refine' w_onU ?s0 ?q); (case s0 => assumption))
  | with_reducible refine w_onS ?_
  | ((with_reducible refine' w_onR1 ?s0 ?q); (case s0 => omega))
  | ((with_reducible refine' w_onR2 ?s0 ?q); (case s0 => omega))
  | with_reducible refine w_revL ?_
  | ((with_reducible refine' w_all ?s0 ?q); (case s0 => assumption))
  | ((with_reducible refine' w_any ?s0 ?q); (case s0 => assumption))
  | with_reducible refine w_bm ?_
  | with_reducible refine w_bm0 ?_
  | ((with_reducible refine' w_islst ?s0 ?q); (case s0 => assumption))
  | with_reducible refine w_kw ?_
  | ((with_reducible refine' w_isi ?s0 ?s1 ?q); (case s0 => assumption); (case s1 => assumption))
  | ((with_reducible refine' w_addS ?s0 ?q); (case s0 => first | omega | decide +kernel))
  | with_reducible refine w_dnew ?_
  | with_reducible refine w_pnil ?_
  | with_reducible refine w_pcons ?_
  | ((with_reducible refine' w_slS ?s0 ?q); (case s0 => first | assumption | omega))
  | ((with_reducible refine' w_inLS ?s0 ?q); (case s0 => assumption))
  | ((with_reducible refine' w_ninLS ?s0 ?q); (case s0 => assumption))
  | ((with_reducible refine' w_inTS ?s0 ?q); (case s0 => assumption))
  | with_reducible refine w_par ?_
  | with_reducible refine w_parEnd ?_
  | with_reducible refine w_fld ?_
  | with_reducible refine w_e1 ?_
  | with_reducible refine w_e2 ?_
  | with_reducible refine w_par3 ?_
  | with_reducible refine w_parEnd3 ?_
  | ((with_reducible refine' w_upper ?s0 ?q); (case s0 => first | assumption | omega | decide +kernel))
  | dsimp only [wipe, List.set_cons_zero, List.set_cons_succ])
local macro_rules | `(tactic| walk_at "w") => `(tactic| repeat walk_at "w1")
def es_indexes (y : V) : List (Str × List (Str × V)) := [(("InvalidLinks" : Str), [(("index" : Str), y)]), (("InvalidMarks" : Str), [(("index" : Str), y)]), (("InvalidRules" : Str), [(("index" : Str), y)]), (("InvalidMembers" : Str), [(("index" : Str), y)]), (("InvalidSchemas" : Str), [(("index" : Str), y)]), (("InvalidHierarchies" : Str), [(("index" : Str), y)]), (("InvalidFacts" : Str), [(("index" : Str), y)]), (("InvalidStored" : Str), [(("index" : Str), y)]), (("InvalidWanted" : Str), [(("index" : Str), y)]), (("InvalidPrices" : Str), [(("index" : Str), y)]), (("InvalidShapes" : Str), [(("index" : Str), y)]), (("InvalidRows" : Str), [(("index" : Str), y)]), (("InvalidGoal" : Str), [(("index" : Str), y)]), (("InvalidDeed" : Str), [(("index" : Str), y)]), (("InvalidDeed" : Str), [(("index" : Str), y)]), (("InvalidLinks" : Str), [(("index" : Str), y)]), (("InvalidGoal" : Str), [(("index" : Str), y)])]
def sp_indexes (K : PySem.W.Frag) : Sp := fun vs H Q _ => ∃ y, vs = [y] ∧ ∀ p ws J, H p = none → Same H J → J p = some (.lst ws) → AllE K J ws (es_indexes y) → Q (.ref p) J
abbrev s__law_indexes : Stmt := topS 61
theorem sc__law_indexes : FnScope ["thing", "found"] ["thing"] (defScope s__law_indexes) := ⟨rfl, rfl, rfl, by decide +kernel, rfl, by decide +kernel, by decide +kernel⟩
section
variable {P : Program} {w : World} {K : PySem.W.Frag} {mg : Str → Option Value} {base : Heap}
theorem ok__law_indexes {f : Addr} {fd : FuncData} (F : Fun K "_law_indexes" "_law_indexes" s__law_indexes f fd) (T : Txt K mg) (EE : Errs P w K mg base) : FnOk P w K mg base CX0 3 f fd ["thing"] (sp_indexes K) := by
  refine F.ok sc__law_indexes (fun vs H Q E h => ?_) (fun cdv A outer s H vs Q E hr h => ?_)
  · obtain ⟨y, rfl, _⟩ := h
    rfl
  · obtain ⟨y, rfl, q⟩ := h
    refine ⟨_, (pss_cons (ps_set (i := 1) sc__law_indexes.nd rfl (by first | exact Or.inl rfl | exact Or.inr rfl) (pe_lst (pa_cons (pe_e1 (EE.m1 "InvalidLinks" "index" (by decide +kernel)) hr (by decide) (by rfl) (pa_cons (pv 0) pa_nil)) (pa_cons (pe_e1 (EE.m1 "InvalidMarks" "index" (by decide +kernel)) hr (by decide) (by rfl) (pa_cons (pv 0) pa_nil)) (pa_cons (pe_e1 (EE.m1 "InvalidRules" "index" (by decide +kernel)) hr (by decide) (by rfl) (pa_cons (pv 0) pa_nil)) pa_nil)))))
  (pss_cons (ps_set (i := 1) sc__law_indexes.nd rfl (by first | exact Or.inl rfl | exact Or.inr rfl) (pe_op op_cat (pv 1) (pe_lst (pa_cons (pe_e1 (EE.m1 "InvalidMembers" "index" (by decide +kernel)) hr (by decide) (by rfl) (pa_cons (pv 0) pa_nil)) (pa_cons (pe_e1 (EE.m1 "InvalidSchemas" "index" (by decide +kernel)) hr (by decide) (by rfl) (pa_cons (pv 0) pa_nil)) pa_nil)))))
  (pss_cons (ps_set (i := 1) sc__law_indexes.nd rfl (by first | exact Or.inl rfl | exact Or.inr rfl) (pe_op op_cat (pv 1) (pe_lst (pa_cons (pe_e1 (EE.m1 "InvalidHierarchies" "index" (by decide +kernel)) hr (by decide) (by rfl) (pa_cons (pv 0) pa_nil)) (pa_cons (pe_e1 (EE.m1 "InvalidFacts" "index" (by decide +kernel)) hr (by decide) (by rfl) (pa_cons (pv 0) pa_nil)) pa_nil)))))
  (pss_cons (ps_set (i := 1) sc__law_indexes.nd rfl (by first | exact Or.inl rfl | exact Or.inr rfl) (pe_op op_cat (pv 1) (pe_lst (pa_cons (pe_e1 (EE.m1 "InvalidStored" "index" (by decide +kernel)) hr (by decide) (by rfl) (pa_cons (pv 0) pa_nil)) (pa_cons (pe_e1 (EE.m1 "InvalidWanted" "index" (by decide +kernel)) hr (by decide) (by rfl) (pa_cons (pv 0) pa_nil)) pa_nil)))))
  (pss_cons (ps_set (i := 1) sc__law_indexes.nd rfl (by first | exact Or.inl rfl | exact Or.inr rfl) (pe_op op_cat (pv 1) (pe_lst (pa_cons (pe_e1 (EE.m1 "InvalidPrices" "index" (by decide +kernel)) hr (by decide) (by rfl) (pa_cons (pv 0) pa_nil)) (pa_cons (pe_e1 (EE.m1 "InvalidShapes" "index" (by decide +kernel)) hr (by decide) (by rfl) (pa_cons (pv 0) pa_nil)) (pa_cons (pe_e1 (EE.m1 "InvalidRows" "index" (by decide +kernel)) hr (by decide) (by rfl) (pa_cons (pv 0) pa_nil)) (pa_cons (pe_e1 (EE.m1 "InvalidGoal" "index" (by decide +kernel)) hr (by decide) (by rfl) (pa_cons (pv 0) pa_nil)) pa_nil)))))))
  (pss_one (ps_ret (pe_op op_cat (pv 1) (pe_lst (pa_cons (pe_e1 (EE.m1 "InvalidDeed" "index" (by decide +kernel)) hr (by decide) (by rfl) (pa_cons (pv 0) pa_nil)) (pa_cons (pe_e1k (EE.m1 "InvalidDeed" "index" (by decide +kernel)) hr (by decide) (by rfl) (pk_cons (pv 0) pk_nil)) (pa_cons (pe_e1k (EE.m1 "InvalidLinks" "index" (by decide +kernel)) hr (by decide) (by rfl) (pk_cons (pv 0) pk_nil)) (pa_cons (pe_e1k (EE.m1 "InvalidGoal" "index" (by decide +kernel)) hr (by decide) (by rfl) (pk_cons (pv 0) pk_nil)) pa_nil))))))))))))), ?_⟩
    walk_at "w0"
    refine seq_cut (fun σ J => ∃ p ws, σ = [some y, some (.ref p)] ∧ H p = none ∧ Same H J ∧ J p = some (.lst ws) ∧ ws.length = 3 ∧ AllE K J ws ([(("InvalidLinks" : Str), [(("index" : Str), y)]), (("InvalidMarks" : Str), [(("index" : Str), y)]), (("InvalidRules" : Str), [(("index" : Str), y)])] : List (Str × List (Str × V)))) (fun N hN => ?_) ?_
    · walk_at "w"
      have g0 : AllE K H [] [] := .nil
      have t0 : Same H H := Same.refl _
      refine w_aE1 fun a1 L1 n1 s1 e1 => ?_
      have g1 := g0.snoc (x := "InvalidLinks") s1 (by decide +kernel) e1
      have t1 := t0.trans s1
      walk_at "w"
      refine w_aE1 fun a2 L2 n2 s2 e2 => ?_
      have g2 := g1.snoc (x := "InvalidMarks") s2 (by decide +kernel) e2
      have t2 := t1.trans s2
      walk_at "w"
      refine w_aE1 fun a3 L3 n3 s3 e3 => ?_
      have g3 := g2.snoc (x := "InvalidRules") s3 (by decide +kernel) e3
      have t3 := t2.trans s3
      walk_at "w"
      refine w_newL rfl fun p1 M1 c1 r1 h1 => ?_
      walk_at "w"
      exact hN _ _ ⟨p1, _, rfl, Same.free t3 c1, t3.trans r1, h1, rfl, g3.same r1⟩
    rintro _ J ⟨p, ws, rfl, np, z0, hp, hl, gg⟩
    refine seq_cut (fun σ J => ∃ p ws, σ = [some y, some (.ref p)] ∧ H p = none ∧ Same H J ∧ J p = some (.lst ws) ∧ ws.length = 5 ∧ AllE K J ws ([(("InvalidLinks" : Str), [(("index" : Str), y)]), (("InvalidMarks" : Str), [(("index" : Str), y)]), (("InvalidRules" : Str), [(("index" : Str), y)]), (("InvalidMembers" : Str), [(("index" : Str), y)]), (("InvalidSchemas" : Str), [(("index" : Str), y)])] : List (Str × List (Str × V)))) (fun N hN => ?_) ?_
    · walk_at "w"
      have g0 : AllE K J [] [] := .nil
      have t0 : Same J J := Same.refl _
      refine w_aE1 fun a1 L1 n1 s1 e1 => ?_
      have g1 := g0.snoc (x := "InvalidMembers") s1 (by decide +kernel) e1
      have t1 := t0.trans s1
      walk_at "w"
      refine w_aE1 fun a2 L2 n2 s2 e2 => ?_
      have g2 := g1.snoc (x := "InvalidSchemas") s2 (by decide +kernel) e2
      have t2 := t1.trans s2
      walk_at "w"
      refine w_newL rfl fun p1 M1 c1 r1 h1 => ?_
      walk_at "w"
      refine w_cat ((t2.trans r1) _ _ hp) h1 (by rw [hl]; exact Nat.le_of_ble_eq_true rfl) fun p2 M2 c2 r2 h2 => ?_
      walk_at "w"
      have zz := z0.trans (t2.trans r1)
      have gz := paired_app (gg.same ((t2.trans r1).trans r2)) (g2.same (r1.trans r2))
      exact hN _ _ ⟨p2, _, rfl, Same.free zz c2, zz.trans r2, h2, by rw [List.length_append, hl]; rfl, gz⟩
    rintro _ J ⟨p, ws, rfl, np, z0, hp, hl, gg⟩
    refine seq_cut (fun σ J => ∃ p ws, σ = [some y, some (.ref p)] ∧ H p = none ∧ Same H J ∧ J p = some (.lst ws) ∧ ws.length = 7 ∧ AllE K J ws ([(("InvalidLinks" : Str), [(("index" : Str), y)]), (("InvalidMarks" : Str), [(("index" : Str), y)]), (("InvalidRules" : Str), [(("index" : Str), y)]), (("InvalidMembers" : Str), [(("index" : Str), y)]), (("InvalidSchemas" : Str), [(("index" : Str), y)]), (("InvalidHierarchies" : Str), [(("index" : Str), y)]), (("InvalidFacts" : Str), [(("index" : Str), y)])] : List (Str × List (Str × V)))) (fun N hN => ?_) ?_
    · walk_at "w"
      have g0 : AllE K J [] [] := .nil
      have t0 : Same J J := Same.refl _
      refine w_aE1 fun a1 L1 n1 s1 e1 => ?_
      have g1 := g0.snoc (x := "InvalidHierarchies") s1 (by decide +kernel) e1
      have t1 := t0.trans s1
      walk_at "w"
      refine w_aE1 fun a2 L2 n2 s2 e2 => ?_
      have g2 := g1.snoc (x := "InvalidFacts") s2 (by decide +kernel) e2
      have t2 := t1.trans s2
      walk_at "w"
      refine w_newL rfl fun p1 M1 c1 r1 h1 => ?_
      walk_at "w"
      refine w_cat ((t2.trans r1) _ _ hp) h1 (by rw [hl]; exact Nat.le_of_ble_eq_true rfl) fun p2 M2 c2 r2 h2 => ?_
      walk_at "w"
      have zz := z0.trans (t2.trans r1)
      have gz := paired_app (gg.same ((t2.trans r1).trans r2)) (g2.same (r1.trans r2))
      exact hN _ _ ⟨p2, _, rfl, Same.free zz c2, zz.trans r2, h2, by rw [List.length_append, hl]; rfl, gz⟩
    rintro _ J ⟨p, ws, rfl, np, z0, hp, hl, gg⟩
    refine seq_cut (fun σ J => ∃ p ws, σ = [some y, some (.ref p)] ∧ H p = none ∧ Same H J ∧ J p = some (.lst ws) ∧ ws.length = 9 ∧ AllE K J ws ([(("InvalidLinks" : Str), [(("index" : Str), y)]), (("InvalidMarks" : Str), [(("index" : Str), y)]), (("InvalidRules" : Str), [(("index" : Str), y)]), (("InvalidMembers" : Str), [(("index" : Str), y)]), (("InvalidSchemas" : Str), [(("index" : Str), y)]), (("InvalidHierarchies" : Str), [(("index" : Str), y)]), (("InvalidFacts" : Str), [(("index" : Str), y)]), (("InvalidStored" : Str), [(("index" : Str), y)]), (("InvalidWanted" : Str), [(("index" : Str), y)])] : List (Str × List (Str × V)))) (fun N hN => ?_) ?_
    · walk_at "w"
      have g0 : AllE K J [] [] := .nil
      have t0 : Same J J := Same.refl _
      refine w_aE1 fun a1 L1 n1 s1 e1 => ?_
      have g1 := g0.snoc (x := "InvalidStored") s1 (by decide +kernel) e1
      have t1 := t0.trans s1
      walk_at "w"
      refine w_aE1 fun a2 L2 n2 s2 e2 => ?_
      have g2 := g1.snoc (x := "InvalidWanted") s2 (by decide +kernel) e2
      have t2 := t1.trans s2
      walk_at "w"
      refine w_newL rfl fun p1 M1 c1 r1 h1 => ?_
      walk_at "w"
      refine w_cat ((t2.trans r1) _ _ hp) h1 (by rw [hl]; exact Nat.le_of_ble_eq_true rfl) fun p2 M2 c2 r2 h2 => ?_
      walk_at "w"
      have zz := z0.trans (t2.trans r1)
      have gz := paired_app (gg.same ((t2.trans r1).trans r2)) (g2.same (r1.trans r2))
      exact hN _ _ ⟨p2, _, rfl, Same.free zz c2, zz.trans r2, h2, by rw [List.length_append, hl]; rfl, gz⟩
    rintro _ J ⟨p, ws, rfl, np, z0, hp, hl, gg⟩
    refine seq_cut (fun σ J => ∃ p ws, σ = [some y, some (.ref p)] ∧ H p = none ∧ Same H J ∧ J p = some (.lst ws) ∧ ws.length = 13 ∧ AllE K J ws ([(("InvalidLinks" : Str), [(("index" : Str), y)]), (("InvalidMarks" : Str), [(("index" : Str), y)]), (("InvalidRules" : Str), [(("index" : Str), y)]), (("InvalidMembers" : Str), [(("index" : Str), y)]), (("InvalidSchemas" : Str), [(("index" : Str), y)]), (("InvalidHierarchies" : Str), [(("index" : Str), y)]), (("InvalidFacts" : Str), [(("index" : Str), y)]), (("InvalidStored" : Str), [(("index" : Str), y)]), (("InvalidWanted" : Str), [(("index" : Str), y)]), (("InvalidPrices" : Str), [(("index" : Str), y)]), (("InvalidShapes" : Str), [(("index" : Str), y)]), (("InvalidRows" : Str), [(("index" : Str), y)]), (("InvalidGoal" : Str), [(("index" : Str), y)])] : List (Str × List (Str × V)))) (fun N hN => ?_) ?_
    · walk_at "w"
      have g0 : AllE K J [] [] := .nil
      have t0 : Same J J := Same.refl _
      refine w_aE1 fun a1 L1 n1 s1 e1 => ?_
      have g1 := g0.snoc (x := "InvalidPrices") s1 (by decide +kernel) e1
      have t1 := t0.trans s1
      walk_at "w"
      refine w_aE1 fun a2 L2 n2 s2 e2 => ?_
      have g2 := g1.snoc (x := "InvalidShapes") s2 (by decide +kernel) e2
      have t2 := t1.trans s2
      walk_at "w"
      refine w_aE1 fun a3 L3 n3 s3 e3 => ?_
      have g3 := g2.snoc (x := "InvalidRows") s3 (by decide +kernel) e3
      have t3 := t2.trans s3
      walk_at "w"
      refine w_aE1 fun a4 L4 n4 s4 e4 => ?_
      have g4 := g3.snoc (x := "InvalidGoal") s4 (by decide +kernel) e4
      have t4 := t3.trans s4
      walk_at "w"
      refine w_newL rfl fun p1 M1 c1 r1 h1 => ?_
      walk_at "w"
      refine w_cat ((t4.trans r1) _ _ hp) h1 (by rw [hl]; exact Nat.le_of_ble_eq_true rfl) fun p2 M2 c2 r2 h2 => ?_
      walk_at "w"
      have zz := z0.trans (t4.trans r1)
      have gz := paired_app (gg.same ((t4.trans r1).trans r2)) (g4.same (r1.trans r2))
      exact hN _ _ ⟨p2, _, rfl, Same.free zz c2, zz.trans r2, h2, by rw [List.length_append, hl]; rfl, gz⟩
    rintro _ J ⟨p, ws, rfl, np, z0, hp, hl, gg⟩
    walk_at "w"
    have g0 : AllE K J [] [] := .nil
    have t0 : Same J J := Same.refl _
    refine w_aE1 fun a1 L1 n1 s1 e1 => ?_
    have g1 := g0.snoc (x := "InvalidDeed") s1 (by decide +kernel) e1
    have t1 := t0.trans s1
    walk_at "w"
    refine w_aE1 fun a2 L2 n2 s2 e2 => ?_
    have g2 := g1.snoc (x := "InvalidDeed") s2 (by decide +kernel) e2
    have t2 := t1.trans s2
    walk_at "w"
    refine w_aE1 fun a3 L3 n3 s3 e3 => ?_
    have g3 := g2.snoc (x := "InvalidLinks") s3 (by decide +kernel) e3
    have t3 := t2.trans s3
    walk_at "w"
    refine w_aE1 fun a4 L4 n4 s4 e4 => ?_
    have g4 := g3.snoc (x := "InvalidGoal") s4 (by decide +kernel) e4
    have t4 := t3.trans s4
    walk_at "w"
    refine w_newL rfl fun p1 M1 c1 r1 h1 => ?_
    walk_at "w"
    refine w_cat ((t4.trans r1) _ _ hp) h1 (by rw [hl]; exact Nat.le_of_ble_eq_true rfl) fun p2 M2 c2 r2 h2 => ?_
    walk_at "w"
    have zz := z0.trans (t4.trans r1)
    have gz := paired_app (gg.same ((t4.trans r1).trans r2)) (g4.same (r1.trans r2))
    exact q p2 _ M2 (Same.free zz c2) (zz.trans r2) h2 gz
end
def es_states (y : V) : List (Str × List (Str × V)) := [(("UnknownMember" : Str), [(("value" : Str), y)]), (("MissingFact" : Str), [(("value" : Str), y)]), (("NotStored" : Str), [(("value" : Str), y)]), (("HasChildren" : Str), [(("value" : Str), y)]), (("HasFacts" : Str), [(("value" : Str), y)]), (("UnknownMember" : Str), [(("value" : Str), y)]), (("HasFacts" : Str), [(("value" : Str), y)])]
def sp_states (K : PySem.W.Frag) : Sp := fun vs H Q _ => ∃ y, vs = [y] ∧ ∀ p ws J, H p = none → Same H J → J p = some (.lst ws) → AllE K J ws (es_states y) → Q (.ref p) J
abbrev s__law_states : Stmt := topS 62
theorem sc__law_states : FnScope ["thing", "found"] ["thing"] (defScope s__law_states) := ⟨rfl, rfl, rfl, by decide +kernel, rfl, by decide +kernel, by decide +kernel⟩
section
variable {P : Program} {w : World} {K : PySem.W.Frag} {mg : Str → Option Value} {base : Heap}
theorem ok__law_states {f : Addr} {fd : FuncData} (F : Fun K "_law_states" "_law_states" s__law_states f fd) (T : Txt K mg) (EE : Errs P w K mg base) : FnOk P w K mg base CX0 3 f fd ["thing"] (sp_states K) := by
  refine F.ok sc__law_states (fun vs H Q E h => ?_) (fun cdv A outer s H vs Q E hr h => ?_)
  · obtain ⟨y, rfl, _⟩ := h
    rfl
  · obtain ⟨y, rfl, q⟩ := h
    refine ⟨_, (pss_cons (ps_set (i := 1) sc__law_states.nd rfl (by first | exact Or.inl rfl | exact Or.inr rfl) (pe_lst (pa_cons (pe_e1 (EE.m1 "UnknownMember" "value" (by decide +kernel)) hr (by decide) (by rfl) (pa_cons (pv 0) pa_nil)) (pa_cons (pe_e1 (EE.m1 "MissingFact" "value" (by decide +kernel)) hr (by decide) (by rfl) (pa_cons (pv 0) pa_nil)) (pa_cons (pe_e1 (EE.m1 "NotStored" "value" (by decide +kernel)) hr (by decide) (by rfl) (pa_cons (pv 0) pa_nil)) (pa_cons (pe_e1 (EE.m1 "HasChildren" "value" (by decide +kernel)) hr (by decide) (by rfl) (pa_cons (pv 0) pa_nil)) (pa_cons (pe_e1 (EE.m1 "HasFacts" "value" (by decide +kernel)) hr (by decide) (by rfl) (pa_cons (pv 0) pa_nil)) pa_nil)))))))
  (pss_one (ps_ret (pe_op op_cat (pv 1) (pe_lst (pa_cons (pe_e1k (EE.m1 "UnknownMember" "value" (by decide +kernel)) hr (by decide) (by rfl) (pk_cons (pv 0) pk_nil)) (pa_cons (pe_e1k (EE.m1 "HasFacts" "value" (by decide +kernel)) hr (by decide) (by rfl) (pk_cons (pv 0) pk_nil)) pa_nil))))))), ?_⟩
    walk_at "w0"
    refine seq_cut (fun σ J => ∃ p ws, σ = [some y, some (.ref p)] ∧ H p = none ∧ Same H J ∧ J p = some (.lst ws) ∧ ws.length = 5 ∧ AllE K J ws ([(("UnknownMember" : Str), [(("value" : Str), y)]), (("MissingFact" : Str), [(("value" : Str), y)]), (("NotStored" : Str), [(("value" : Str), y)]), (("HasChildren" : Str), [(("value" : Str), y)]), (("HasFacts" : Str), [(("value" : Str), y)])] : List (Str × List (Str × V)))) (fun N hN => ?_) ?_
    · walk_at "w"
      have g0 : AllE K H [] [] := .nil
      have t0 : Same H H := Same.refl _
      refine w_aE1 fun a1 L1 n1 s1 e1 => ?_
      have g1 := g0.snoc (x := "UnknownMember") s1 (by decide +kernel) e1
      have t1 := t0.trans s1
      walk_at "w"
      refine w_aE1 fun a2 L2 n2 s2 e2 => ?_
      have g2 := g1.snoc (x := "MissingFact") s2 (by decide +kernel) e2
      have t2 := t1.trans s2
      walk_at "w"
      refine w_aE1 fun a3 L3 n3 s3 e3 => ?_
      have g3 := g2.snoc (x := "NotStored") s3 (by decide +kernel) e3
      have t3 := t2.trans s3
      walk_at "w"
      refine w_aE1 fun a4 L4 n4 s4 e4 => ?_
      have g4 := g3.snoc (x := "HasChildren") s4 (by decide +kernel) e4
      have t4 := t3.trans s4
      walk_at "w"
      refine w_aE1 fun a5 L5 n5 s5 e5 => ?_
      have g5 := g4.snoc (x := "HasFacts") s5 (by decide +kernel) e5
      have t5 := t4.trans s5
      walk_at "w"
      refine w_newL rfl fun p1 M1 c1 r1 h1 => ?_
      walk_at "w"
      exact hN _ _ ⟨p1, _, rfl, Same.free t5 c1, t5.trans r1, h1, rfl, g5.same r1⟩
    rintro _ J ⟨p, ws, rfl, np, z0, hp, hl, gg⟩
    walk_at "w"
    have g0 : AllE K J [] [] := .nil
    have t0 : Same J J := Same.refl _
    refine w_aE1 fun a1 L1 n1 s1 e1 => ?_
    have g1 := g0.snoc (x := "UnknownMember") s1 (by decide +kernel) e1
    have t1 := t0.trans s1
    walk_at "w"
    refine w_aE1 fun a2 L2 n2 s2 e2 => ?_
    have g2 := g1.snoc (x := "HasFacts") s2 (by decide +kernel) e2
    have t2 := t1.trans s2
    walk_at "w"
    refine w_newL rfl fun p1 M1 c1 r1 h1 => ?_
    walk_at "w"
    refine w_cat ((t2.trans r1) _ _ hp) h1 (by rw [hl]; exact Nat.le_of_ble_eq_true rfl) fun p2 M2 c2 r2 h2 => ?_
    walk_at "w"
    have zz := z0.trans (t2.trans r1)
    have gz := paired_app (gg.same ((t2.trans r1).trans r2)) (g2.same (r1.trans r2))
    exact q p2 _ M2 (Same.free zz c2) (zz.trans r2) h2 gz
end

end RT
set_option Elab.async false
set_option linter.all false
set_option maxRecDepth 100000
set_option maxHeartbeats 4000000
namespace RT
open PySem PySem.Spec PyProof.Rows L2
local macro_rules | `(tactic| walk_at "w0") => `(tactic| dsimp only [L2.start, cxOf, Cx.nox, Cx.wish, List.map, List.length_cons, List.length_nil, List.replicate_succ, List.replicate_zero, List.cons_append, List.nil_append, Nat.reduceAdd, Nat.reduceSub, List.set_cons_zero, List.set_cons_succ])
local macro_rules | `(tactic| walk_at "w1") => `(tactic| first
  | with_reducible refine w_seq ?_
  | with_reducible refine w_asg ?_
  | with_reducible refine w_var rfl ?_
  | with_reducible refine w_c ?_
  | with_reducible refine w_op ?_
  | with_reducible refine w_cons ?_
  | with_reducible refine w_nil ?_
  | with_reducible refine w_gname ?_
  | with_reducible refine w_cb ?_
  | with_reducible refine w_I0 ?_
  | with_reducible refine w_bl ?_
  | ((with_reducible refine' w_ixL ?s0 ?s1 ?q); (case s0 => assumption); (case s1 => rfl))
  | ((with_reducible refine' w_ixT ?s0 ?s1 ?q); (case s0 => assumption); (case s1 => rfl))
  | with_reducible refine w_gsub ?_
  | with_reducible refine w_ifS ?_
  | with_reducible refine w_test ?_
  | with_reducible refine w_call ?_
  | with_reducible refine w_ret ?_
  | with_reducible refine w_int1 ?_
  | with_reducible refine w_int ?_
  | with_reducible refine w_next ?_
  | with_reducible refine w_drop ?_
  | ((with_reducible refine' w_mod ?s0 ?q); (case s0 => omega))
  | ((with_reducible refine' w_div ?s0 ?q); (case s0 => omega))
  | ((with_reducible refine' w_mul ?s0 ?q); (case s0 => omega))
  | ((with_reducible refine' w_pow ?s0 ?q); (case s0 => decide))
  | with_reducible refine w_B ?_
  | with_reducible refine w_and ?_
  | with_reducible refine w_or ?_
  | with_reducible refine w_not ?_
  | with_reducible refine w_T ?_
  | with_reducible refine w_F ?_
  | with_reducible refine w_nT ?_
  | with_reducible refine w_nF ?_
  | with_reducible refine w_un ?_
  | with_reducible refine w_U ?_
  | with_reducible refine w_if ?_
  | with_reducible refine w_lst ?_
  | with_reducible refine w_tup ?_
  | with_reducible refine w_sl ?_
  | with_reducible refine w_part ?_
  | with_reducible refine w_nopart ?_
  | with_reducible refine w_eqI ?_
  | with_reducible refine w_neI ?_
  | with_reducible refine w_eqS ?_
  | with_reducible refine w_neS ?_
  | with_reducible refine w_abs ?_
  | with_reducible refine w_max2 ?_
  | with_reducible refine w_min2 ?_
  | ((with_reducible refine' w_lenL ?s0 ?q); (case s0 => assumption))
  | ((with_reducible refine' w_lenH ?s0 ?q); (case s0 => assumption))
  | ((with_reducible refine' w_lenT ?s0 ?q); (case s0 => assumption))
  | ((with_reducible refine' w_lenS ?s0 ?q); (case s0 => first | assumption | omega | decide +kernel))
  | with_reducible refine w_inC ?_
  | with_reducible refine w_ninC ?_
  | with_reducible refine w_m1 ?_
  | with_reducible refine w_m0 ?_
  | with_reducible refine w_isstr ?_
  | with_reducible refine w_andV ?_
  | with_reducible refine w_orV ?_
  | with_reducible refine w_notV ?_
  | with_reducible refine w_chain ?_
  | with_reducible refine w_retN ?_
  | with_reducible refine w_break ?_
  | with_reducible refine w_cont ?_
  | with_reducible refine w_yes ?_
  | with_reducible refine w_for ?_
  | with_reducible refine w_lc ?_
  | with_reducible refine w_iList ?_
  | with_reducible refine w_iTup ?_
  | with_reducible refine w_iStr ?_
  | with_reducible refine w_iR1 ?_
  | with_reducible refine w_iR2 ?_
  | ((with_reducible refine' w_onL ?s0 ?q); (case s0 => assumption))
  | ((with_reducible refine' w_onQ ?s0 ?q); (case s0 => assumption))
  | ((with_reducible refine' w_onT ?s0 ?q); (case s0 => assumption))
  | ((with_reducible refine' w_onU ?s0 ?q); (case s0 => assumption))
  | with_reducible refine w_onS ?_
  | ((with_reducible refine' w_onR1 ?s0 ?q); (case s0 => omega))
  | ((with_reducible refine' w_onR2 ?s0 ?q); (case s0 => omega))
  | with_reducible refine w_revL ?_
  | ((with_reducible refine' w_all ?s0 ?q); (case s0 => assumption))
  | ((with_reducible refine' w_any ?s0 ?q); (case s0 => assumption))
  | with_reducible refine w_bm ?_
  | with_reducible refine w_bm0 ?_
  | ((with_reducible refine' w_islst ?s0 ?q); (case s0 => assumption))
  | with_reducible refine w_kw ?_
  | ((with_reducible refine' w_isi ?s0 ?s1 ?q); (case s0 => assumption); (case s1 => assumption))
  | ((with_reducible refine' w_addS ?s0 ?q); (case s0 => first | omega | decide +kernel))
  | with_reducible refine w_dnew ?_
  | with_reducible refine w_pnil ?_
  | with_reducible refine w_pcons ?_
  | ((with_reducible refine' w_slS ?s0 ?q); (case s0 => first | assumption | omega))
  | ((with_reducible refine' w_inLS ?s0 ?q); (case s0 => assumption))
  | ((with_reducible refine' w_ninLS ?s0 ?q); (case s0 => assumption))
  | ((with_reducible refine' w_inTS ?s0 ?q); (case s0 => assumption))
  | with_reducible refine w_par ?_
  | with_reducible refine w_parEnd ?_
  | with_reducible refine w_fld ?_
  | with_reducible refine w_e1 ?_
  | with_reducible refine w_e2 ?_
  | with_reducible refine w_par3 ?_
  | with_reducible refine w_parEnd3 ?_
  | ((with_reducible refine' w_upper ?s0 ?q); (case s0 => first | assumption | omega | decide +kernel))
  | dsimp only [wipe, List.set_cons_zero, List.set_cons_succ])
local macro_rules | `(tactic| walk_at "w") => `(tactic| repeat walk_at "w1")
def es_all (y z : V) : List (Str × List (Str × V)) := [(("InvalidName" : Str), [(("value" : Str), y)]), (("InvalidText" : Str), [(("value" : Str), y)]), (("InvalidLevel" : Str), [(("value" : Str), y)]), (("InvalidView" : Str), [(("value" : Str), y)]), (("InvalidCell" : Str), [(("value" : Str), y)]), (("InvalidAmount" : Str), [(("value" : Str), y)]), (("InvalidTimes" : Str), [(("value" : Str), y)]), (("InvalidMeasure" : Str), [(("value" : Str), y)]), (("NotACondition" : Str), [(("value" : Str), y)]), (("NotAShape" : Str), [(("value" : Str), y)]), (("NotASchema" : Str), [(("value" : Str), y)]), (("NotACube" : Str), [(("value" : Str), y)]), (("NotADataset" : Str), [(("value" : Str), y)]), (("NotAWarehouse" : Str), [(("value" : Str), y)]), (("InvalidLinks" : Str), [(("index" : Str), y)]), (("InvalidMarks" : Str), [(("index" : Str), y)]), (("InvalidRules" : Str), [(("index" : Str), y)]), (("InvalidMembers" : Str), [(("index" : Str), y)]), (("InvalidSchemas" : Str), [(("index" : Str), y)]), (("InvalidHierarchies" : Str), [(("index" : Str), y)]), (("InvalidFacts" : Str), [(("index" : Str), y)]), (("InvalidStored" : Str), [(("index" : Str), y)]), (("InvalidWanted" : Str), [(("index" : Str), y)]), (("InvalidPrices" : Str), [(("index" : Str), y)]), (("InvalidShapes" : Str), [(("index" : Str), y)]), (("InvalidRows" : Str), [(("index" : Str), y)]), (("InvalidGoal" : Str), [(("index" : Str), y)]), (("InvalidDeed" : Str), [(("index" : Str), y)]), (("UnknownMember" : Str), [(("value" : Str), y)]), (("MissingFact" : Str), [(("value" : Str), y)]), (("NotStored" : Str), [(("value" : Str), y)]), (("HasChildren" : Str), [(("value" : Str), y)]), (("HasFacts" : Str), [(("value" : Str), y)]), (("NothingToUndo" : Str), []), (("InvalidParents" : Str), [(("member" : Str), y)]), (("TwoAncestors" : Str), [(("member" : Str), y)]), (("BrokenRule" : Str), [(("index" : Str), z), (("member" : Str), y)]), (("NotAllowed" : Str), [(("value" : Str), y)]), (("NotDetermined" : Str), [(("blind_spot" : Str), y)]), (("NotComparable" : Str), []), (("OtherCube" : Str), []), (("TooMany" : Str), [(("limit" : Str), y)])]
def sp_all (K : PySem.W.Frag) : Sp := fun vs H Q _ => ∃ y z, vs = [y, z] ∧ ∀ p ws J, H p = none → Same H J → J p = some (.lst ws) → AllE K J ws (es_all y z) → Q (.ref p) J
abbrev s__law_all : Stmt := topS 68
theorem sc__law_all : FnScope ["thing", "other", "found"] ["thing", "other"] (defScope s__law_all) := ⟨rfl, rfl, rfl, by decide +kernel, rfl, by decide +kernel, by decide +kernel⟩
section
variable {P : Program} {w : World} {K : PySem.W.Frag} {mg : Str → Option Value} {base : Heap}
theorem ok__law_all {f : Addr} {fd : FuncData} (F : Fun K "_law_all" "_law_all" s__law_all f fd) (T : Txt K mg) (EE : Errs P w K mg base) : FnOk P w K mg base CX0 3 f fd ["thing", "other"] (sp_all K) := by
  refine F.ok sc__law_all (fun vs H Q E h => ?_) (fun cdv A outer s H vs Q E hr h => ?_)
  · obtain ⟨y, z, rfl, _⟩ := h
    rfl
  · obtain ⟨y, z, rfl, q⟩ := h
    refine ⟨_, (pss_cons (ps_set (i := 2) sc__law_all.nd rfl (by first | exact Or.inl rfl | exact Or.inr rfl) (pe_lst pa_nil))
  (pss_cons (ps_set (i := 2) sc__law_all.nd rfl (by first | exact Or.inl rfl | exact Or.inr rfl) (pe_op op_cat (pv 2) (pe_lst (pa_cons (pe_e1 (EE.m1 "InvalidName" "value" (by decide +kernel)) hr (by decide) (by rfl) (pa_cons (pv 0) pa_nil)) (pa_cons (pe_e1 (EE.m1 "InvalidText" "value" (by decide +kernel)) hr (by decide) (by rfl) (pa_cons (pv 0) pa_nil)) (pa_cons (pe_e1 (EE.m1 "InvalidLevel" "value" (by decide +kernel)) hr (by decide) (by rfl) (pa_cons (pv 0) pa_nil)) (pa_cons (pe_e1 (EE.m1 "InvalidView" "value" (by decide +kernel)) hr (by decide) (by rfl) (pa_cons (pv 0) pa_nil)) pa_nil)))))))
  (pss_cons (ps_set (i := 2) sc__law_all.nd rfl (by first | exact Or.inl rfl | exact Or.inr rfl) (pe_op op_cat (pv 2) (pe_lst (pa_cons (pe_e1 (EE.m1 "InvalidCell" "value" (by decide +kernel)) hr (by decide) (by rfl) (pa_cons (pv 0) pa_nil)) (pa_cons (pe_e1 (EE.m1 "InvalidAmount" "value" (by decide +kernel)) hr (by decide) (by rfl) (pa_cons (pv 0) pa_nil)) (pa_cons (pe_e1 (EE.m1 "InvalidTimes" "value" (by decide +kernel)) hr (by decide) (by rfl) (pa_cons (pv 0) pa_nil)) pa_nil))))))
  (pss_cons (ps_set (i := 2) sc__law_all.nd rfl (by first | exact Or.inl rfl | exact Or.inr rfl) (pe_op op_cat (pv 2) (pe_lst (pa_cons (pe_e1 (EE.m1 "InvalidMeasure" "value" (by decide +kernel)) hr (by decide) (by rfl) (pa_cons (pv 0) pa_nil)) (pa_cons (pe_e1 (EE.m1 "NotACondition" "value" (by decide +kernel)) hr (by decide) (by rfl) (pa_cons (pv 0) pa_nil)) (pa_cons (pe_e1 (EE.m1 "NotAShape" "value" (by decide +kernel)) hr (by decide) (by rfl) (pa_cons (pv 0) pa_nil)) (pa_cons (pe_e1 (EE.m1 "NotASchema" "value" (by decide +kernel)) hr (by decide) (by rfl) (pa_cons (pv 0) pa_nil)) pa_nil)))))))
  (pss_cons (ps_set (i := 2) sc__law_all.nd rfl (by first | exact Or.inl rfl | exact Or.inr rfl) (pe_op op_cat (pv 2) (pe_lst (pa_cons (pe_e1 (EE.m1 "NotACube" "value" (by decide +kernel)) hr (by decide) (by rfl) (pa_cons (pv 0) pa_nil)) (pa_cons (pe_e1 (EE.m1 "NotADataset" "value" (by decide +kernel)) hr (by decide) (by rfl) (pa_cons (pv 0) pa_nil)) (pa_cons (pe_e1 (EE.m1 "NotAWarehouse" "value" (by decide +kernel)) hr (by decide) (by rfl) (pa_cons (pv 0) pa_nil)) (pa_cons (pe_e1 (EE.m1 "InvalidLinks" "index" (by decide +kernel)) hr (by decide) (by rfl) (pa_cons (pv 0) pa_nil)) pa_nil)))))))
  (pss_cons (ps_set (i := 2) sc__law_all.nd rfl (by first | exact Or.inl rfl | exact Or.inr rfl) (pe_op op_cat (pv 2) (pe_lst (pa_cons (pe_e1 (EE.m1 "InvalidMarks" "index" (by decide +kernel)) hr (by decide) (by rfl) (pa_cons (pv 0) pa_nil)) (pa_cons (pe_e1 (EE.m1 "InvalidRules" "index" (by decide +kernel)) hr (by decide) (by rfl) (pa_cons (pv 0) pa_nil)) (pa_cons (pe_e1 (EE.m1 "InvalidMembers" "index" (by decide +kernel)) hr (by decide) (by rfl) (pa_cons (pv 0) pa_nil)) pa_nil))))))
  (pss_cons (ps_set (i := 2) sc__law_all.nd rfl (by first | exact Or.inl rfl | exact Or.inr rfl) (pe_op op_cat (pv 2) (pe_lst (pa_cons (pe_e1 (EE.m1 "InvalidSchemas" "index" (by decide +kernel)) hr (by decide) (by rfl) (pa_cons (pv 0) pa_nil)) (pa_cons (pe_e1 (EE.m1 "InvalidHierarchies" "index" (by decide +kernel)) hr (by decide) (by rfl) (pa_cons (pv 0) pa_nil)) (pa_cons (pe_e1 (EE.m1 "InvalidFacts" "index" (by decide +kernel)) hr (by decide) (by rfl) (pa_cons (pv 0) pa_nil)) pa_nil))))))
  (pss_cons (ps_set (i := 2) sc__law_all.nd rfl (by first | exact Or.inl rfl | exact Or.inr rfl) (pe_op op_cat (pv 2) (pe_lst (pa_cons (pe_e1 (EE.m1 "InvalidStored" "index" (by decide +kernel)) hr (by decide) (by rfl) (pa_cons (pv 0) pa_nil)) (pa_cons (pe_e1 (EE.m1 "InvalidWanted" "index" (by decide +kernel)) hr (by decide) (by rfl) (pa_cons (pv 0) pa_nil)) (pa_cons (pe_e1 (EE.m1 "InvalidPrices" "index" (by decide +kernel)) hr (by decide) (by rfl) (pa_cons (pv 0) pa_nil)) pa_nil))))))
  (pss_cons (ps_set (i := 2) sc__law_all.nd rfl (by first | exact Or.inl rfl | exact Or.inr rfl) (pe_op op_cat (pv 2) (pe_lst (pa_cons (pe_e1 (EE.m1 "InvalidShapes" "index" (by decide +kernel)) hr (by decide) (by rfl) (pa_cons (pv 0) pa_nil)) (pa_cons (pe_e1 (EE.m1 "InvalidRows" "index" (by decide +kernel)) hr (by decide) (by rfl) (pa_cons (pv 0) pa_nil)) (pa_cons (pe_e1 (EE.m1 "InvalidGoal" "index" (by decide +kernel)) hr (by decide) (by rfl) (pa_cons (pv 0) pa_nil)) (pa_cons (pe_e1 (EE.m1 "InvalidDeed" "index" (by decide +kernel)) hr (by decide) (by rfl) (pa_cons (pv 0) pa_nil)) pa_nil)))))))
  (pss_cons (ps_set (i := 2) sc__law_all.nd rfl (by first | exact Or.inl rfl | exact Or.inr rfl) (pe_op op_cat (pv 2) (pe_lst (pa_cons (pe_e1 (EE.m1 "UnknownMember" "value" (by decide +kernel)) hr (by decide) (by rfl) (pa_cons (pv 0) pa_nil)) (pa_cons (pe_e1 (EE.m1 "MissingFact" "value" (by decide +kernel)) hr (by decide) (by rfl) (pa_cons (pv 0) pa_nil)) (pa_cons (pe_e1 (EE.m1 "NotStored" "value" (by decide +kernel)) hr (by decide) (by rfl) (pa_cons (pv 0) pa_nil)) (pa_cons (pe_e1 (EE.m1 "HasChildren" "value" (by decide +kernel)) hr (by decide) (by rfl) (pa_cons (pv 0) pa_nil)) pa_nil)))))))
  (pss_cons (ps_set (i := 2) sc__law_all.nd rfl (by first | exact Or.inl rfl | exact Or.inr rfl) (pe_op op_cat (pv 2) (pe_lst (pa_cons (pe_e1 (EE.m1 "HasFacts" "value" (by decide +kernel)) hr (by decide) (by rfl) (pa_cons (pv 0) pa_nil)) (pa_cons (pe_e0 (EE.m0 "NothingToUndo" (by decide +kernel)) (by rfl)) (pa_cons (pe_e1 (EE.m1 "InvalidParents" "member" (by decide +kernel)) hr (by decide) (by rfl) (pa_cons (pv 0) pa_nil)) (pa_cons (pe_e1 (EE.m1 "TwoAncestors" "member" (by decide +kernel)) hr (by decide) (by rfl) (pa_cons (pv 0) pa_nil)) pa_nil)))))))
  (pss_cons (ps_set (i := 2) sc__law_all.nd rfl (by first | exact Or.inl rfl | exact Or.inr rfl) (pe_op op_cat (pv 2) (pe_lst (pa_cons (pe_e2 EE.m2 hr (by decide) (by rfl) (pa_cons (pv 0) (pa_cons (pv 1) pa_nil))) (pa_cons (pe_e1 (EE.m1 "NotAllowed" "value" (by decide +kernel)) hr (by decide) (by rfl) (pa_cons (pv 0) pa_nil)) (pa_cons (pe_e1 (EE.m1 "NotDetermined" "blind_spot" (by decide +kernel)) hr (by decide) (by rfl) (pa_cons (pv 0) pa_nil)) (pa_cons (pe_e0 (EE.m0 "NotComparable" (by decide +kernel)) (by rfl)) pa_nil)))))))
  (pss_cons (ps_set (i := 2) sc__law_all.nd rfl (by first | exact Or.inl rfl | exact Or.inr rfl) (pe_op op_cat (pv 2) (pe_lst (pa_cons (pe_e0 (EE.m0 "OtherCube" (by decide +kernel)) (by rfl)) (pa_cons (pe_e1 (EE.m1 "TooMany" "limit" (by decide +kernel)) hr (by decide) (by rfl) (pa_cons (pv 0) pa_nil)) pa_nil)))))
  (pss_one (ps_ret (pv 2)))))))))))))))), ?_⟩
    walk_at "w0"
    refine seq_cut (fun σ J => ∃ p ws, σ = [some y, some z, some (.ref p)] ∧ H p = none ∧ Same H J ∧ J p = some (.lst ws) ∧ ws.length = 0 ∧ AllE K J ws ([] : List (Str × List (Str × V)))) (fun N hN => ?_) ?_
    · walk_at "w"
      have g0 : AllE K H [] [] := .nil
      have t0 : Same H H := Same.refl _
      refine w_newL rfl fun p1 M1 c1 r1 h1 => ?_
      walk_at "w"
      exact hN _ _ ⟨p1, _, rfl, Same.free t0 c1, t0.trans r1, h1, rfl, g0.same r1⟩
    rintro _ J ⟨p, ws, rfl, np, z0, hp, hl, gg⟩
    refine seq_cut (fun σ J => ∃ p ws, σ = [some y, some z, some (.ref p)] ∧ H p = none ∧ Same H J ∧ J p = some (.lst ws) ∧ ws.length = 4 ∧ AllE K J ws ([(("InvalidName" : Str), [(("value" : Str), y)]), (("InvalidText" : Str), [(("value" : Str), y)]), (("InvalidLevel" : Str), [(("value" : Str), y)]), (("InvalidView" : Str), [(("value" : Str), y)])] : List (Str × List (Str × V)))) (fun N hN => ?_) ?_
    · walk_at "w"
      have g0 : AllE K J [] [] := .nil
      have t0 : Same J J := Same.refl _
      refine w_aE1 fun a1 L1 n1 s1 e1 => ?_
      have g1 := g0.snoc (x := "InvalidName") s1 (by decide +kernel) e1
      have t1 := t0.trans s1
      walk_at "w"
      refine w_aE1 fun a2 L2 n2 s2 e2 => ?_
      have g2 := g1.snoc (x := "InvalidText") s2 (by decide +kernel) e2
      have t2 := t1.trans s2
      walk_at "w"
      refine w_aE1 fun a3 L3 n3 s3 e3 => ?_
      have g3 := g2.snoc (x := "InvalidLevel") s3 (by decide +kernel) e3
      have t3 := t2.trans s3
      walk_at "w"
      refine w_aE1 fun a4 L4 n4 s4 e4 => ?_
      have g4 := g3.snoc (x := "InvalidView") s4 (by decide +kernel) e4
      have t4 := t3.trans s4
      walk_at "w"
      refine w_newL rfl fun p1 M1 c1 r1 h1 => ?_
      walk_at "w"
      refine w_cat ((t4.trans r1) _ _ hp) h1 (by rw [hl]; exact Nat.le_of_ble_eq_true rfl) fun p2 M2 c2 r2 h2 => ?_
      walk_at "w"
      have zz := z0.trans (t4.trans r1)
      have gz := paired_app (gg.same ((t4.trans r1).trans r2)) (g4.same (r1.trans r2))
      exact hN _ _ ⟨p2, _, rfl, Same.free zz c2, zz.trans r2, h2, by rw [List.length_append, hl]; rfl, gz⟩
    rintro _ J ⟨p, ws, rfl, np, z0, hp, hl, gg⟩
    refine seq_cut (fun σ J => ∃ p ws, σ = [some y, some z, some (.ref p)] ∧ H p = none ∧ Same H J ∧ J p = some (.lst ws) ∧ ws.length = 7 ∧ AllE K J ws ([(("InvalidName" : Str), [(("value" : Str), y)]), (("InvalidText" : Str), [(("value" : Str), y)]), (("InvalidLevel" : Str), [(("value" : Str), y)]), (("InvalidView" : Str), [(("value" : Str), y)]), (("InvalidCell" : Str), [(("value" : Str), y)]), (("InvalidAmount" : Str), [(("value" : Str), y)]), (("InvalidTimes" : Str), [(("value" : Str), y)])] : List (Str × List (Str × V)))) (fun N hN => ?_) ?_
    · walk_at "w"
      have g0 : AllE K J [] [] := .nil
      have t0 : Same J J := Same.refl _
      refine w_aE1 fun a1 L1 n1 s1 e1 => ?_
      have g1 := g0.snoc (x := "InvalidCell") s1 (by decide +kernel) e1
      have t1 := t0.trans s1
      walk_at "w"
      refine w_aE1 fun a2 L2 n2 s2 e2 => ?_
      have g2 := g1.snoc (x := "InvalidAmount") s2 (by decide +kernel) e2
      have t2 := t1.trans s2
      walk_at "w"
      refine w_aE1 fun a3 L3 n3 s3 e3 => ?_
      have g3 := g2.snoc (x := "InvalidTimes") s3 (by decide +kernel) e3
      have t3 := t2.trans s3
      walk_at "w"
      refine w_newL rfl fun p1 M1 c1 r1 h1 => ?_
      walk_at "w"
      refine w_cat ((t3.trans r1) _ _ hp) h1 (by rw [hl]; exact Nat.le_of_ble_eq_true rfl) fun p2 M2 c2 r2 h2 => ?_
      walk_at "w"
      have zz := z0.trans (t3.trans r1)
      have gz := paired_app (gg.same ((t3.trans r1).trans r2)) (g3.same (r1.trans r2))
      exact hN _ _ ⟨p2, _, rfl, Same.free zz c2, zz.trans r2, h2, by rw [List.length_append, hl]; rfl, gz⟩
    rintro _ J ⟨p, ws, rfl, np, z0, hp, hl, gg⟩
    refine seq_cut (fun σ J => ∃ p ws, σ = [some y, some z, some (.ref p)] ∧ H p = none ∧ Same H J ∧ J p = some (.lst ws) ∧ ws.length = 11 ∧ AllE K J ws ([(("InvalidName" : Str), [(("value" : Str), y)]), (("InvalidText" : Str), [(("value" : Str), y)]), (("InvalidLevel" : Str), [(("value" : Str), y)]), (("InvalidView" : Str), [(("value" : Str), y)]), (("InvalidCell" : Str), [(("value" : Str), y)]), (("InvalidAmount" : Str), [(("value" : Str), y)]), (("InvalidTimes" : Str), [(("value" : Str), y)]), (("InvalidMeasure" : Str), [(("value" : Str), y)]), (("NotACondition" : Str), [(("value" : Str), y)]), (("NotAShape" : Str), [(("value" : Str), y)]), (("NotASchema" : Str), [(("value" : Str), y)])] : List (Str × List (Str × V)))) (fun N hN => ?_) ?_
    · walk_at "w"
      have g0 : AllE K J [] [] := .nil
      have t0 : Same J J := Same.refl _
      refine w_aE1 fun a1 L1 n1 s1 e1 => ?_
      have g1 := g0.snoc (x := "InvalidMeasure") s1 (by decide +kernel) e1
      have t1 := t0.trans s1
      walk_at "w"
      refine w_aE1 fun a2 L2 n2 s2 e2 => ?_
      have g2 := g1.snoc (x := "NotACondition") s2 (by decide +kernel) e2
      have t2 := t1.trans s2
      walk_at "w"
      refine w_aE1 fun a3 L3 n3 s3 e3 => ?_
      have g3 := g2.snoc (x := "NotAShape") s3 (by decide +kernel) e3
      have t3 := t2.trans s3
      walk_at "w"
      refine w_aE1 fun a4 L4 n4 s4 e4 => ?_
      have g4 := g3.snoc (x := "NotASchema") s4 (by decide +kernel) e4
      have t4 := t3.trans s4
      walk_at "w"
      refine w_newL rfl fun p1 M1 c1 r1 h1 => ?_
      walk_at "w"
      refine w_cat ((t4.trans r1) _ _ hp) h1 (by rw [hl]; exact Nat.le_of_ble_eq_true rfl) fun p2 M2 c2 r2 h2 => ?_
      walk_at "w"
      have zz := z0.trans (t4.trans r1)
      have gz := paired_app (gg.same ((t4.trans r1).trans r2)) (g4.same (r1.trans r2))
      exact hN _ _ ⟨p2, _, rfl, Same.free zz c2, zz.trans r2, h2, by rw [List.length_append, hl]; rfl, gz⟩
    rintro _ J ⟨p, ws, rfl, np, z0, hp, hl, gg⟩
    refine seq_cut (fun σ J => ∃ p ws, σ = [some y, some z, some (.ref p)] ∧ H p = none ∧ Same H J ∧ J p = some (.lst ws) ∧ ws.length = 15 ∧ AllE K J ws ([(("InvalidName" : Str), [(("value" : Str), y)]), (("InvalidText" : Str), [(("value" : Str), y)]), (("InvalidLevel" : Str), [(("value" : Str), y)]), (("InvalidView" : Str), [(("value" : Str), y)]), (("InvalidCell" : Str), [(("value" : Str), y)]), (("InvalidAmount" : Str), [(("value" : Str), y)]), (("InvalidTimes" : Str), [(("value" : Str), y)]), (("InvalidMeasure" : Str), [(("value" : Str), y)]), (("NotACondition" : Str), [(("value" : Str), y)]), (("NotAShape" : Str), [(("value" : Str), y)]), (("NotASchema" : Str), [(("value" : Str), y)]), (("NotACube" : Str), [(("value" : Str), y)]), (("NotADataset" : Str), [(("value" : Str), y)]), (("NotAWarehouse" : Str), [(("value" : Str), y)]), (("InvalidLinks" : Str), [(("index" : Str), y)])] : List (Str × List (Str × V)))) (fun N hN => ?_) ?_
    · walk_at "w"
      have g0 : AllE K J [] [] := .nil
      have t0 : Same J J := Same.refl _
      refine w_aE1 fun a1 L1 n1 s1 e1 => ?_
      have g1 := g0.snoc (x := "NotACube") s1 (by decide +kernel) e1
      have t1 := t0.trans s1
      walk_at "w"
      refine w_aE1 fun a2 L2 n2 s2 e2 => ?_
      have g2 := g1.snoc (x := "NotADataset") s2 (by decide +kernel) e2
      have t2 := t1.trans s2
      walk_at "w"
      refine w_aE1 fun a3 L3 n3 s3 e3 => ?_
      have g3 := g2.snoc (x := "NotAWarehouse") s3 (by decide +kernel) e3
      have t3 := t2.trans s3
      walk_at "w"
      refine w_aE1 fun a4 L4 n4 s4 e4 => ?_
      have g4 := g3.snoc (x := "InvalidLinks") s4 (by decide +kernel) e4
      have t4 := t3.trans s4
      walk_at "w"
      refine w_newL rfl fun p1 M1 c1 r1 h1 => ?_
      walk_at "w"
      refine w_cat ((t4.trans r1) _ _ hp) h1 (by rw [hl]; exact Nat.le_of_ble_eq_true rfl) fun p2 M2 c2 r2 h2 => ?_
      walk_at "w"
      have zz := z0.trans (t4.trans r1)
      have gz := paired_app (gg.same ((t4.trans r1).trans r2)) (g4.same (r1.trans r2))
      exact hN _ _ ⟨p2, _, rfl, Same.free zz c2, zz.trans r2, h2, by rw [List.length_append, hl]; rfl, gz⟩
    rintro _ J ⟨p, ws, rfl, np, z0, hp, hl, gg⟩
    refine seq_cut (fun σ J => ∃ p ws, σ = [some y, some z, some (.ref p)] ∧ H p = none ∧ Same H J ∧ J p = some (.lst ws) ∧ ws.length = 18 ∧ AllE K J ws ([(("InvalidName" : Str), [(("value" : Str), y)]), (("InvalidText" : Str), [(("value" : Str), y)]), (("InvalidLevel" : Str), [(("value" : Str), y)]), (("InvalidView" : Str), [(("value" : Str), y)]), (("InvalidCell" : Str), [(("value" : Str), y)]), (("InvalidAmount" : Str), [(("value" : Str), y)]), (("InvalidTimes" : Str), [(("value" : Str), y)]), (("InvalidMeasure" : Str), [(("value" : Str), y)]), (("NotACondition" : Str), [(("value" : Str), y)]), (("NotAShape" : Str), [(("value" : Str), y)]), (("NotASchema" : Str), [(("value" : Str), y)]), (("NotACube" : Str), [(("value" : Str), y)]), (("NotADataset" : Str), [(("value" : Str), y)]), (("NotAWarehouse" : Str), [(("value" : Str), y)]), (("InvalidLinks" : Str), [(("index" : Str), y)]), (("InvalidMarks" : Str), [(("index" : Str), y)]), (("InvalidRules" : Str), [(("index" : Str), y)]), (("InvalidMembers" : Str), [(("index" : Str), y)])] : List (Str × List (Str × V)))) (fun N hN => ?_) ?_
    · walk_at "w"
      have g0 : AllE K J [] [] := .nil
      have t0 : Same J J := Same.refl _
      refine w_aE1 fun a1 L1 n1 s1 e1 => ?_
      have g1 := g0.snoc (x := "InvalidMarks") s1 (by decide +kernel) e1
      have t1 := t0.trans s1
      walk_at "w"
      refine w_aE1 fun a2 L2 n2 s2 e2 => ?_
      have g2 := g1.snoc (x := "InvalidRules") s2 (by decide +kernel) e2
      have t2 := t1.trans s2
      walk_at "w"
      refine w_aE1 fun a3 L3 n3 s3 e3 => ?_
      have g3 := g2.snoc (x := "InvalidMembers") s3 (by decide +kernel) e3
      have t3 := t2.trans s3
      walk_at "w"
      refine w_newL rfl fun p1 M1 c1 r1 h1 => ?_
      walk_at "w"
      refine w_cat ((t3.trans r1) _ _ hp) h1 (by rw [hl]; exact Nat.le_of_ble_eq_true rfl) fun p2 M2 c2 r2 h2 => ?_
      walk_at "w"
      have zz := z0.trans (t3.trans r1)
      have gz := paired_app (gg.same ((t3.trans r1).trans r2)) (g3.same (r1.trans r2))
      exact hN _ _ ⟨p2, _, rfl, Same.free zz c2, zz.trans r2, h2, by rw [List.length_append, hl]; rfl, gz⟩
    rintro _ J ⟨p, ws, rfl, np, z0, hp, hl, gg⟩
    refine seq_cut (fun σ J => ∃ p ws, σ = [some y, some z, some (.ref p)] ∧ H p = none ∧ Same H J ∧ J p = some (.lst ws) ∧ ws.length = 21 ∧ AllE K J ws ([(("InvalidName" : Str), [(("value" : Str), y)]), (("InvalidText" : Str), [(("value" : Str), y)]), (("InvalidLevel" : Str), [(("value" : Str), y)]), (("InvalidView" : Str), [(("value" : Str), y)]), (("InvalidCell" : Str), [(("value" : Str), y)]), (("InvalidAmount" : Str), [(("value" : Str), y)]), (("InvalidTimes" : Str), [(("value" : Str), y)]), (("InvalidMeasure" : Str), [(("value" : Str), y)]), (("NotACondition" : Str), [(("value" : Str), y)]), (("NotAShape" : Str), [(("value" : Str), y)]), (("NotASchema" : Str), [(("value" : Str), y)]), (("NotACube" : Str), [(("value" : Str), y)]), (("NotADataset" : Str), [(("value" : Str), y)]), (("NotAWarehouse" : Str), [(("value" : Str), y)]), (("InvalidLinks" : Str), [(("index" : Str), y)]), (("InvalidMarks" : Str), [(("index" : Str), y)]), (("InvalidRules" : Str), [(("index" : Str), y)]), (("InvalidMembers" : Str), [(("index" : Str), y)]), (("InvalidSchemas" : Str), [(("index" : Str), y)]), (("InvalidHierarchies" : Str), [(("index" : Str), y)]), (("InvalidFacts" : Str), [(("index" : Str), y)])] : List (Str × List (Str × V)))) (fun N hN => ?_) ?_
    · walk_at "w"
      have g0 : AllE K J [] [] := .nil
      have t0 : Same J J := Same.refl _
      refine w_aE1 fun a1 L1 n1 s1 e1 => ?_
      have g1 := g0.snoc (x := "InvalidSchemas") s1 (by decide +kernel) e1
      have t1 := t0.trans s1
      walk_at "w"
      refine w_aE1 fun a2 L2 n2 s2 e2 => ?_
      have g2 := g1.snoc (x := "InvalidHierarchies") s2 (by decide +kernel) e2
      have t2 := t1.trans s2
      walk_at "w"
      refine w_aE1 fun a3 L3 n3 s3 e3 => ?_
      have g3 := g2.snoc (x := "InvalidFacts") s3 (by decide +kernel) e3
      have t3 := t2.trans s3
      walk_at "w"
      refine w_newL rfl fun p1 M1 c1 r1 h1 => ?_
      walk_at "w"
      refine w_cat ((t3.trans r1) _ _ hp) h1 (by rw [hl]; exact Nat.le_of_ble_eq_true rfl) fun p2 M2 c2 r2 h2 => ?_
      walk_at "w"
      have zz := z0.trans (t3.trans r1)
      have gz := paired_app (gg.same ((t3.trans r1).trans r2)) (g3.same (r1.trans r2))
      exact hN _ _ ⟨p2, _, rfl, Same.free zz c2, zz.trans r2, h2, by rw [List.length_append, hl]; rfl, gz⟩
    rintro _ J ⟨p, ws, rfl, np, z0, hp, hl, gg⟩
    refine seq_cut (fun σ J => ∃ p ws, σ = [some y, some z, some (.ref p)] ∧ H p = none ∧ Same H J ∧ J p = some (.lst ws) ∧ ws.length = 24 ∧ AllE K J ws ([(("InvalidName" : Str), [(("value" : Str), y)]), (("InvalidText" : Str), [(("value" : Str), y)]), (("InvalidLevel" : Str), [(("value" : Str), y)]), (("InvalidView" : Str), [(("value" : Str), y)]), (("InvalidCell" : Str), [(("value" : Str), y)]), (("InvalidAmount" : Str), [(("value" : Str), y)]), (("InvalidTimes" : Str), [(("value" : Str), y)]), (("InvalidMeasure" : Str), [(("value" : Str), y)]), (("NotACondition" : Str), [(("value" : Str), y)]), (("NotAShape" : Str), [(("value" : Str), y)]), (("NotASchema" : Str), [(("value" : Str), y)]), (("NotACube" : Str), [(("value" : Str), y)]), (("NotADataset" : Str), [(("value" : Str), y)]), (("NotAWarehouse" : Str), [(("value" : Str), y)]), (("InvalidLinks" : Str), [(("index" : Str), y)]), (("InvalidMarks" : Str), [(("index" : Str), y)]), (("InvalidRules" : Str), [(("index" : Str), y)]), (("InvalidMembers" : Str), [(("index" : Str), y)]), (("InvalidSchemas" : Str), [(("index" : Str), y)]), (("InvalidHierarchies" : Str), [(("index" : Str), y)]), (("InvalidFacts" : Str), [(("index" : Str), y)]), (("InvalidStored" : Str), [(("index" : Str), y)]), (("InvalidWanted" : Str), [(("index" : Str), y)]), (("InvalidPrices" : Str), [(("index" : Str), y)])] : List (Str × List (Str × V)))) (fun N hN => ?_) ?_
    · walk_at "w"
      have g0 : AllE K J [] [] := .nil
      have t0 : Same J J := Same.refl _
      refine w_aE1 fun a1 L1 n1 s1 e1 => ?_
      have g1 := g0.snoc (x := "InvalidStored") s1 (by decide +kernel) e1
      have t1 := t0.trans s1
      walk_at "w"
      refine w_aE1 fun a2 L2 n2 s2 e2 => ?_
      have g2 := g1.snoc (x := "InvalidWanted") s2 (by decide +kernel) e2
      have t2 := t1.trans s2
      walk_at "w"
      refine w_aE1 fun a3 L3 n3 s3 e3 => ?_
      have g3 := g2.snoc (x := "InvalidPrices") s3 (by decide +kernel) e3
      have t3 := t2.trans s3
      walk_at "w"
      refine w_newL rfl fun p1 M1 c1 r1 h1 => ?_
      walk_at "w"
      refine w_cat ((t3.trans r1) _ _ hp) h1 (by rw [hl]; exact Nat.le_of_ble_eq_true rfl) fun p2 M2 c2 r2 h2 => ?_
      walk_at "w"
      have zz := z0.trans (t3.trans r1)
      have gz := paired_app (gg.same ((t3.trans r1).trans r2)) (g3.same (r1.trans r2))
      exact hN _ _ ⟨p2, _, rfl, Same.free zz c2, zz.trans r2, h2, by rw [List.length_append, hl]; rfl, gz⟩
    rintro _ J ⟨p, ws, rfl, np, z0, hp, hl, gg⟩
    refine seq_cut (fun σ J => ∃ p ws, σ = [some y, some z, some (.ref p)] ∧ H p = none ∧ Same H J ∧ J p = some (.lst ws) ∧ ws.length = 28 ∧ AllE K J ws ([(("InvalidName" : Str), [(("value" : Str), y)]), (("InvalidText" : Str), [(("value" : Str), y)]), (("InvalidLevel" : Str), [(("value" : Str), y)]), (("InvalidView" : Str), [(("value" : Str), y)]), (("InvalidCell" : Str), [(("value" : Str), y)]), (("InvalidAmount" : Str), [(("value" : Str), y)]), (("InvalidTimes" : Str), [(("value" : Str), y)]), (("InvalidMeasure" : Str), [(("value" : Str), y)]), (("NotACondition" : Str), [(("value" : Str), y)]), (("NotAShape" : Str), [(("value" : Str), y)]), (("NotASchema" : Str), [(("value" : Str), y)]), (("NotACube" : Str), [(("value" : Str), y)]), (("NotADataset" : Str), [(("value" : Str), y)]), (("NotAWarehouse" : Str), [(("value" : Str), y)]), (("InvalidLinks" : Str), [(("index" : Str), y)]), (("InvalidMarks" : Str), [(("index" : Str), y)]), (("InvalidRules" : Str), [(("index" : Str), y)]), (("InvalidMembers" : Str), [(("index" : Str), y)]), (("InvalidSchemas" : Str), [(("index" : Str), y)]), (("InvalidHierarchies" : Str), [(("index" : Str), y)]), (("InvalidFacts" : Str), [(("index" : Str), y)]), (("InvalidStored" : Str), [(("index" : Str), y)]), (("InvalidWanted" : Str), [(("index" : Str), y)]), (("InvalidPrices" : Str), [(("index" : Str), y)]), (("InvalidShapes" : Str), [(("index" : Str), y)]), (("InvalidRows" : Str), [(("index" : Str), y)]), (("InvalidGoal" : Str), [(("index" : Str), y)]), (("InvalidDeed" : Str), [(("index" : Str), y)])] : List (Str × List (Str × V)))) (fun N hN => ?_) ?_
    · walk_at "w"
      have g0 : AllE K J [] [] := .nil
      have t0 : Same J J := Same.refl _
      refine w_aE1 fun a1 L1 n1 s1 e1 => ?_
      have g1 := g0.snoc (x := "InvalidShapes") s1 (by decide +kernel) e1
      have t1 := t0.trans s1
      walk_at "w"
      refine w_aE1 fun a2 L2 n2 s2 e2 => ?_
      have g2 := g1.snoc (x := "InvalidRows") s2 (by decide +kernel) e2
      have t2 := t1.trans s2
      walk_at "w"
      refine w_aE1 fun a3 L3 n3 s3 e3 => ?_
      have g3 := g2.snoc (x := "InvalidGoal") s3 (by decide +kernel) e3
      have t3 := t2.trans s3
      walk_at "w"
      refine w_aE1 fun a4 L4 n4 s4 e4 => ?_
      have g4 := g3.snoc (x := "InvalidDeed") s4 (by decide +kernel) e4
      have t4 := t3.trans s4
      walk_at "w"
      refine w_newL rfl fun p1 M1 c1 r1 h1 => ?_
      walk_at "w"
      refine w_cat ((t4.trans r1) _ _ hp) h1 (by rw [hl]; exact Nat.le_of_ble_eq_true rfl) fun p2 M2 c2 r2 h2 => ?_
      walk_at "w"
      have zz := z0.trans (t4.trans r1)
      have gz := paired_app (gg.same ((t4.trans r1).trans r2)) (g4.same (r1.trans r2))
      exact hN _ _ ⟨p2, _, rfl, Same.free zz c2, zz.trans r2, h2, by rw [List.length_append, hl]; rfl, gz⟩
    rintro _ J ⟨p, ws, rfl, np, z0, hp, hl, gg⟩
    refine seq_cut (fun σ J => ∃ p ws, σ = [some y, some z, some (.ref p)] ∧ H p = none ∧ Same H J ∧ J p = some (.lst ws) ∧ ws.length = 32 ∧ AllE K J ws ([(("InvalidName" : Str), [(("value" : Str), y)]), (("InvalidText" : Str), [(("value" : Str), y)]), (("InvalidLevel" : Str), [(("value" : Str), y)]), (("InvalidView" : Str), [(("value" : Str), y)]), (("InvalidCell" : Str), [(("value" : Str), y)]), (("InvalidAmount" : Str), [(("value" : Str), y)]), (("InvalidTimes" : Str), [(("value" : Str), y)]), (("InvalidMeasure" : Str), [(("value" : Str), y)]), (("NotACondition" : Str), [(("value" : Str), y)]), (("NotAShape" : Str), [(("value" : Str), y)]), (("NotASchema" : Str), [(("value" : Str), y)]), (("NotACube" : Str), [(("value" : Str), y)]), (("NotADataset" : Str), [(("value" : Str), y)]), (("NotAWarehouse" : Str), [(("value" : Str), y)]), (("InvalidLinks" : Str), [(("index" : Str), y)]), (("InvalidMarks" : Str), [(("index" : Str), y)]), (("InvalidRules" : Str), [(("index" : Str), y)]), (("InvalidMembers" : Str), [(("index" : Str), y)]), (("InvalidSchemas" : Str), [(("index" : Str), y)]), (("InvalidHierarchies" : Str), [(("index" : Str), y)]), (("InvalidFacts" : Str), [(("index" : Str), y)]), (("InvalidStored" : Str), [(("index" : Str), y)]), (("InvalidWanted" : Str), [(("index" : Str), y)]), (("InvalidPrices" : Str), [(("index" : Str), y)]), (("InvalidShapes" : Str), [(("index" : Str), y)]), (("InvalidRows" : Str), [(("index" : Str), y)]), (("InvalidGoal" : Str), [(("index" : Str), y)]), (("InvalidDeed" : Str), [(("index" : Str), y)]), (("UnknownMember" : Str), [(("value" : Str), y)]), (("MissingFact" : Str), [(("value" : Str), y)]), (("NotStored" : Str), [(("value" : Str), y)]), (("HasChildren" : Str), [(("value" : Str), y)])] : List (Str × List (Str × V)))) (fun N hN => ?_) ?_
    · walk_at "w"
      have g0 : AllE K J [] [] := .nil
      have t0 : Same J J := Same.refl _
      refine w_aE1 fun a1 L1 n1 s1 e1 => ?_
      have g1 := g0.snoc (x := "UnknownMember") s1 (by decide +kernel) e1
      have t1 := t0.trans s1
      walk_at "w"
      refine w_aE1 fun a2 L2 n2 s2 e2 => ?_
      have g2 := g1.snoc (x := "MissingFact") s2 (by decide +kernel) e2
      have t2 := t1.trans s2
      walk_at "w"
      refine w_aE1 fun a3 L3 n3 s3 e3 => ?_
      have g3 := g2.snoc (x := "NotStored") s3 (by decide +kernel) e3
      have t3 := t2.trans s3
      walk_at "w"
      refine w_aE1 fun a4 L4 n4 s4 e4 => ?_
      have g4 := g3.snoc (x := "HasChildren") s4 (by decide +kernel) e4
      have t4 := t3.trans s4
      walk_at "w"
      refine w_newL rfl fun p1 M1 c1 r1 h1 => ?_
      walk_at "w"
      refine w_cat ((t4.trans r1) _ _ hp) h1 (by rw [hl]; exact Nat.le_of_ble_eq_true rfl) fun p2 M2 c2 r2 h2 => ?_
      walk_at "w"
      have zz := z0.trans (t4.trans r1)
      have gz := paired_app (gg.same ((t4.trans r1).trans r2)) (g4.same (r1.trans r2))
      exact hN _ _ ⟨p2, _, rfl, Same.free zz c2, zz.trans r2, h2, by rw [List.length_append, hl]; rfl, gz⟩
    rintro _ J ⟨p, ws, rfl, np, z0, hp, hl, gg⟩
    refine seq_cut (fun σ J => ∃ p ws, σ = [some y, some z, some (.ref p)] ∧ H p = none ∧ Same H J ∧ J p = some (.lst ws) ∧ ws.length = 36 ∧ AllE K J ws ([(("InvalidName" : Str), [(("value" : Str), y)]), (("InvalidText" : Str), [(("value" : Str), y)]), (("InvalidLevel" : Str), [(("value" : Str), y)]), (("InvalidView" : Str), [(("value" : Str), y)]), (("InvalidCell" : Str), [(("value" : Str), y)]), (("InvalidAmount" : Str), [(("value" : Str), y)]), (("InvalidTimes" : Str), [(("value" : Str), y)]), (("InvalidMeasure" : Str), [(("value" : Str), y)]), (("NotACondition" : Str), [(("value" : Str), y)]), (("NotAShape" : Str), [(("value" : Str), y)]), (("NotASchema" : Str), [(("value" : Str), y)]), (("NotACube" : Str), [(("value" : Str), y)]), (("NotADataset" : Str), [(("value" : Str), y)]), (("NotAWarehouse" : Str), [(("value" : Str), y)]), (("InvalidLinks" : Str), [(("index" : Str), y)]), (("InvalidMarks" : Str), [(("index" : Str), y)]), (("InvalidRules" : Str), [(("index" : Str), y)]), (("InvalidMembers" : Str), [(("index" : Str), y)]), (("InvalidSchemas" : Str), [(("index" : Str), y)]), (("InvalidHierarchies" : Str), [(("index" : Str), y)]), (("InvalidFacts" : Str), [(("index" : Str), y)]), (("InvalidStored" : Str), [(("index" : Str), y)]), (("InvalidWanted" : Str), [(("index" : Str), y)]), (("InvalidPrices" : Str), [(("index" : Str), y)]), (("InvalidShapes" : Str), [(("index" : Str), y)]), (("InvalidRows" : Str), [(("index" : Str), y)]), (("InvalidGoal" : Str), [(("index" : Str), y)]), (("InvalidDeed" : Str), [(("index" : Str), y)]), (("UnknownMember" : Str), [(("value" : Str), y)]), (("MissingFact" : Str), [(("value" : Str), y)]), (("NotStored" : Str), [(("value" : Str), y)]), (("HasChildren" : Str), [(("value" : Str), y)]), (("HasFacts" : Str), [(("value" : Str), y)]), (("NothingToUndo" : Str), []), (("InvalidParents" : Str), [(("member" : Str), y)]), (("TwoAncestors" : Str), [(("member" : Str), y)])] : List (Str × List (Str × V)))) (fun N hN => ?_) ?_
    · walk_at "w"
      have g0 : AllE K J [] [] := .nil
      have t0 : Same J J := Same.refl _
      refine w_aE1 fun a1 L1 n1 s1 e1 => ?_
      have g1 := g0.snoc (x := "HasFacts") s1 (by decide +kernel) e1
      have t1 := t0.trans s1
      walk_at "w"
      intro a2 L2 n2 s2 e2
      have g2 := g1.snoc (x := "NothingToUndo") s2 (by decide +kernel) e2
      have t2 := t1.trans s2
      walk_at "w"
      refine w_aE1 fun a3 L3 n3 s3 e3 => ?_
      have g3 := g2.snoc (x := "InvalidParents") s3 (by decide +kernel) e3
      have t3 := t2.trans s3
      walk_at "w"
      refine w_aE1 fun a4 L4 n4 s4 e4 => ?_
      have g4 := g3.snoc (x := "TwoAncestors") s4 (by decide +kernel) e4
      have t4 := t3.trans s4
      walk_at "w"
      refine w_newL rfl fun p1 M1 c1 r1 h1 => ?_
      walk_at "w"
      refine w_cat ((t4.trans r1) _ _ hp) h1 (by rw [hl]; exact Nat.le_of_ble_eq_true rfl) fun p2 M2 c2 r2 h2 => ?_
      walk_at "w"
      have zz := z0.trans (t4.trans r1)
      have gz := paired_app (gg.same ((t4.trans r1).trans r2)) (g4.same (r1.trans r2))
      exact hN _ _ ⟨p2, _, rfl, Same.free zz c2, zz.trans r2, h2, by rw [List.length_append, hl]; rfl, gz⟩
    rintro _ J ⟨p, ws, rfl, np, z0, hp, hl, gg⟩
    refine seq_cut (fun σ J => ∃ p ws, σ = [some y, some z, some (.ref p)] ∧ H p = none ∧ Same H J ∧ J p = some (.lst ws) ∧ ws.length = 40 ∧ AllE K J ws ([(("InvalidName" : Str), [(("value" : Str), y)]), (("InvalidText" : Str), [(("value" : Str), y)]), (("InvalidLevel" : Str), [(("value" : Str), y)]), (("InvalidView" : Str), [(("value" : Str), y)]), (("InvalidCell" : Str), [(("value" : Str), y)]), (("InvalidAmount" : Str), [(("value" : Str), y)]), (("InvalidTimes" : Str), [(("value" : Str), y)]), (("InvalidMeasure" : Str), [(("value" : Str), y)]), (("NotACondition" : Str), [(("value" : Str), y)]), (("NotAShape" : Str), [(("value" : Str), y)]), (("NotASchema" : Str), [(("value" : Str), y)]), (("NotACube" : Str), [(("value" : Str), y)]), (("NotADataset" : Str), [(("value" : Str), y)]), (("NotAWarehouse" : Str), [(("value" : Str), y)]), (("InvalidLinks" : Str), [(("index" : Str), y)]), (("InvalidMarks" : Str), [(("index" : Str), y)]), (("InvalidRules" : Str), [(("index" : Str), y)]), (("InvalidMembers" : Str), [(("index" : Str), y)]), (("InvalidSchemas" : Str), [(("index" : Str), y)]), (("InvalidHierarchies" : Str), [(("index" : Str), y)]), (("InvalidFacts" : Str), [(("index" : Str), y)]), (("InvalidStored" : Str), [(("index" : Str), y)]), (("InvalidWanted" : Str), [(("index" : Str), y)]), (("InvalidPrices" : Str), [(("index" : Str), y)]), (("InvalidShapes" : Str), [(("index" : Str), y)]), (("InvalidRows" : Str), [(("index" : Str), y)]), (("InvalidGoal" : Str), [(("index" : Str), y)]), (("InvalidDeed" : Str), [(("index" : Str), y)]), (("UnknownMember" : Str), [(("value" : Str), y)]), (("MissingFact" : Str), [(("value" : Str), y)]), (("NotStored" : Str), [(("value" : Str), y)]), (("HasChildren" : Str), [(("value" : Str), y)]), (("HasFacts" : Str), [(("value" : Str), y)]), (("NothingToUndo" : Str), []), (("InvalidParents" : Str), [(("member" : Str), y)]), (("TwoAncestors" : Str), [(("member" : Str), y)]), (("BrokenRule" : Str), [(("index" : Str), z), (("member" : Str), y)]), (("NotAllowed" : Str), [(("value" : Str), y)]), (("NotDetermined" : Str), [(("blind_spot" : Str), y)]), (("NotComparable" : Str), [])] : List (Str × List (Str × V)))) (fun N hN => ?_) ?_
    · walk_at "w"
      have g0 : AllE K J [] [] := .nil
      have t0 : Same J J := Same.refl _
      refine w_aE2 fun a1 L1 n1 s1 e1 => ?_
      have g1 := g0.snoc (x := "BrokenRule") s1 (by decide +kernel) e1
      have t1 := t0.trans s1
      walk_at "w"
      refine w_aE1 fun a2 L2 n2 s2 e2 => ?_
      have g2 := g1.snoc (x := "NotAllowed") s2 (by decide +kernel) e2
      have t2 := t1.trans s2
      walk_at "w"
      refine w_aE1 fun a3 L3 n3 s3 e3 => ?_
      have g3 := g2.snoc (x := "NotDetermined") s3 (by decide +kernel) e3
      have t3 := t2.trans s3
      walk_at "w"
      intro a4 L4 n4 s4 e4
      have g4 := g3.snoc (x := "NotComparable") s4 (by decide +kernel) e4
      have t4 := t3.trans s4
      walk_at "w"
      refine w_newL rfl fun p1 M1 c1 r1 h1 => ?_
      walk_at "w"
      refine w_cat ((t4.trans r1) _ _ hp) h1 (by rw [hl]; exact Nat.le_of_ble_eq_true rfl) fun p2 M2 c2 r2 h2 => ?_
      walk_at "w"
      have zz := z0.trans (t4.trans r1)
      have gz := paired_app (gg.same ((t4.trans r1).trans r2)) (g4.same (r1.trans r2))
      exact hN _ _ ⟨p2, _, rfl, Same.free zz c2, zz.trans r2, h2, by rw [List.length_append, hl]; rfl, gz⟩
    rintro _ J ⟨p, ws, rfl, np, z0, hp, hl, gg⟩
    refine seq_cut (fun σ J => ∃ p ws, σ = [some y, some z, some (.ref p)] ∧ H p = none ∧ Same H J ∧ J p = some (.lst ws) ∧ ws.length = 42 ∧ AllE K J ws ([(("InvalidName" : Str), [(("value" : Str), y)]), (("InvalidText" : Str), [(("value" : Str), y)]), (("InvalidLevel" : Str), [(("value" : Str), y)]), (("InvalidView" : Str), [(("value" : Str), y)]), (("InvalidCell" : Str), [(("value" : Str), y)]), (("InvalidAmount" : Str), [(("value" : Str), y)]), (("InvalidTimes" : Str), [(("value" : Str), y)]), (("InvalidMeasure" : Str), [(("value" : Str), y)]), (("NotACondition" : Str), [(("value" : Str), y)]), (("NotAShape" : Str), [(("value" : Str), y)]), (("NotASchema" : Str), [(("value" : Str), y)]), (("NotACube" : Str), [(("value" : Str), y)]), (("NotADataset" : Str), [(("value" : Str), y)]), (("NotAWarehouse" : Str), [(("value" : Str), y)]), (("InvalidLinks" : Str), [(("index" : Str), y)]), (("InvalidMarks" : Str), [(("index" : Str), y)]), (("InvalidRules" : Str), [(("index" : Str), y)]), (("InvalidMembers" : Str), [(("index" : Str), y)]), (("InvalidSchemas" : Str), [(("index" : Str), y)]), (("InvalidHierarchies" : Str), [(("index" : Str), y)]), (("InvalidFacts" : Str), [(("index" : Str), y)]), (("InvalidStored" : Str), [(("index" : Str), y)]), (("InvalidWanted" : Str), [(("index" : Str), y)]), (("InvalidPrices" : Str), [(("index" : Str), y)]), (("InvalidShapes" : Str), [(("index" : Str), y)]), (("InvalidRows" : Str), [(("index" : Str), y)]), (("InvalidGoal" : Str), [(("index" : Str), y)]), (("InvalidDeed" : Str), [(("index" : Str), y)]), (("UnknownMember" : Str), [(("value" : Str), y)]), (("MissingFact" : Str), [(("value" : Str), y)]), (("NotStored" : Str), [(("value" : Str), y)]), (("HasChildren" : Str), [(("value" : Str), y)]), (("HasFacts" : Str), [(("value" : Str), y)]), (("NothingToUndo" : Str), []), (("InvalidParents" : Str), [(("member" : Str), y)]), (("TwoAncestors" : Str), [(("member" : Str), y)]), (("BrokenRule" : Str), [(("index" : Str), z), (("member" : Str), y)]), (("NotAllowed" : Str), [(("value" : Str), y)]), (("NotDetermined" : Str), [(("blind_spot" : Str), y)]), (("NotComparable" : Str), []), (("OtherCube" : Str), []), (("TooMany" : Str), [(("limit" : Str), y)])] : List (Str × List (Str × V)))) (fun N hN => ?_) ?_
    · walk_at "w"
      have g0 : AllE K J [] [] := .nil
      have t0 : Same J J := Same.refl _
      intro a1 L1 n1 s1 e1
      have g1 := g0.snoc (x := "OtherCube") s1 (by decide +kernel) e1
      have t1 := t0.trans s1
      walk_at "w"
      refine w_aE1 fun a2 L2 n2 s2 e2 => ?_
      have g2 := g1.snoc (x := "TooMany") s2 (by decide +kernel) e2
      have t2 := t1.trans s2
      walk_at "w"
      refine w_newL rfl fun p1 M1 c1 r1 h1 => ?_
      walk_at "w"
      refine w_cat ((t2.trans r1) _ _ hp) h1 (by rw [hl]; exact Nat.le_of_ble_eq_true rfl) fun p2 M2 c2 r2 h2 => ?_
      walk_at "w"
      have zz := z0.trans (t2.trans r1)
      have gz := paired_app (gg.same ((t2.trans r1).trans r2)) (g2.same (r1.trans r2))
      exact hN _ _ ⟨p2, _, rfl, Same.free zz c2, zz.trans r2, h2, by rw [List.length_append, hl]; rfl, gz⟩
    rintro _ J ⟨p, ws, rfl, np, z0, hp, hl, gg⟩
    walk_at "w"
    exact q p ws J np z0 hp gg
end

end RT
set_option Elab.async false
set_option linter.all false
set_option maxRecDepth 100000
set_option maxHeartbeats 4000000
namespace RT
open PySem PySem.Spec PyProof.Rows L2
local macro_rules | `(tactic| walk_at "w0") => `(tactic| dsimp only [L2.start, cxOf, Cx.nox, Cx.wish, List.map, List.length_cons, List.length_nil, List.replicate_succ, List.replicate_zero, List.cons_append, List.nil_append, Nat.reduceAdd, Nat.reduceSub, List.set_cons_zero, List.set_cons_succ])
local macro_rules | `(tactic| walk_at "w1") => `(tactic| first
  | with_reducible refine w_seq ?_
  | with_reducible refine w_asg ?_
  | with_reducible refine w_var rfl ?_
  | with_reducible refine w_c ?_
  | with_reducible refine w_op ?_
  | with_reducible refine w_cons ?_
  | with_reducible refine w_nil ?_
  | with_reducible refine w_gname ?_
  | with_reducible refine w_cb ?_
  | with_reducible refine w_I0 ?_
  | with_reducible refine w_bl ?_
  | ((with_reducible refine' w_ixL ?s0 ?s1 ?q); (case s0 => assumption); (case s1 => rfl))
  | ((with_reducible refine' w_ixT ?s0 ?s1 ?q); (case s0 => assumption); (case s1 => rfl))
  | with_reducible refine w_gsub ?_
  | with_reducible refine w_ifS ?_
  | with_reducible refine w_test ?_
  | with_reducible refine w_call ?_
  | with_reducible refine w_ret ?_
  | with_reducible refine w_int1 ?_
  | with_reducible refine w_int ?_
  | with_reducible refine w_next ?_
  | with_reducible refine w_drop ?_
  | ((with_reducible refine' w_mod ?s0 ?q); (case s0 => omega))
  | ((with_reducible refine' w_div ?s0 ?q); (case s0 => omega))
  | ((with_reducible refine' w_mul ?s0 ?q); (case s0 => omega))
  | ((with_reducible refine' w_pow ?s0 ?q); (case s0 => decide))
  | with_reducible refine w_B ?_
  | with_reducible refine w_and ?_
  | with_reducible refine w_or ?_
  | with_reducible refine w_not ?_
  | with_reducible refine w_T ?_
  | with_reducible refine w_F ?_
  | with_reducible refine w_nT ?_
  | with_reducible refine w_nF ?_
  | with_reducible refine w_un ?_
  | with_reducible refine w_U ?_
  | with_reducible refine w_if ?_
  | with_reducible refine w_lst ?_
  | with_reducible refine w_tup ?_
  | with_reducible refine w_sl ?_
  | with_reducible refine w_part ?_
  | with_reducible refine w_nopart ?_
  | with_reducible refine w_eqI ?_
  | with_reducible refine w_neI ?_
  | with_reducible refine w_eqS ?_
  | with_reducible refine w_neS ?_
  | with_reducible refine w_abs ?_
  | with_reducible refine w_max2 ?_
  | with_reducible refine w_min2 ?_
  | ((with_reducible refine' w_lenL ?s0 ?q); (case s0 => assumption))
  | ((with_reducible refine' w_lenH ?s0 ?q); (case s0 => assumption))
  | ((with_reducible refine' w_lenT ?s0 ?q); (case s0 => assumption))
  | ((with_reducible refine' w_lenS ?s0 ?q); (case s0 => first | assumption | omega | decide +kernel))
  | with_reducible refine w_inC ?_
  | with_reducible refine w_ninC ?_
  | with_reducible refine w_m1 ?_
  | with_reducible refine w_m0 ?_
  | with_reducible refine w_isstr ?_
  | with_reducible refine w_andV ?_
  | with_reducible refine w_orV ?_
  | with_reducible refine w_notV ?_
  | with_reducible refine w_chain ?_
  | with_reducible refine w_retN ?_
  | with_reducible refine w_break ?_
  | with_reducible refine w_cont ?_
  | with_reducible refine w_yes ?_
  | with_reducible refine w_for ?_
  | with_reducible refine w_lc ?_
  | with_reducible refine w_iList ?_
  | with_reducible refine w_iTup ?_
  | with_reducible refine w_iStr ?_
  | with_reducible refine w_iR1 ?_
  | with_reducible refine w_iR2 ?_
  | ((with_reducible refine' w_onL ?s0 ?q); (case s0 => assumption))
  | ((with_reducible refine' w_onQ ?s0 ?q); (case s0 => assumption))
  | ((with_reducible refine' w_onT ?s0 ?q); (case s0 => assumption))
  | ((with_reducible refine' w_onU ?s0 ?q); (case s0 => assumption))
  | with_reducible refine w_onS ?_
  | ((with_reducible refine' w_onR1 ?s0 ?q); (case s0 => omega))
  | ((with_reducible refine' w_onR2 ?s0 ?q); (case s0 => omega))
  | with_reducible refine w_revL ?_
  | ((with_reducible refine' w_all ?s0 ?q); (case s0 => assumption))
  | ((with_reducible refine' w_any ?s0 ?q); (case s0 => assumption))
  | with_reducible refine w_bm ?_
  | with_reducible refine w_bm0 ?_
  | ((with_reducible refine' w_islst ?s0 ?q); (case s0 => assumption))
  | with_reducible refine w_kw ?_
  | ((with_reducible refine' w_isi ?s0 ?s1 ?q); (case s0 => assumption); (case s1 => assumption))
  | ((with_reducible refine' w_addS ?s0 ?q); (case s0 => first | omega | decide +kernel))
  | with_reducible refine w_dnew ?_
  | with_reducible refine w_pnil ?_
  | with_reducible refine w_pcons ?_
  | ((with_reducible refine' w_slS ?s0 ?q); (case s0 => first | assumption | omega))
  | ((with_reducible refine' w_inLS ?s0 ?q); (case s0 => assumption))
  | ((with_reducible refine' w_ninLS ?s0 ?q); (case s0 => assumption))
  | ((with_reducible refine' w_inTS ?s0 ?q); (case s0 => assumption))
  | with_reducible refine w_par ?_
  | with_reducible refine w_parEnd ?_
  | with_reducible refine w_fld ?_
  | with_reducible refine w_e1 ?_
  | with_reducible refine w_e2 ?_
  | with_reducible refine w_par3 ?_
  | with_reducible refine w_parEnd3 ?_
  | ((with_reducible refine' w_upper ?s0 ?q); (case s0 => first | assumption | omega | decide +kernel))
  | dsimp only [wipe, List.set_cons_zero, List.set_cons_succ])
local macro_rules | `(tactic| walk_at "w") => `(tactic| repeat walk_at "w1")
theorem ty_same {K : PySem.W.Frag} {H J : Hp} {v : V} {t : Value} (h : TyX K H v t) (s : Same H J) : TyX K J v t := by
  cases h with
  | base h =>
    cases h with
    | non => exact .base .non
    | bl x => exact .base (.bl x)
    | int x => exact .base (.int x)
    | str x => exact .base (.str x)
    | flt x => exact .base (.flt x)
    | lst e => exact .base (.lst (s _ _ e))
    | frz e => exact .base (.frz (s _ _ e))
    | tup e => exact .base (.tup (s _ _ e))
    | dK e => exact .base (.dK (s _ _ e))
    | dT e => exact .base (.dT (s _ _ e))
    | ins e cl ha hn htk hm => exact .base (.ins (s _ _ e) cl ha hn htk hm)
  | byt b => exact .byt b
  | set e => exact .set (s _ _ e)
  | kList e c => exact .kList e c
  | kTuple e c => exact .kTuple e c
  | kDict e c => exact .kDict e c
  | fTuple e => exact .fTuple (s _ _ e)
  | fDict e => exact .fDict (s _ _ e)
theorem Self.same {K : PySem.W.Frag} {H J : Hp} {v : V} (h : Self K H v) (s : Same H J) : Self K J v := by
  rcases h with ⟨d, h, r⟩ | ⟨a, e, h⟩
  · exact .inl ⟨d, dp_same s d v h, r⟩
  · exact .inr ⟨a, e, s _ _ h⟩
theorem Kinded.same {K : PySem.W.Frag} {H J : Hp} {v : V} (h : Kinded K H v) (s : Same H J) : Kinded K J v := by
  obtain ⟨t, b, ty, k⟩ := h
  exact ⟨t, b, ty_same ty s, k⟩
/-- a thing of this law -/
def Any (K : PySem.W.Frag) (H : Hp) (v : V) : Prop := Self K H v ∧ Kinded K H v
theorem Any.same {K : PySem.W.Frag} {H J : Hp} {v : V} (h : Any K H v) (s : Same H J) : Any K J v := ⟨h.1.same s, h.2.same s⟩
theorem dpAll_bits {K : PySem.W.Frag} {H : Hp} : ∀ bs : List Bool, DpAll K H (bs.map V.bl) (bs.map PyData.bool)
  | [] => .nil
  | b :: bs => .cons (.bl b) (dpAll_bits bs)
theorem dp_bits {K : PySem.W.Frag} {H : Hp} {p : Addr} {bs : List Bool} (h : Bits H p bs) : Dp K H (.ref p) (.list (bs.map .bool)) := .lst (SqL.of h) (dpAll_bits bs)
theorem w_same {K : PySem.W.Frag} {H : Hp} {v : V} {Q : VK} {E : XK} (h : Any K H v) (q : Q (.bl true) H) : spSame K [v, v] H Q E := ⟨v, rfl, h.1, h.2, q⟩
theorem w_rows {K : PySem.W.Frag} {H : Hp} {v : V} {x : Str} {fs : List (Str × V)} {Q : VK} {E : XK} (h : ErrV K H v x fs) (k : Nat) (hk : kindOf x = k) (q : ∀ p J, H p = none → Same H J → Bits J p (rowsOf k) → Q (.ref p) J) : spRows K [v] H Q E := ⟨v, x, fs, rfl, h, fun p J n s b => q p J n s (hk ▸ b)⟩
theorem w_of {H : Hp} {Q : VK} {E : XK} (k : Nat) (hk : k < 4) (q : ∀ p J, H p = none → Same H J → Bits J p (rowsOf k) → Q (.ref p) J) : spOf [.int (k : Int)] H Q E := ⟨k, rfl, hk, q⟩
theorem w_neBits {K : PySem.W.Frag} {H : Hp} {p r : Addr} {bs : List Bool} {Q : VK} (h1 : Bits H p bs) (h2 : Bits H r bs) (hs : SeqAt.shaped (.list (bs.map .bool)) = true) (he : PyData.eqv (.list (bs.map .bool)) (.list (bs.map .bool)) = true) (q : Q (.bl false) H) : rNeD K (.ref p) (.ref r) H Q :=
  ⟨_, _, dp_bits h1, dp_bits h2, hs, hs, by rw [he]; exact q⟩
def spGood (K : PySem.W.Frag) : Sp := fun vs H Q _ => ∃ y z, vs = [y, z] ∧ Any K H y ∧ Any K H z ∧ ∀ J, Same H J → Q (.bl true) J
def nmV : List Str := (es_values .non).map Prod.fst
def nmI : List Str := (es_indexes .non).map Prod.fst
def nmS : List Str := (es_states .non).map Prod.fst
theorem nmV_ok : nmV.all (fun x => decide (kindOf x = 0 ∧ (x, ("value" : Str)) ∈ ones)) = true := by decide +kernel
theorem nmI_ok : nmI.all (fun x => decide (kindOf x = 0 ∧ (x, ("index" : Str)) ∈ ones)) = true := by decide +kernel
theorem nmS_ok : nmS.all (fun x => decide (kindOf x = 1 ∧ (x, ("value" : Str)) ∈ ones)) = true := by decide +kernel
theorem vals_all (y : V) : ∀ e ∈ es_values y, e.2 = [(("value" : Str), y)] ∧ kindOf e.1 = 0 ∧ (e.1, ("value" : Str)) ∈ ones := by
  intro e he
  obtain ⟨x, hx, rfl⟩ := List.mem_map.mp (show e ∈ nmV.map (fun x => (x, [(("value" : Str), y)])) from he)
  exact ⟨rfl, of_decide_eq_true (List.all_eq_true.mp nmV_ok x hx)⟩
theorem idx_all (y : V) : ∀ e ∈ es_indexes y, e.2 = [(("index" : Str), y)] ∧ kindOf e.1 = 0 ∧ (e.1, ("index" : Str)) ∈ ones := by
  intro e he
  obtain ⟨x, hx, rfl⟩ := List.mem_map.mp (show e ∈ nmI.map (fun x => (x, [(("index" : Str), y)])) from he)
  exact ⟨rfl, of_decide_eq_true (List.all_eq_true.mp nmI_ok x hx)⟩
theorem states_all (y : V) : ∀ e ∈ es_states y, e.2 = [(("value" : Str), y)] ∧ kindOf e.1 = 1 ∧ (e.1, ("value" : Str)) ∈ ones := by
  intro e he
  obtain ⟨x, hx, rfl⟩ := List.mem_map.mp (show e ∈ nmS.map (fun x => (x, [(("value" : Str), y)])) from he)
  exact ⟨rfl, of_decide_eq_true (List.all_eq_true.mp nmS_ok x hx)⟩
theorem AllE.get {K : PySem.W.Frag} {H : Hp} : ∀ {vs : List V} {es : List (Str × List (Str × V))} {i : Nat} {v : V}, AllE K H vs es → vs[i]? = some v → ∃ e, es[i]? = some e ∧ ErrV K H v e.1 e.2
  | _, _, 0, v, .cons a b, h => by
    cases h
    exact ⟨_, rfl, a⟩
  | _, _, i + 1, v, .cons a b, h => by
    rw [List.getElem?_cons_succ] at h
    obtain ⟨e, he, ev⟩ := AllE.get (i := i) b h
    refine ⟨e, ?_, ev⟩
    rw [List.getElem?_cons_succ]
    exact he
theorem lookup_one {f : Str} {y : V} : [(f, y)].lookup f = some y := by
  unfold List.lookup
  rw [beq_self_eq_true]
def es_both (y z : V) : List (Str × List (Str × V)) := [(("BrokenRule" : Str), [(("index" : Str), z), (("member" : Str), y)]), (("BrokenRule" : Str), [(("index" : Str), z), (("member" : Str), y)])]
def es_four (y z : V) : List (Str × List (Str × V)) := [(("InvalidParents" : Str), [(("member" : Str), y)]), (("TwoAncestors" : Str), [(("member" : Str), y)])] ++ es_both y z
theorem kind_ip : kindOf "InvalidParents" = 2 := by decide +kernel
theorem kind_ta : kindOf "TwoAncestors" = 2 := by decide +kernel
theorem kind_br : kindOf "BrokenRule" = 2 := by decide +kernel
theorem four_all {P : Program} {w : World} {K : PySem.W.Frag} {mg : Str → Option Value} {base : Heap} (y z : V) : ∀ e ∈ es_four y z, e.2.lookup ("member" : Str) = some y ∧ kindOf e.1 = 2 ∧ (Errs P w K mg base → PySem.W.findIn K (.ref (mainAt K e.1)) "member" = some none) := by
  intro e he
  simp only [es_four, es_both, List.mem_append, List.mem_cons, List.not_mem_nil, or_false] at he
  rcases he with (rfl | rfl) | (rfl | rfl)
  · exact ⟨lookup_one, kind_ip, fun EE => (EE.m1 "InvalidParents" "member" (by decide +kernel)).get⟩
  · exact ⟨lookup_one, kind_ta, fun EE => (EE.m1 "TwoAncestors" "member" (by decide +kernel)).get⟩
  · exact ⟨rfl, kind_br, fun EE => EE.m2.get.1⟩
  · exact ⟨rfl, kind_br, fun EE => EE.m2.get.1⟩
/-- rows of truth values -/
def Rows (H : Hp) (vs : List V) (ks : List Nat) : Prop := Paired (fun v k => ∃ p, v = .ref p ∧ Bits H p (rowsOf k)) vs ks
theorem Rows.same {H J : Hp} (s : Same H J) : ∀ {vs : List V} {ks : List Nat}, Rows H vs ks → Rows J vs ks
  | _, _, .nil => .nil
  | _, _, .cons ⟨p, e, h⟩ b => .cons ⟨p, e, s _ _ h⟩ (Rows.same s b)
theorem Rows.snoc {H L : Hp} {p : Addr} {k : Nat} {vs : List V} {ks : List Nat} (g : Rows H vs ks) (s : Same H L) (h : Bits L p (rowsOf k)) : Rows L (vs ++ [.ref p]) (ks ++ [k]) := paired_app (g.same s) (.cons ⟨p, rfl, h⟩ .nil)
theorem Rows.dp {K : PySem.W.Frag} {H : Hp} : ∀ {vs : List V} {ks : List Nat}, Rows H vs ks → DpAll K H vs (ks.map fun k => .list ((rowsOf k).map .bool))
  | _, _, .nil => .nil
  | _, _, .cons ⟨p, e, h⟩ b => by
    subst e
    exact .cons (dp_bits h) (Rows.dp b)
theorem w_neRows {K : PySem.W.Frag} {H : Hp} {p r : Addr} {vs ws : List V} {ks : List Nat} {Q : VK} (h1 : H p = some (.lst vs)) (g1 : Rows H vs ks) (h2 : H r = some (.lst ws)) (g2 : Rows H ws ks)
    (hs : SeqAt.shaped (.list (ks.map fun k => .list ((rowsOf k).map .bool))) = true) (he : PyData.eqv (.list (ks.map fun k => .list ((rowsOf k).map .bool))) (.list (ks.map fun k => .list ((rowsOf k).map .bool))) = true) (q : Q (.bl false) H) : rNeD K (.ref p) (.ref r) H Q :=
  ⟨_, _, .lst (SqL.of h1) g1.dp, .lst (SqL.of h2) g2.dp, hs, hs, by rw [he]; exact q⟩
abbrev s__law_good : Stmt := topS 66
theorem sc__law_good : FnScope ["thing", "other", "e", "both", "told"] ["thing", "other"] (defScope s__law_good) := ⟨rfl, rfl, rfl, by decide +kernel, rfl, by decide +kernel, by decide +kernel⟩
section
variable {P : Program} {w : World} {K : PySem.W.Frag} {mg : Str → Option Value} {base : Heap}
theorem ok__law_good {f : Addr} {fd : FuncData} (F : Fun K "_law_good" "_law_good" s__law_good f fd) (T : Txt K mg) (EE : Errs P w K mg base) (c__law_values : Cal P w K mg base 3 "_law_values" (sp_values K)) (c__law_indexes : Cal P w K mg base 3 "_law_indexes" (sp_indexes K)) (c__law_states : Cal P w K mg base 3 "_law_states" (sp_states K))
    (c__law_same : Cal P w K mg base 1 "_law_same" (spSame K)) (c__law_rows : Cal P w K mg base 1 "_law_rows" (spRows K)) (c__law_of : Cal P w K mg base 1 "_law_of" spOf) : FnOk P w K mg base CX0 4 f fd ["thing", "other"] (spGood K) := by
  refine F.ok sc__law_good (fun vs H Q E h => ?_) (fun cdv A outer s H vs Q E hr h => ?_)
  · obtain ⟨y, z, rfl, _⟩ := h
    rfl
  · obtain ⟨y, z, rfl, hy, hz, q⟩ := h
    refine ⟨_, (pss_cons (ps_for PassesOwn.never rfl (k_iL (K := K) (pe_c c__law_values hr (by decide) (by rfl) (pa_cons (pv 0) pa_nil))) (pg_name (i := 2) sc__law_good.nd rfl (by first | exact Or.inl rfl | exact Or.inr rfl))
    (pss_one (ps_if (PW.pt (pw_or (pt_not (pt_val (pe_c c__law_same hr (by decide) (by rfl) (pa_cons (pe_fld (pv 2)) (pa_cons (pv 0) pa_nil))))) (pw_or1 (pt_cmpR (k_neD (K := K) hr.units) (pe_c c__law_rows hr (by decide) (by rfl) (pa_cons (pv 2) pa_nil)) (pe_c c__law_of hr (by decide) (by rfl) (pa_cons pe_int pa_nil)) (nomark _)))))
    (pss_one (ps_ret pe_bl))
    pss_nil)))
  (pss_cons (ps_for PassesOwn.never rfl (k_iL (K := K) (pe_c c__law_indexes hr (by decide) (by rfl) (pa_cons (pv 0) pa_nil))) (pg_name (i := 2) sc__law_good.nd rfl (by first | exact Or.inl rfl | exact Or.inr rfl))
    (pss_one (ps_if (PW.pt (pw_or (pt_not (pt_val (pe_c c__law_same hr (by decide) (by rfl) (pa_cons (pe_fld (pv 2)) (pa_cons (pv 0) pa_nil))))) (pw_or1 (pt_cmpR (k_neD (K := K) hr.units) (pe_c c__law_rows hr (by decide) (by rfl) (pa_cons (pv 2) pa_nil)) (pe_c c__law_of hr (by decide) (by rfl) (pa_cons pe_int pa_nil)) (nomark _)))))
    (pss_one (ps_ret pe_bl))
    pss_nil)))
  (pss_cons (ps_for PassesOwn.never rfl (k_iL (K := K) (pe_c c__law_states hr (by decide) (by rfl) (pa_cons (pv 0) pa_nil))) (pg_name (i := 2) sc__law_good.nd rfl (by first | exact Or.inl rfl | exact Or.inr rfl))
    (pss_one (ps_if (PW.pt (pw_or (pt_not (pt_val (pe_c c__law_same hr (by decide) (by rfl) (pa_cons (pe_fld (pv 2)) (pa_cons (pv 0) pa_nil))))) (pw_or1 (pt_cmpR (k_neD (K := K) hr.units) (pe_c c__law_rows hr (by decide) (by rfl) (pa_cons (pv 2) pa_nil)) (pe_c c__law_of hr (by decide) (by rfl) (pa_cons pe_int pa_nil)) (nomark _)))))
    (pss_one (ps_ret pe_bl))
    pss_nil)))
  (pss_cons (ps_set (i := 3) sc__law_good.nd rfl (by first | exact Or.inl rfl | exact Or.inr rfl) (pe_lst (pa_cons (pe_e2 EE.m2 hr (by decide) (by rfl) (pa_cons (pv 0) (pa_cons (pv 1) pa_nil))) (pa_cons (pe_e2k EE.m2 hr (by decide) (by rfl) (pk_cons (pv 1) (pk_cons (pv 0) pk_nil))) pa_nil))))
  (pss_cons (ps_for PassesOwn.never rfl (k_iL (K := K) (pe_op op_cat (pe_lst (pa_cons (pe_e1 (EE.m1 "InvalidParents" "member" (by decide +kernel)) hr (by decide) (by rfl) (pa_cons (pv 0) pa_nil)) (pa_cons (pe_e1 (EE.m1 "TwoAncestors" "member" (by decide +kernel)) hr (by decide) (by rfl) (pa_cons (pv 0) pa_nil)) pa_nil))) (pv 3))) (pg_name (i := 2) sc__law_good.nd rfl (by first | exact Or.inl rfl | exact Or.inr rfl))
    (pss_one (ps_if (PW.pt (pw_or (pt_not (pt_val (pe_c c__law_same hr (by decide) (by rfl) (pa_cons (pe_fld (pv 2)) (pa_cons (pv 0) pa_nil))))) (pw_or1 (pt_cmpR (k_neD (K := K) hr.units) (pe_c c__law_rows hr (by decide) (by rfl) (pa_cons (pv 2) pa_nil)) (pe_c c__law_of hr (by decide) (by rfl) (pa_cons pe_int pa_nil)) (nomark _)))))
    (pss_one (ps_ret pe_bl))
    pss_nil)))
  (pss_cons (ps_if (PW.pt (pw_or (pt_not (pt_val (pe_c c__law_same hr (by decide) (by rfl) (pa_cons (pe_fld (pe_e2 EE.m2 hr (by decide) (by rfl) (pa_cons (pv 0) (pa_cons (pv 1) pa_nil)))) (pa_cons (pv 1) pa_nil))))) (pw_or1 (pt_not (pt_val (pe_c c__law_same hr (by decide) (by rfl) (pa_cons (pe_fld (pe_e1 (EE.m1 "NotAllowed" "value" (by decide +kernel)) hr (by decide) (by rfl) (pa_cons (pv 0) pa_nil))) (pa_cons (pv 0) pa_nil))))))))
    (pss_one (ps_ret pe_bl))
    pss_nil)
  (pss_cons (ps_set (i := 4) sc__law_good.nd rfl (by first | exact Or.inl rfl | exact Or.inr rfl) (pe_lst (pa_cons (pe_c c__law_rows hr (by decide) (by rfl) (pa_cons (pe_e1 (EE.m1 "NotAllowed" "value" (by decide +kernel)) hr (by decide) (by rfl) (pa_cons (pv 0) pa_nil)) pa_nil)) (pa_cons (pe_c c__law_rows hr (by decide) (by rfl) (pa_cons (pe_e1 (EE.m1 "NotDetermined" "blind_spot" (by decide +kernel)) hr (by decide) (by rfl) (pa_cons (pv 0) pa_nil)) pa_nil)) (pa_cons (pe_c c__law_rows hr (by decide) (by rfl) (pa_cons (pe_e0 (EE.m0 "NotComparable" (by decide +kernel)) (by rfl)) pa_nil)) pa_nil)))))
  (pss_cons (ps_set (i := 4) sc__law_good.nd rfl (by first | exact Or.inl rfl | exact Or.inr rfl) (pe_op op_cat (pv 4) (pe_lst (pa_cons (pe_c c__law_rows hr (by decide) (by rfl) (pa_cons (pe_e0 (EE.m0 "OtherCube" (by decide +kernel)) (by rfl)) pa_nil)) (pa_cons (pe_c c__law_rows hr (by decide) (by rfl) (pa_cons (pe_e0 (EE.m0 "NothingToUndo" (by decide +kernel)) (by rfl)) pa_nil)) (pa_cons (pe_c c__law_rows hr (by decide) (by rfl) (pa_cons (pe_e1 (EE.m1 "TooMany" "limit" (by decide +kernel)) hr (by decide) (by rfl) (pa_cons (pv 0) pa_nil)) pa_nil)) pa_nil))))))
  (pss_cons (ps_if (pt_cmpR (k_neD (K := K) hr.units) (pv 4) (pe_lst (pa_cons (pe_c c__law_of hr (by decide) (by rfl) (pa_cons pe_int pa_nil)) (pa_cons (pe_c c__law_of hr (by decide) (by rfl) (pa_cons pe_int pa_nil)) (pa_cons (pe_c c__law_of hr (by decide) (by rfl) (pa_cons pe_int pa_nil)) (pa_cons (pe_c c__law_of hr (by decide) (by rfl) (pa_cons pe_int pa_nil)) (pa_cons (pe_c c__law_of hr (by decide) (by rfl) (pa_cons pe_int pa_nil)) (pa_cons (pe_c c__law_of hr (by decide) (by rfl) (pa_cons pe_int pa_nil)) pa_nil))))))) (nomark _))
    (pss_one (ps_ret pe_bl))
    pss_nil)
  (pss_one (ps_ret (pe_and (pe_c c__law_same hr (by decide) (by rfl) (pa_cons (pe_fld (pe_e1k (EE.m1 "TooMany" "limit" (by decide +kernel)) hr (by decide) (by rfl) (pk_cons (pv 0) pk_nil))) (pa_cons (pv 0) pa_nil))) (pe_one (pe_c c__law_same hr (by decide) (by rfl) (pa_cons (pe_fld (pe_e1k (EE.m1 "NotDetermined" "blind_spot" (by decide +kernel)) hr (by decide) (by rfl) (pk_cons (pv 0) pk_nil))) (pa_cons (pv 0) pa_nil)))))))))))))))), ?_⟩
    walk_at "w0"
    refine seq_cut (fun σ J => (∃ o1 o2 o3, σ = [some y, some z, o1, o2, o3]) ∧ Same H J) (fun N hN => ?_) ?_
    · walk_at "w"
      refine ⟨y, rfl, fun p ws J np s0 hp al => ?_⟩
      walk_at "w"
      refine w_loop walk_list (fun i σ M => (∃ o1 o2 o3, σ = [some y, some z, o1, o2, o3]) ∧ Same J M) ⟨⟨_, _, _, rfl⟩, Same.refl _⟩ (fun _ _ _ _ h => h.2.seq (SqL.of hp)) ?_ ?_
      · rintro i v σ L0 M hi ⟨⟨o1, o2, o3, rfl⟩, s1⟩ ⟨rfl, hx⟩
        obtain ⟨e, he, ev⟩ := al.get hx
        obtain ⟨e2, ek, eo⟩ := vals_all y e (List.mem_of_getElem? he)
        obtain ⟨en, ef⟩ := e
        have ev1 := ev.same s1
        obtain ⟨a, rfl, hn, ea⟩ := ev1
        walk_at "w"
        refine w_getF (EE.xc en hn) ((EE.m1 en "value" eo).get) ea (by rw [show ef = _ from e2]; exact lookup_one) ?_
        walk_at "w"
        refine w_same (hy.same (s0.trans s1)) ⟨true, rfl, iteF ?_⟩
        walk_at "w"
        refine w_rows ⟨a, rfl, hn, ea⟩ 0 ek fun p1 J1 n1 z1 b1 => ?_
        walk_at "w"
        refine w_of 0 (by decide) fun p2 J2 n2 z2 b2 => ?_
        walk_at "w"
        refine w_neBits (z2 _ _ b1) b2 (by decide +kernel) (by decide +kernel) ?_
        walk_at "w"
        exact ⟨⟨_, _, _, rfl⟩, (s1.trans z1).trans z2⟩
      · rintro σ M ⟨⟨o1, o2, o3, rfl⟩, s1⟩
        exact hN _ _ ⟨⟨_, _, _, rfl⟩, s0.trans s1⟩
    rintro _ H1 ⟨⟨o1, o2, o3, rfl⟩, t1⟩
    refine seq_cut (fun σ J => (∃ o1 o2 o3, σ = [some y, some z, o1, o2, o3]) ∧ Same H J) (fun N hN => ?_) ?_
    · walk_at "w"
      refine ⟨y, rfl, fun p ws J np s00 hp al => ?_⟩
      have s0 := t1.trans s00
      walk_at "w"
      refine w_loop walk_list (fun i σ M => (∃ o1 o2 o3, σ = [some y, some z, o1, o2, o3]) ∧ Same J M) ⟨⟨_, _, _, rfl⟩, Same.refl _⟩ (fun _ _ _ _ h => h.2.seq (SqL.of hp)) ?_ ?_
      · rintro i v σ L0 M hi ⟨⟨o1, o2, o3, rfl⟩, s1⟩ ⟨rfl, hx⟩
        obtain ⟨e, he, ev⟩ := al.get hx
        obtain ⟨e2, ek, eo⟩ := idx_all y e (List.mem_of_getElem? he)
        obtain ⟨en, ef⟩ := e
        have ev1 := ev.same s1
        obtain ⟨a, rfl, hn, ea⟩ := ev1
        walk_at "w"
        refine w_getF (EE.xc en hn) ((EE.m1 en "index" eo).get) ea (by rw [show ef = _ from e2]; exact lookup_one) ?_
        walk_at "w"
        refine w_same (hy.same (s0.trans s1)) ⟨true, rfl, iteF ?_⟩
        walk_at "w"
        refine w_rows ⟨a, rfl, hn, ea⟩ 0 ek fun p1 J1 n1 z1 b1 => ?_
        walk_at "w"
        refine w_of 0 (by decide) fun p2 J2 n2 z2 b2 => ?_
        walk_at "w"
        refine w_neBits (z2 _ _ b1) b2 (by decide +kernel) (by decide +kernel) ?_
        walk_at "w"
        exact ⟨⟨_, _, _, rfl⟩, (s1.trans z1).trans z2⟩
      · rintro σ M ⟨⟨o1, o2, o3, rfl⟩, s1⟩
        exact hN _ _ ⟨⟨_, _, _, rfl⟩, s0.trans s1⟩
    rintro _ H1 ⟨⟨o1, o2, o3, rfl⟩, t1⟩
    refine seq_cut (fun σ J => (∃ o1 o2 o3, σ = [some y, some z, o1, o2, o3]) ∧ Same H J) (fun N hN => ?_) ?_
    · walk_at "w"
      refine ⟨y, rfl, fun p ws J np s00 hp al => ?_⟩
      have s0 := t1.trans s00
      walk_at "w"
      refine w_loop walk_list (fun i σ M => (∃ o1 o2 o3, σ = [some y, some z, o1, o2, o3]) ∧ Same J M) ⟨⟨_, _, _, rfl⟩, Same.refl _⟩ (fun _ _ _ _ h => h.2.seq (SqL.of hp)) ?_ ?_
      · rintro i v σ L0 M hi ⟨⟨o1, o2, o3, rfl⟩, s1⟩ ⟨rfl, hx⟩
        obtain ⟨e, he, ev⟩ := al.get hx
        obtain ⟨e2, ek, eo⟩ := states_all y e (List.mem_of_getElem? he)
        obtain ⟨en, ef⟩ := e
        have ev1 := ev.same s1
        obtain ⟨a, rfl, hn, ea⟩ := ev1
        walk_at "w"
        refine w_getF (EE.xc en hn) ((EE.m1 en "value" eo).get) ea (by rw [show ef = _ from e2]; exact lookup_one) ?_
        walk_at "w"
        refine w_same (hy.same (s0.trans s1)) ⟨true, rfl, iteF ?_⟩
        walk_at "w"
        refine w_rows ⟨a, rfl, hn, ea⟩ 1 ek fun p1 J1 n1 z1 b1 => ?_
        walk_at "w"
        refine w_of 1 (by decide) fun p2 J2 n2 z2 b2 => ?_
        walk_at "w"
        refine w_neBits (z2 _ _ b1) b2 (by decide +kernel) (by decide +kernel) ?_
        walk_at "w"
        exact ⟨⟨_, _, _, rfl⟩, (s1.trans z1).trans z2⟩
      · rintro σ M ⟨⟨o1, o2, o3, rfl⟩, s1⟩
        exact hN _ _ ⟨⟨_, _, _, rfl⟩, s0.trans s1⟩
    rintro _ H1 ⟨⟨o1, o2, o3, rfl⟩, t1⟩
    refine seq_cut (fun σ J => ∃ o1 p o3 ws, σ = [some y, some z, o1, some (.ref p), o3] ∧ Same H J ∧ J p = some (.lst ws) ∧ ws.length = 2 ∧ AllE K J ws (es_both y z)) (fun N hN => ?_) ?_
    · walk_at "w"
      refine w_aE2 fun a1 L1 n1 s1 e1 => ?_
      walk_at "w"
      have g0 : AllE K H1 [] [] := .nil
      have g1 := g0.snoc (x := "BrokenRule") s1 (by decide +kernel) e1
      show aE2 _ _ _ [y, z] _ _
      refine w_aE2 fun a2 L2 n2 s2 e2 => ?_
      have g2 := g1.snoc (x := "BrokenRule") s2 (by decide +kernel) e2
      walk_at "w"
      refine w_newL rfl fun p L3 n3 s3 h3 => ?_
      walk_at "w"
      exact hN _ _ ⟨_, p, _, _, rfl, ((t1.trans s1).trans s2).trans s3, h3, rfl, g2.same s3⟩
    rintro _ H2 ⟨o1, pb, o3, wb, rfl, t2, hpb, lb, gb⟩
    refine seq_cut (fun σ J => (∃ o1 o2 o3, σ = [some y, some z, o1, o2, o3]) ∧ Same H J) (fun N hN => ?_) ?_
    · walk_at "w"
      refine w_aE1 fun a1 L1 n1 s1 e1 => ?_
      walk_at "w"
      have g0 : AllE K H2 [] [] := .nil
      have g1 := g0.snoc (x := "InvalidParents") s1 (by decide +kernel) e1
      refine w_aE1 fun a2 L2 n2 s2 e2 => ?_
      have g2 := g1.snoc (x := "TwoAncestors") s2 (by decide +kernel) e2
      walk_at "w"
      refine w_newL rfl fun p1 L3 n3 s3 h3 => ?_
      walk_at "w"
      refine w_cat h3 (((s1.trans s2).trans s3) _ _ hpb) (by rw [lb]; exact Nat.le_of_ble_eq_true rfl) fun p J n4 s4 hp => ?_
      have al : AllE K J _ (es_four y z) := paired_app (g2.same (s3.trans s4)) (gb.same (((s1.trans s2).trans s3).trans s4))
      have s0 := t2.trans (((s1.trans s2).trans s3).trans s4)
      walk_at "w"
      refine w_loop walk_list (fun i σ M => (∃ o1 o2 o3, σ = [some y, some z, o1, o2, o3]) ∧ Same J M) ⟨⟨_, _, _, rfl⟩, Same.refl _⟩ (fun _ _ _ _ h => h.2.seq (SqL.of hp)) ?_ ?_
      · rintro i v σ L0 M hi ⟨⟨o1, o2, o3, rfl⟩, s1⟩ ⟨rfl, hx⟩
        obtain ⟨e, he, ev⟩ := al.get hx
        obtain ⟨e2, ek, eo⟩ := four_all (P := P) (w := w) (mg := mg) (base := base) (K := K) y z e (List.mem_of_getElem? he)
        obtain ⟨en, ef⟩ := e
        have ev1 := ev.same s1
        obtain ⟨a, rfl, hn, ea⟩ := ev1
        walk_at "w"
        refine w_getF (EE.xc en hn) (eo EE) ea (e2) ?_
        walk_at "w"
        refine w_same (hy.same (s0.trans s1)) ⟨true, rfl, iteF ?_⟩
        walk_at "w"
        refine w_rows ⟨a, rfl, hn, ea⟩ 2 ek fun p1 J1 n1 z1 b1 => ?_
        walk_at "w"
        refine w_of 2 (by decide) fun p2 J2 n2 z2 b2 => ?_
        walk_at "w"
        refine w_neBits (z2 _ _ b1) b2 (by decide +kernel) (by decide +kernel) ?_
        walk_at "w"
        exact ⟨⟨_, _, _, rfl⟩, (s1.trans z1).trans z2⟩
      · rintro σ M ⟨⟨o1, o2, o3, rfl⟩, s1⟩
        exact hN _ _ ⟨⟨_, _, _, rfl⟩, s0.trans s1⟩
    rintro _ H3 ⟨⟨o1, o2, o3, rfl⟩, t3⟩
    refine seq_cut (fun σ J => (∃ o1 o2 o3, σ = [some y, some z, o1, o2, o3]) ∧ Same H J) (fun N hN => ?_) ?_
    · walk_at "w"
      refine w_aE2 fun a1 L1 n1 s1 e1 => ?_
      walk_at "w"
      refine w_getF (EE.xc "BrokenRule" (by decide +kernel)) EE.m2.get.2 e1 (by rfl) ?_
      walk_at "w"
      refine w_same (hz.same (t3.trans s1)) ⟨true, rfl, iteF ?_⟩
      walk_at "w"
      refine w_aE1 fun a2 L2 n2 s2 e2 => ?_
      walk_at "w"
      refine w_getF (EE.xc "NotAllowed" (by decide +kernel)) (EE.m1 "NotAllowed" "value" (by decide +kernel)).get e2 lookup_one ?_
      walk_at "w"
      refine w_same (hy.same ((t3.trans s1).trans s2)) ⟨true, rfl, iteF ?_⟩
      walk_at "w"
      exact hN _ _ ⟨⟨_, _, _, rfl⟩, (t3.trans s1).trans s2⟩
    rintro _ H4 ⟨⟨o1, o2, o3, rfl⟩, t4⟩
    refine seq_cut (fun σ J => ∃ o1 o2 p ws, σ = [some y, some z, o1, o2, some (.ref p)] ∧ Same H J ∧ J p = some (.lst ws) ∧ ws.length = 3 ∧ Rows J ws [2, 2, 2]) (fun N hN => ?_) ?_
    · walk_at "w"
      have g0 : Rows H4 [] [] := .nil
      have u0 : Same H4 H4 := Same.refl _
      refine w_aE1 fun a1 L1 n1 s1 e1 => ?_
      walk_at "w"
      refine w_rows ⟨a1, rfl, (by decide +kernel : ("NotAllowed" : Str) ∈ allN), e1⟩ 2 (by decide +kernel) fun p1 M1 c1 r1 b1 => ?_
      have g1 := g0.snoc (s1.trans r1) b1
      have u1 := u0.trans (s1.trans r1)
      walk_at "w"
      refine w_aE1 fun a2 L2 n2 s2 e2 => ?_
      walk_at "w"
      refine w_rows ⟨a2, rfl, (by decide +kernel : ("NotDetermined" : Str) ∈ allN), e2⟩ 2 (by decide +kernel) fun p2 M2 c2 r2 b2 => ?_
      have g2 := g1.snoc (s2.trans r2) b2
      have u2 := u1.trans (s2.trans r2)
      walk_at "w"
      intro a3 L3 n3 s3 e3
      walk_at "w"
      refine w_rows ⟨a3, rfl, (by decide +kernel : ("NotComparable" : Str) ∈ allN), e3⟩ 2 (by decide +kernel) fun p3 M3 c3 r3 b3 => ?_
      have g3 := g2.snoc (s3.trans r3) b3
      have u3 := u2.trans (s3.trans r3)
      walk_at "w"
      refine w_newL rfl fun q1 O1 d1 v1 h1 => ?_
      walk_at "w"
      exact hN _ _ ⟨_, _, q1, _, rfl, t4.trans (u3.trans v1), h1, rfl, g3.same v1⟩
    rintro _ H5 ⟨o1, o2, p, ws, rfl, t4, hp, hl, gg⟩
    refine seq_cut (fun σ J => ∃ o1 o2 p ws, σ = [some y, some z, o1, o2, some (.ref p)] ∧ Same H J ∧ J p = some (.lst ws) ∧ ws.length = 6 ∧ Rows J ws [2, 2, 2, 2, 1, 3]) (fun N hN => ?_) ?_
    · walk_at "w"
      have g0 : Rows H5 [] [] := .nil
      have u0 : Same H5 H5 := Same.refl _
      intro a1 L1 n1 s1 e1
      walk_at "w"
      refine w_rows ⟨a1, rfl, (by decide +kernel : ("OtherCube" : Str) ∈ allN), e1⟩ 2 (by decide +kernel) fun p1 M1 c1 r1 b1 => ?_
      have g1 := g0.snoc (s1.trans r1) b1
      have u1 := u0.trans (s1.trans r1)
      walk_at "w"
      intro a2 L2 n2 s2 e2
      walk_at "w"
      refine w_rows ⟨a2, rfl, (by decide +kernel : ("NothingToUndo" : Str) ∈ allN), e2⟩ 1 (by decide +kernel) fun p2 M2 c2 r2 b2 => ?_
      have g2 := g1.snoc (s2.trans r2) b2
      have u2 := u1.trans (s2.trans r2)
      walk_at "w"
      refine w_aE1 fun a3 L3 n3 s3 e3 => ?_
      walk_at "w"
      refine w_rows ⟨a3, rfl, (by decide +kernel : ("TooMany" : Str) ∈ allN), e3⟩ 3 (by decide +kernel) fun p3 M3 c3 r3 b3 => ?_
      have g3 := g2.snoc (s3.trans r3) b3
      have u3 := u2.trans (s3.trans r3)
      walk_at "w"
      refine w_newL rfl fun q1 O1 d1 v1 h1 => ?_
      walk_at "w"
      refine w_cat ((u3.trans v1) _ _ hp) h1 (by rw [hl]; exact Nat.le_of_ble_eq_true rfl) fun q2 O2 d2 v2 h2 => ?_
      walk_at "w"
      exact hN _ _ ⟨_, _, q2, _, rfl, t4.trans ((u3.trans v1).trans v2), h2, by rw [List.length_append, hl]; rfl, paired_app (gg.same ((u3.trans v1).trans v2)) (g3.same (v1.trans v2))⟩
    rintro _ H6 ⟨o1, o2, p, ws, rfl, t4, hp, hl, gg⟩
    refine seq_cut (fun σ J => (∃ o1 o2 o3, σ = [some y, some z, o1, o2, o3]) ∧ Same H J) (fun N hN => ?_) ?_
    · walk_at "w"
      have g0 : Rows H6 [] [] := .nil
      have u0 : Same H6 H6 := Same.refl _
      refine w_of 2 (by decide) fun p1 M1 c1 r1 b1 => ?_
      have g1 := g0.snoc r1 b1
      have u1 := u0.trans r1
      walk_at "w"
      refine w_of 2 (by decide) fun p2 M2 c2 r2 b2 => ?_
      have g2 := g1.snoc r2 b2
      have u2 := u1.trans r2
      walk_at "w"
      refine w_of 2 (by decide) fun p3 M3 c3 r3 b3 => ?_
      have g3 := g2.snoc r3 b3
      have u3 := u2.trans r3
      walk_at "w"
      refine w_of 2 (by decide) fun p4 M4 c4 r4 b4 => ?_
      have g4 := g3.snoc r4 b4
      have u4 := u3.trans r4
      walk_at "w"
      refine w_of 1 (by decide) fun p5 M5 c5 r5 b5 => ?_
      have g5 := g4.snoc r5 b5
      have u5 := u4.trans r5
      walk_at "w"
      refine w_of 3 (by decide) fun p6 M6 c6 r6 b6 => ?_
      have g6 := g5.snoc r6 b6
      have u6 := u5.trans r6
      walk_at "w"
      refine w_newL rfl fun q1 O1 d1 v1 h1 => ?_
      walk_at "w"
      refine w_neRows ((u6.trans v1) _ _ hp) (gg.same (u6.trans v1)) h1 (g6.same v1) (by decide +kernel) (by decide +kernel) ?_
      walk_at "w"
      exact hN _ _ ⟨⟨_, _, _, rfl⟩, t4.trans (u6.trans v1)⟩
    rintro _ H7 ⟨⟨o1, o2, o3, rfl⟩, t7⟩
    walk_at "w"
    refine w_aE1 fun a1 L1 n1 s1 e1 => ?_
    walk_at "w"
    refine w_getF (EE.xc "TooMany" (by decide +kernel)) (EE.m1 "TooMany" "limit" (by decide +kernel)).get e1 lookup_one ?_
    walk_at "w"
    refine w_same (hy.same (t7.trans s1)) ⟨true, rfl, iteT ?_⟩
    walk_at "w"
    refine w_aE1 fun a2 L2 n2 s2 e2 => ?_
    walk_at "w"
    refine w_getF (EE.xc "NotDetermined" (by decide +kernel)) (EE.m1 "NotDetermined" "blind_spot" (by decide +kernel)).get e2 lookup_one ?_
    walk_at "w"
    refine w_same (hy.same ((t7.trans s1).trans s2)) ?_
    exact q _ ((t7.trans s1).trans s2)
end

end RT
set_option Elab.async false
set_option linter.all false
set_option maxRecDepth 100000
set_option maxHeartbeats 4000000
namespace RT
open PySem PySem.Spec PyProof.Rows L2
local macro_rules | `(tactic| walk_at "w0") => `(tactic| dsimp only [L2.start, cxOf, Cx.nox, Cx.wish, List.map, List.length_cons, List.length_nil, List.replicate_succ, List.replicate_zero, List.cons_append, List.nil_append, Nat.reduceAdd, Nat.reduceSub, List.set_cons_zero, List.set_cons_succ])
local macro_rules | `(tactic| walk_at "w1") => `(tactic| first
  | with_reducible refine w_seq ?_
  | with_reducible refine w_asg ?_
  | with_reducible refine w_var rfl ?_
  | with_reducible refine w_c ?_
  | with_reducible refine w_op ?_
  | with_reducible refine w_cons ?_
  | with_reducible refine w_nil ?_
  | with_reducible refine w_gname ?_
  | with_reducible refine w_cb ?_
  | with_reducible refine w_I0 ?_
  | with_reducible refine w_bl ?_
  | ((with_reducible refine' w_ixL ?s0 ?s1 ?q); (case s0 => assumption); (case s1 => rfl))
  | ((with_reducible refine' w_ixT ?s0 ?s1 ?q); (case s0 => assumption); (case s1 => rfl))
  | with_reducible refine w_gsub ?_
  | with_reducible refine w_ifS ?_
  | with_reducible refine w_test ?_
  | with_reducible refine w_call ?_
  | with_reducible refine w_ret ?_
  | with_reducible refine w_int1 ?_
  | with_reducible refine w_int ?_
  | with_reducible refine w_next ?_
  | with_reducible refine w_drop ?_
  | ((with_reducible refine' w_mod ?s0 ?q); (case s0 => omega))
  | ((with_reducible refine' w_div ?s0 ?q); (case s0 => omega))
  | ((with_reducible refine' w_mul ?s0 ?q); (case s0 => omega))
  | ((with_reducible refine' w_pow ?s0 ?q); (case s0 => decide))
  | with_reducible refine w_B ?_
  | with_reducible refine w_and ?_
  | with_reducible refine w_or ?_
  | with_reducible refine w_not ?_
  | with_reducible refine w_T ?_
  | with_reducible refine w_F ?_
  | with_reducible refine w_nT ?_
  | with_reducible refine w_nF ?_
  | with_reducible refine w_un ?_
  | with_reducible refine w_U ?_
  | with_reducible refine w_if ?_
  | with_reducible refine w_lst ?_
  | with_reducible refine w_tup ?_
  | with_reducible refine w_sl ?_
  | with_reducible refine w_part ?_
  | with_reducible refine w_nopart ?_
  | with_reducible refine w_eqI ?_
  | with_reducible refine w_neI ?_
  | with_reducible refine w_eqS ?_
  | with_reducible refine w_neS ?_
  | with_reducible refine w_abs ?_
  | with_reducible refine w_max2 ?_
  | with_reducible refine w_min2 ?_
  | ((with_reducible refine' w_lenL ?s0 ?q); (case s0 => assumption))
  | ((with_reducible refine' w_lenH ?s0 ?q); (case s0 => assumption))
  | ((with_reducible refine' w_lenT ?s0 ?q); (case s0 => assumption))
  | ((with_reducible refine' w_lenS ?s0 ?q); (case s0 => first | assumption | omega | decide +kernel))
  | with_reducible refine w_inC ?_
  | with_reducible refine w_ninC ?_
  | with_reducible refine w_m1 ?_
  | with_reducible refine w_m0 ?_
  | with_reducible refine w_isstr ?_
  | with_reducible refine w_andV ?_
  | with_reducible refine w_orV ?_
  | with_reducible refine w_notV ?_
  | with_reducible refine w_chain ?_
  | with_reducible refine w_retN ?_
  | with_reducible refine w_break ?_
  | with_reducible refine w_cont ?_
  | with_reducible refine w_yes ?_
  | with_reducible refine w_for ?_
  | with_reducible refine w_lc ?_
  | with_reducible refine w_iList ?_
  | with_reducible refine w_iTup ?_
  | with_reducible refine w_iStr ?_
  | with_reducible refine w_iR1 ?_
  | with_reducible refine w_iR2 ?_
  | ((with_reducible refine' w_onL ?s0 ?q); (case s0 => assumption))
  | ((with_reducible refine' w_onQ ?s0 ?q); (case s0 => assumption))
  | ((with_reducible refine' w_onT ?s0 ?q); (case s0 => assumption))
  | ((with_reducible refine' w_onU ?s0 ?q); (case s0 => assumption))
  | with_reducible refine w_onS ?_
  | ((with_reducible refine' w_onR1 ?s0 ?q); (case s0 => omega))
  | ((with_reducible refine' w_onR2 ?s0 ?q); (case s0 => omega))
  | with_reducible refine w_revL ?_
  | ((with_reducible refine' w_all ?s0 ?q); (case s0 => assumption))
  | ((with_reducible refine' w_any ?s0 ?q); (case s0 => assumption))
  | with_reducible refine w_bm ?_
  | with_reducible refine w_bm0 ?_
  | ((with_reducible refine' w_islst ?s0 ?q); (case s0 => assumption))
  | with_reducible refine w_kw ?_
  | ((with_reducible refine' w_isi ?s0 ?s1 ?q); (case s0 => assumption); (case s1 => assumption))
  | ((with_reducible refine' w_addS ?s0 ?q); (case s0 => first | omega | decide +kernel))
  | with_reducible refine w_dnew ?_
  | with_reducible refine w_pnil ?_
  | with_reducible refine w_pcons ?_
  | ((with_reducible refine' w_slS ?s0 ?q); (case s0 => first | assumption | omega))
  | ((with_reducible refine' w_inLS ?s0 ?q); (case s0 => assumption))
  | ((with_reducible refine' w_ninLS ?s0 ?q); (case s0 => assumption))
  | ((with_reducible refine' w_inTS ?s0 ?q); (case s0 => assumption))
  | with_reducible refine w_par ?_
  | with_reducible refine w_parEnd ?_
  | with_reducible refine w_fld ?_
  | with_reducible refine w_e1 ?_
  | with_reducible refine w_e2 ?_
  | with_reducible refine w_par3 ?_
  | with_reducible refine w_parEnd3 ?_
  | ((with_reducible refine' w_upper ?s0 ?q); (case s0 => first | assumption | omega | decide +kernel))
  | dsimp only [wipe, List.set_cons_zero, List.set_cons_succ])
local macro_rules | `(tactic| walk_at "w") => `(tactic| repeat walk_at "w1")
def spApart (K : PySem.W.Frag) : Sp := fun vs H Q _ => ∃ y z, vs = [y, z] ∧ ∀ J, Same H J → Q (.bl true) J
def spLim : Sp := fun vs H Q _ => vs = [] ∧ ∀ J, Same H J → Q (.bl true) J
def spLaw (K : PySem.W.Frag) : Sp := fun vs H Q _ => ∃ (a : Addr) (ns : List Int), vs = [.ref a] ∧ SqL K H a (ns.map V.int) ∧ ns.length ≤ 63 ∧ ∀ J, Q (.bl true) J
def aEnum (K : PySem.W.Frag) (vs : List V) (H : Hp) (R : It → Hp → Prop) : Prop := ∃ a xs, vs = [.ref a] ∧ SqL K H a xs ∧ R (Ite K a) H
theorem w_iEnum {K : PySem.W.Frag} {ta : TA} {σ : L2.St} {H : Hp} {R : It → Hp → Prop} (h : ta σ H fun vs J => aEnum K vs J R) : iEnum K ta σ H R := h
theorem count_ok : allN.all (fun x => decide ((allN.map fun y => decide (x = y)).count true = 1)) = true := by decide +kernel
theorem count_one {x : Str} (h : x ∈ allN) : (allN.map fun y => decide (x = y)).count true = 1 := of_decide_eq_true (List.all_eq_true.mp count_ok x h)
theorem any_d {K : PySem.W.Frag} {H : Hp} {v : V} {d : PyData} {t : Value} {b : Bool} (h : Dp K H v d) (hs : SeqAt.shaped d = true) (ty : TyX K H v t) (k : PySem.W.kitOne K t (.type "bool") = some b) : Any K H v := ⟨.inl ⟨d, h, hs, SeqAt.eqv_refl d (SeqAt.canLay_of_shaped hs)⟩, t, b, ty, k⟩
theorem any_int {K : PySem.W.Frag} {H : Hp} (m : Int) : Any K H (.int m) := any_d (.int m) rfl (.base (.int m)) (kit_ty (b := "bool") (r := false) (by decide +kernel))
theorem any_str {K : PySem.W.Frag} {H : Hp} (z : Str) (hz : SeqAt.shaped (.str z) = true) : Any K H (.str z) := any_d (.str z) hz (.base (.str z)) (kit_ty (b := "bool") (r := false) (by decide +kernel))
theorem any_non {K : PySem.W.Frag} {H : Hp} : Any K H .non := any_d .non rfl (.base .non) (kit_ty (b := "bool") (r := false) (by decide +kernel))
theorem any_bl {K : PySem.W.Frag} {H : Hp} (x : Bool) : Any K H (.bl x) := any_d (.bl x) rfl (.base (.bl x)) (kit_ty (b := "bool") (r := true) (by decide +kernel))
theorem any_tup {K : PySem.W.Frag} {H : Hp} {p : Addr} {m : Int} (h : H p = some (.tup [.int 1, .int m])) : Any K H (.ref p) := any_d (.tup (SqT.of h) (.cons (.int 1) (.cons (.int m) .nil))) rfl (.base (.tup h)) (kit_ty (b := "bool") (r := false) (by decide +kernel))
theorem any_lst {K : PySem.W.Frag} {H : Hp} {p : Addr} {m : Int} (h : H p = some (.lst [.int m])) : Any K H (.ref p) := any_d (.lst (SqL.of h) (.cons (.int m) .nil)) rfl (.base (.lst h)) (kit_ty (b := "bool") (r := false) (by decide +kernel))
theorem any_dk {K : PySem.W.Frag} {H : Hp} {p : Addr} (h : H p = some (.dK [])) : Any K H (.ref p) := ⟨.inr ⟨p, rfl, h⟩, _, _, .base (.dK h), kit_ty (b := "bool") (r := false) (by decide +kernel)⟩
theorem two_signs : ∀ m : Nat, m < 97 → (Str.ofString (toString ((m : Nat) : Int))).length ≤ 2 := by decide +kernel
theorem a_shaped : ∀ m : Nat, m < 97 → SeqAt.shaped (.str (Str.ofString "a" ++ Str.ofString (toString ((m : Nat) : Int)))) = true := by decide +kernel
abbrev s__law_apart : Stmt := topS 69
theorem sc__law_apart : FnScope ["thing", "other", "at", "e", "kinds"] ["thing", "other"] (defScope s__law_apart) := ⟨rfl, rfl, rfl, by decide +kernel, rfl, by decide +kernel, by decide +kernel⟩
abbrev s__law_limits : Stmt := topS 70
theorem sc__law_limits : FnScope ["told"] [] (defScope s__law_limits) := ⟨rfl, rfl, rfl, by decide +kernel, rfl, by decide +kernel, by decide +kernel⟩
abbrev s_law : Stmt := topS 71
theorem sc_law : FnScope ["script", "cells", "cell", "at", "things"] ["script"] (defScope s_law) := ⟨rfl, rfl, rfl, by decide +kernel, rfl, by decide +kernel, by decide +kernel⟩
section
variable {P : Program} {w : World} {K : PySem.W.Frag} {mg : Str → Option Value} {base : Heap}
theorem ok__law_apart {f : Addr} {fd : FuncData} (F : Fun K "_law_apart" "_law_apart" s__law_apart f fd) (T : Txt K mg) (EE : Errs P w K mg base) (c__law_all : Cal P w K mg base 3 "_law_all" (sp_all K)) (c__law_kinds : Cal P w K mg base 1 "_law_kinds" (spKinds K)) : FnOk P w K mg base CX0 4 f fd ["thing", "other"] (spApart K) := by
  refine F.ok sc__law_apart (fun vs H Q E h => ?_) (fun cdv A outer s H vs Q E hr h => ?_)
  · obtain ⟨y, z, rfl, _⟩ := h
    rfl
  · obtain ⟨y, z, rfl, q⟩ := h
    refine ⟨_, (pss_cons (ps_for PassesOwn.never rfl (pi_enum (by rfl) T.z_enumerate (pa_cons (pe_c c__law_all hr (by decide) (by rfl) (pa_cons (pv 0) (pa_cons (pv 1) pa_nil))) pa_nil)) (pg_tup (by rfl) (pgs_cons (pg_name (i := 2) sc__law_apart.nd rfl (Or.inl rfl)) (pgs_cons (pg_name (i := 3) sc__law_apart.nd rfl (Or.inl rfl)) pgs_nil)))
    (pss_cons (ps_set (i := 4) sc__law_apart.nd rfl (by first | exact Or.inl rfl | exact Or.inr rfl) (pe_c c__law_kinds hr (by decide) (by rfl) (pa_cons (pv 3) pa_nil)))
  (pss_one (ps_if (PW.pt (pw_or (pt_cmpR op_ne (k_bm (K := K) (pe_bm PySem.F.plainAttrs_list PySem.F.slot_list_count PySem.F.type_list_count mt_countB (pv 4) (pa_cons pe_bl pa_nil))) pe_int (nomark _)) (pw_or1 (pt_not (pt_truth (pe_ix (k_ixL (K := K)) (pv 4) (pv 2) (fun _ _ => rfl)) (by intro _; rfl))))))
    (pss_one (ps_ret pe_bl))
    pss_nil))))
  (pss_one (ps_ret pe_bl))), ?_⟩
    walk_at "w0"
    walk_at "w"
    refine w_iEnum ?_
    walk_at "w"
    refine ⟨y, z, rfl, fun p ws J np s0 hp al => ?_⟩
    walk_at "w"
    refine ⟨p, ws, rfl, SqL.of hp, ?_⟩
    refine w_loop (walk_enum (xs := ws)) (fun i σ M => (∃ o1 o2 o3, σ = [some y, some z, o1, o2, o3]) ∧ Same J M) ⟨⟨_, _, _, rfl⟩, Same.refl _⟩ (fun _ _ _ _ h => h.2.seq (SqL.of hp)) ?_ ?_
    · rintro i v σ M0 M hi ⟨⟨o1, o2, o3, rfl⟩, s1⟩ ⟨T, c, u, rfl, nT, rfl, hc, hx⟩
      cases hc
      obtain ⟨e, he, ev⟩ := al.get hx
      have sT : Same M0 (upd M0 T (.tup [.int (i : Nat), u])) := same_new nT
      have ev1 := ev.same (s1.trans sT)
      refine ⟨T, _, rfl, SqT.of upd_same, rfl, _, _, rfl, _, _, rfl, rfl, ?_⟩
      walk_at "w0"
      walk_at "w"
      refine ⟨u, e.1, e.2, rfl, ev1, fun p1 J1 n1 z1 b1 => ?_⟩
      walk_at "w"
      refine ⟨p1, _, true, rfl, rfl, SqL.of b1, ?_⟩
      obtain ⟨a, eu, hn, ea⟩ := ev1
      rw [count_one hn]
      walk_at "w"
      refine w_ndec (fun h => absurd rfl h) fun _ => ?_
      walk_at "w"
      have hall : allN[i]? = some e.1 := by
        have z : ((es_all y z).map Prod.fst)[i]? = some e.1 := by
          rw [List.getElem?_map, he]
          rfl
        exact z
      refine w_ixL b1 (v := .bl true) (atI_nat (by rw [List.getElem?_map, List.getElem?_map, hall]; simp)) ?_
      walk_at "w"
      refine ⟨true, rfl, iteF ?_⟩
      walk_at "w"
      exact ⟨⟨_, _, _, rfl⟩, (s1.trans sT).trans z1⟩
    · rintro σ M ⟨⟨o1, o2, o3, rfl⟩, s1⟩
      walk_at "w"
      exact q M (s0.trans s1)
theorem ok__law_limits {f : Addr} {fd : FuncData} (F : Fun K "_law_limits" "_law_limits" s__law_limits f fd) (T : Txt K mg) : FnOk P w K mg base CX0 1 f fd [] spLim := by
  refine F.ok sc__law_limits (fun vs H Q E h => ?_) (fun cdv A outer s H vs Q E hr h => ?_)
  · obtain ⟨rfl, _⟩ := h
    rfl
  · obtain ⟨rfl, q⟩ := h
    refine ⟨_, (pss_cons (ps_set (i := 0) sc__law_limits.nd rfl (by first | exact Or.inl rfl | exact Or.inr rfl) (pe_lst (pa_cons (pe_gc rfl T.g_MAX_LEVELS) (pa_cons (pe_gc rfl T.g_MAX_LINKS) (pa_cons (pe_gc rfl T.g_MAX_MARKS) (pa_cons (pe_gc rfl T.g_MAX_RULES) (pa_cons (pe_gc rfl T.g_MAX_PARTS) (pa_cons (pe_gc rfl T.g_MAX_DEPTH) (pa_cons (pe_gc rfl T.g_MAX_SHAPES) (pa_cons (pe_gc rfl T.g_MAX_DIMENSIONS) pa_nil))))))))))
  (pss_one (ps_ret (pe_cmpR (k_eqD (K := K) hr.units) (pe_op op_cat (pv 0) (pe_lst (pa_cons (pe_gc rfl T.g_MAX_STORED) (pa_cons (pe_gc rfl T.g_MAX_WANTED) (pa_cons (pe_gc rfl T.g_MAX_BANNED) (pa_cons (pe_gc rfl T.g_EVERYTHING) pa_nil)))))) (pe_lst (pa_cons pe_int (pa_cons pe_int (pa_cons pe_int (pa_cons pe_int (pa_cons pe_int (pa_cons pe_int (pa_cons pe_int (pa_cons pe_int (pa_cons pe_int (pa_cons pe_int (pa_cons pe_int (pa_cons pe_str pa_nil))))))))))))) (nomark _))))), ?_⟩
    walk_at "w0"
    walk_at "w"
    refine w_newL rfl fun p1 L1 n1 s1 h1 => ?_
    walk_at "w"
    refine w_newL rfl fun p2 L2 n2 s2 h2 => ?_
    walk_at "w"
    refine w_cat (s2 _ _ h1) h2 (Nat.le_of_ble_eq_true rfl) fun p3 L3 n3 s3 h3 => ?_
    walk_at "w"
    refine w_newL rfl fun p4 L4 n4 s4 h4 => ?_
    refine ⟨.list [.int 8, .int 14, .int 4, .int 20, .int 60, .int 6, .int 60, .int 3, .int 10, .int 4, .int 12, .str k_EVERYTHING], .list [.int 8, .int 14, .int 4, .int 20, .int 60, .int 6, .int 60, .int 3, .int 10, .int 4, .int 12, .str (Str.ofString "*")], ?_, ?_, by decide +kernel, by decide +kernel, ?_⟩
    · refine .lst (SqL.of (s4 _ _ h3)) ?_
      repeat (first | exact .nil | refine .cons (.int _) ?_ | refine .cons (.str _) ?_)
    · refine .lst (SqL.of h4) ?_
      repeat (first | exact .nil | refine .cons (.int _) ?_ | refine .cons (.str _) ?_)
    · rw [show PyData.eqv (PyData.list [PyData.int 8, PyData.int 14, PyData.int 4, PyData.int 20, PyData.int 60, PyData.int 6, PyData.int 60, PyData.int 3, PyData.int 10, PyData.int 4, PyData.int 12, PyData.str k_EVERYTHING]) (PyData.list [PyData.int 8, PyData.int 14, PyData.int 4, PyData.int 20, PyData.int 60, PyData.int 6, PyData.int 60, PyData.int 3, PyData.int 10, PyData.int 4, PyData.int 12, PyData.str (Str.ofString "*")]) = true by decide +kernel]
      exact q _ (((s1.trans s2).trans s3).trans s4)
theorem ok_law {f : Addr} {fd : FuncData} (F : Fun K "law" "law" s_law f fd) (T : Txt K mg) (c__law_limits : Cal P w K mg base 1 "_law_limits" spLim) (c__law_apart : Cal P w K mg base 4 "_law_apart" (spApart K)) (c__law_good : Cal P w K mg base 4 "_law_good" (spGood K)) : FnOk P w K mg base CX0 5 f fd ["script"] (spLaw K) := by
  refine F.ok sc_law (fun vs H Q E h => ?_) (fun cdv A outer s H vs Q E hr h => ?_)
  · obtain ⟨a, ns, rfl, _⟩ := h
    rfl
  · obtain ⟨a, ns, rfl, hS, hlen, q⟩ := h
    refine ⟨_, (pss_cons (ps_if (PW.pt (pw_or (pt_not (pt_val (pe_c0 c__law_limits hr (by decide) (by rfl)))) (pw_or1 (pt_not (pt_val (pe_c c__law_apart hr (by decide) (by rfl) (pa_cons pe_str (pa_cons pe_int pa_nil))))))))
    (pss_one (ps_ret pe_bl))
    pss_nil)
  (pss_cons (ps_set (i := 1) sc_law.nd rfl (by first | exact Or.inl rfl | exact Or.inr rfl) (pe_op op_cat (pe_lc (own := [("cell", 2)]) (g := (gName 2)) (tt := tYes) rfl sc_law.nd (k_iL (K := K) (pe_slice (k_slL (K := K)) (pv 0) po_none (po_some pe_int))) (blkOk_by (own := [("cell", 2)]) (N := ["script", "cells", "cell", "at", "things"]) (sc := defScope s_law) (by decide +kernel)) (fun _ _ _ _ _ => (pg_name (i := 2) sc_law.nd rfl (Or.inl rfl))) (fun _ _ _ _ _ => pts_nil) (fun _ _ _ _ _ => (pe_callB c_abs (by rfl) T.z_abs (by decide +kernel) (pa_cons (pe_callTy c_int (by rfl) T.z_int (by decide +kernel) (pa_cons (pv 2) pa_nil)) pa_nil)))) (pe_lst (pa_cons pe_int (pa_cons pe_int pa_nil)))))
  (pss_cons (ps_for PassesOwn.never rfl (pi_enum (by rfl) T.z_enumerate (pa_cons (pv 1) pa_nil)) (pg_tup (by rfl) (pgs_cons (pg_name (i := 3) sc_law.nd rfl (Or.inl rfl)) (pgs_cons (pg_name (i := 2) sc_law.nd rfl (Or.inl rfl)) pgs_nil)))
    (pss_cons (ps_set (i := 4) sc_law.nd rfl (by first | exact Or.inl rfl | exact Or.inr rfl) (pe_lst (pa_cons (pe_op op_mod (pe_callTy c_int (by rfl) T.z_int (by decide +kernel) (pa_cons (pv 2) pa_nil)) (pe_op op_pow pe_int pe_int)) (pa_cons (pe_op o_addS pe_str (pe_callTy c_strI (by rfl) T.z_str (by decide +kernel) (pa_cons (pe_op op_mod (pe_callTy c_int (by rfl) T.z_int (by decide +kernel) (pa_cons (pv 2) pa_nil)) pe_int) pa_nil))) (pa_cons pe_non (pa_cons pe_bl (pa_cons (pe_tup (pa_cons pe_int (pa_cons (pe_op op_mod (pe_callTy c_int (by rfl) T.z_int (by decide +kernel) (pa_cons (pv 2) pa_nil)) pe_int) pa_nil))) pa_nil)))))))
  (pss_cons (ps_set (i := 4) sc_law.nd rfl (by first | exact Or.inl rfl | exact Or.inr rfl) (pe_op op_cat (pv 4) (pe_lst (pa_cons (pe_lst (pa_cons (pe_op op_mod (pe_callTy c_int (by rfl) T.z_int (by decide +kernel) (pa_cons (pv 2) pa_nil)) pe_int) pa_nil)) (pa_cons pe_dnewK (pa_cons pe_int pa_nil))))))
  (pss_one (ps_if (pt_not (pt_val (pe_c c__law_good hr (by decide) (by rfl) (pa_cons (pe_ix (k_ixL (K := K)) (pv 4) (pe_op op_mod (pe_callTy c_int (by rfl) T.z_int (by decide +kernel) (pa_cons (pe_op op_add (pv 2) (pv 3)) pa_nil)) pe_int) (fun _ _ => rfl)) (pa_cons (pe_ix (k_ixL (K := K)) (pv 4) (pe_op op_mod (pe_callTy c_int (by rfl) T.z_int (by decide +kernel) (pa_cons (pe_op op_fdiv (pv 2) pe_int) pa_nil)) pe_int) (fun _ _ => rfl)) pa_nil)))))
    (pss_one (ps_ret pe_bl))
    pss_nil)))))
  (pss_one (ps_ret pe_bl))))), ?_⟩
    walk_at "w0"
    walk_at "w"
    refine ⟨rfl, fun J0 s0 => ⟨true, rfl, iteF ?_⟩⟩
    walk_at "w"
    refine ⟨_, _, rfl, fun J1 s1 => ⟨true, rfl, iteF ?_⟩⟩
    walk_at "w"
    refine w_slL (s1.seq (s0.seq hS)) fun p2 L2 n2 z2 h2 => ?_
    walk_at "w"
    have cut63 : (cutV (List.map V.int ns) none (some 6)).length ≤ 63 := by
      unfold cutV
      refine Nat.le_trans (List.length_take_le' _ _) (Nat.le_trans ?_ hlen)
      rw [List.length_drop, List.length_map]
      exact Nat.sub_le _ _
    intro D nD
    refine w_comp walk_list (fun i acc L => (∀ v ∈ acc, ∃ n : Int, v = .int n ∧ 0 ≤ n) ∧ Same L2 L) nD (fun L s3 _ => ⟨fun v hv => (by cases hv), s3⟩) (fun _ _ _ h => h.2.seq (SqL.of h2)) ?_ ?_
    · rintro i acc x L M hi hl ⟨ha, s3⟩ hD ⟨rfl, hx⟩
      obtain ⟨v, rfl⟩ : ∃ v, x = V.int v := by
        have hm : x ∈ ns.map V.int := List.mem_of_mem_drop (List.mem_of_mem_take (List.mem_of_getElem? hx))
        obtain ⟨v, _, e⟩ := List.mem_map.mp hm
        exact ⟨v, e.symm⟩
      walk_at "w"
      refine ⟨rfl, ?_⟩
      walk_at "w"
      refine w_put hD hl (by omega) fun Z e4 hZ => ⟨fun u hu => ?_, Same.ofExt s3 nD e4⟩
      rcases List.mem_append.mp hu with hu | hu
      · exact ha u hu
      · rw [List.mem_singleton.mp hu]
        refine ⟨_, rfl, ?_⟩
        split <;> omega
    · rintro acc L hl hD ⟨ha, s3⟩
      walk_at "w"
      refine w_newL rfl fun p4 L4 n4 s4 h4 => ?_
      walk_at "w"
      have short : acc.length ≤ 63 := Nat.le_trans hl cut63
      refine w_cat (s4 _ _ hD) h4 (by show acc.length + 2 ≤ _; omega) fun p5 L5 n5 s5 h5 => ?_
      walk_at "w"
      have all5 : ∀ v ∈ acc ++ [V.int 5, V.int 8], ∃ n : Int, v = .int n ∧ 0 ≤ n := by
        intro v hv
        rcases List.mem_append.mp hv with hv | hv
        · exact ha v hv
        · simp only [List.mem_cons, List.not_mem_nil, or_false] at hv
          rcases hv with rfl | rfl
          · exact ⟨5, rfl, by decide⟩
          · exact ⟨8, rfl, by decide⟩
      refine w_iEnum ?_
      walk_at "w"
      refine ⟨p5, _, rfl, SqL.of h5, ?_⟩
      refine w_loop (walk_enum (xs := acc ++ [V.int 5, V.int 8])) (fun i σ M => (∃ o1 o2 o3, σ = [some (.ref a), some (.ref p5), o1, o2, o3]) ∧ Same L5 M) ⟨⟨_, _, _, rfl⟩, Same.refl _⟩ (fun _ _ _ _ h => h.2.seq (SqL.of h5)) ?_ ?_
      · rintro i v σ M0 M hi ⟨⟨o1, o2, o3, rfl⟩, s6⟩ ⟨Tp, c, u, rfl, nT, rfl, hc, hx⟩
        cases hc
        obtain ⟨n, rfl, n0⟩ := all5 u (List.mem_of_getElem? hx)
        have sT : Same M0 (upd M0 Tp (.tup [.int (i : Nat), .int n])) := same_new nT
        refine ⟨Tp, _, rfl, SqT.of upd_same, rfl, _, _, rfl, _, _, rfl, rfl, ?_⟩
        walk_at "w0"
        walk_at "w"
        refine w_I (by decide +kernel) ?_
        walk_at "w"
        obtain ⟨m, hm⟩ := Int.eq_ofNat_of_zero_le (Int.emod_nonneg n (by decide : (97 : Int) ≠ 0))
        have hm97 : m < 97 := by
          have := Int.emod_lt_of_pos n (by decide : (0 : Int) < 97)
          omega
        refine w_strI (by rw [hm, Int.natAbs_natCast]; exact Nat.lt_of_le_of_lt (Nat.log2_le_self m) (by omega)) ?_
        rw [hm]
        walk_at "w"
        refine w_addS (Nat.le_trans (Nat.add_le_add_left (two_signs m hm97) 1) (by decide)) ?_
        walk_at "w"
        refine w_newT rfl fun t1 M1 c1 r1 h1 => ?_
        walk_at "w"
        refine w_newL rfl fun t2 M2 c2 r2 h2' => ?_
        walk_at "w"
        refine w_newL rfl fun t3 M3 c3 r3 h3 => ?_
        walk_at "w"
        refine w_newD fun t4 M4 c4 r4 h4' => ?_
        walk_at "w"
        refine w_newL rfl fun t5 M5 c5 r5 h5' => ?_
        walk_at "w"
        refine w_cat (((r3.trans r4).trans r5) _ _ h2') h5' (Nat.le_of_ble_eq_true rfl) fun t6 M6 c6 r6 h6 => ?_
        walk_at "w"
        have r16 : Same M1 M6 := ((((r2.trans r3).trans r4).trans r5).trans r6)
        have all : ∀ x ∈ ([V.int (n % 10 ^ Int.toNat 60), V.str (Str.ofString "a" ++ Str.ofString (toString ((m : Nat) : Int))), V.non, V.bl true, V.ref t1] ++ [V.ref t3, V.ref t4, V.int 1] : List V), Any K M6 x := by
          intro x hx
          simp only [List.mem_append, List.mem_cons, List.not_mem_nil, or_false] at hx
          rcases hx with (rfl | rfl | rfl | rfl | rfl) | (rfl | rfl | rfl)
          · exact any_int _
          · exact any_str _ (a_shaped m hm97)
          · exact any_non
          · exact any_bl _
          · exact any_tup (r16 _ _ h1)
          · exact any_lst (((r4.trans r5).trans r6) _ _ h3)
          · exact any_dk ((r5.trans r6) _ _ h4')
          · exact any_int _
        obtain ⟨x, hx1, hxm⟩ := at_in (xs := ([V.int (n % 10 ^ Int.toNat 60), V.str (Str.ofString "a" ++ Str.ofString (toString ((m : Nat) : Int))), V.non, V.bl true, V.ref t1] ++ [V.ref t3, V.ref t4, V.int 1] : List V)) (Int.emod_nonneg (n + (i : Int)) (by decide : (8 : Int) ≠ 0)) (Int.emod_lt_of_pos (n + (i : Int)) (by decide : (0 : Int) < 8))
        refine w_ixL h6 hx1 ?_
        walk_at "w"
        obtain ⟨x2, hx2, hxm2⟩ := at_in (xs := ([V.int (n % 10 ^ Int.toNat 60), V.str (Str.ofString "a" ++ Str.ofString (toString ((m : Nat) : Int))), V.non, V.bl true, V.ref t1] ++ [V.ref t3, V.ref t4, V.int 1] : List V)) (Int.emod_nonneg (n / 8) (by decide : (8 : Int) ≠ 0)) (Int.emod_lt_of_pos (n / 8) (by decide : (0 : Int) < 8))
        refine w_ixL h6 hx2 ?_
        walk_at "w"
        refine ⟨x, x2, rfl, all x hxm, all x2 hxm2, fun J7 s7 => ⟨true, rfl, iteF ?_⟩⟩
        walk_at "w"
        exact ⟨⟨_, _, _, rfl⟩, ((s6.trans sT).trans (r1.trans r16)).trans s7⟩
      · rintro σ M ⟨⟨o1, o2, o3, rfl⟩, s6⟩
        walk_at "w"
        exact q M
end

end RT
set_option Elab.async false
set_option linter.all false
set_option maxRecDepth 100000
set_option maxHeartbeats 4000000
namespace RT
open PySem PySem.Spec PyProof.Rows L2
theorem ini_two {K : PySem.W.Frag} {x q : Str} {st : Stmt} {C f : Addr} {od an : Option Addr} {sl : Array (Option Value)} {oc kV dc pm cd ct : Value} (a : PySem.W.nsIn K mainGlobals x = some (some (.ref C)))
    (i : PySem.W.findIn K (.ref C) "__init__" = some (some (.ref f))) (l : K.lookup f = some ⟨oc, od, .func (PySem.W.fnOf "__init__" q (defArgs st) (defBody st) (defScope st) .none kV dc pm an cd ct), sl⟩) (c : PySem.W.codeIn K cd q = true) (k : PySem.W.keepIn K (.ref f) = true)
    (t : PySem.W.typeIn K (.ref f) = some (.type "function")) : Ini K x q st := by
  have e : mainAt K x = C := by
    unfold mainAt
    rw [a]
  exact ini_at (e ▸ i) l c k t
theorem all_mk {l : PySem.W.OpenLaw} {w : World} {K : PySem.W.Frag} {mg : Str → Option Value} {fa : Addr} (hfa : mg "law" = some (.ref fa)) (T : Txt K mg)
    (i_InvalidName : Ini K "InvalidName" "InvalidName.__init__" st_InvalidName) (i_InvalidText : Ini K "InvalidText" "InvalidText.__init__" st_InvalidText) (i_InvalidLevel : Ini K "InvalidLevel" "InvalidLevel.__init__" st_InvalidLevel) (i_InvalidView : Ini K "InvalidView" "InvalidView.__init__" st_InvalidView) (i_InvalidCell : Ini K "InvalidCell" "InvalidCell.__init__" st_InvalidCell) (i_InvalidAmount : Ini K "InvalidAmount" "InvalidAmount.__init__" st_InvalidAmount) (i_InvalidTimes : Ini K "InvalidTimes" "InvalidTimes.__init__" st_InvalidTimes) (i_InvalidMeasure : Ini K "InvalidMeasure" "InvalidMeasure.__init__" st_InvalidMeasure) (i_NotACondition : Ini K "NotACondition" "NotACondition.__init__" st_NotACondition) (i_NotAShape : Ini K "NotAShape" "NotAShape.__init__" st_NotAShape) (i_NotASchema : Ini K "NotASchema" "NotASchema.__init__" st_NotASchema) (i_NotACube : Ini K "NotACube" "NotACube.__init__" st_NotACube) (i_NotADataset : Ini K "NotADataset" "NotADataset.__init__" st_NotADataset) (i_NotAWarehouse : Ini K "NotAWarehouse" "NotAWarehouse.__init__" st_NotAWarehouse) (i_InvalidLinks : Ini K "InvalidLinks" "InvalidLinks.__init__" st_InvalidLinks) (i_InvalidMarks : Ini K "InvalidMarks" "InvalidMarks.__init__" st_InvalidMarks) (i_InvalidRules : Ini K "InvalidRules" "InvalidRules.__init__" st_InvalidRules) (i_InvalidMembers : Ini K "InvalidMembers" "InvalidMembers.__init__" st_InvalidMembers) (i_InvalidSchemas : Ini K "InvalidSchemas" "InvalidSchemas.__init__" st_InvalidSchemas) (i_InvalidHierarchies : Ini K "InvalidHierarchies" "InvalidHierarchies.__init__" st_InvalidHierarchies) (i_InvalidFacts : Ini K "InvalidFacts" "InvalidFacts.__init__" st_InvalidFacts) (i_InvalidStored : Ini K "InvalidStored" "InvalidStored.__init__" st_InvalidStored) (i_InvalidWanted : Ini K "InvalidWanted" "InvalidWanted.__init__" st_InvalidWanted) (i_InvalidPrices : Ini K "InvalidPrices" "InvalidPrices.__init__" st_InvalidPrices) (i_InvalidShapes : Ini K "InvalidShapes" "InvalidShapes.__init__" st_InvalidShapes) (i_InvalidRows : Ini K "InvalidRows" "InvalidRows.__init__" st_InvalidRows) (i_InvalidGoal : Ini K "InvalidGoal" "InvalidGoal.__init__" st_InvalidGoal) (i_InvalidDeed : Ini K "InvalidDeed" "InvalidDeed.__init__" st_InvalidDeed) (i_UnknownMember : Ini K "UnknownMember" "UnknownMember.__init__" st_UnknownMember) (i_MissingFact : Ini K "MissingFact" "MissingFact.__init__" st_MissingFact) (i_NotStored : Ini K "NotStored" "NotStored.__init__" st_NotStored) (i_HasChildren : Ini K "HasChildren" "HasChildren.__init__" st_HasChildren) (i_HasFacts : Ini K "HasFacts" "HasFacts.__init__" st_HasFacts) (i_InvalidParents : Ini K "InvalidParents" "InvalidParents.__init__" st_InvalidParents) (i_TwoAncestors : Ini K "TwoAncestors" "TwoAncestors.__init__" st_TwoAncestors) (i_BrokenRule : Ini K "BrokenRule" "BrokenRule.__init__" st_BrokenRule) (i_NotAllowed : Ini K "NotAllowed" "NotAllowed.__init__" st_NotAllowed) (i_NotDetermined : Ini K "NotDetermined" "NotDetermined.__init__" st_NotDetermined) (i_TooMany : Ini K "TooMany" "TooMany.__init__" st_TooMany) (eB : ErrB K) (eM : ∀ x a, PySem.W.nsIn K mainGlobals x = some (some a) → mg x = some a) (d__law_limits : DefAt K mg "_law_limits" s__law_limits) (d__law_all : DefAt K mg "_law_all" s__law_all) (d__law_kinds : DefAt K mg "_law_kinds" s__law_kinds) (d__law_apart : DefAt K mg "_law_apart" s__law_apart) (d__law_values : DefAt K mg "_law_values" s__law_values) (d__law_indexes : DefAt K mg "_law_indexes" s__law_indexes) (d__law_states : DefAt K mg "_law_states" s__law_states) (d__law_same : DefAt K mg "_law_same" s__law_same) (d__law_rows : DefAt K mg "_law_rows" s__law_rows) (d__law_of : DefAt K mg "_law_of" s__law_of) (d__law_good : DefAt K mg "_law_good" s__law_good) (d_law : DefAt K mg "law" s_law) :
    ∃ fd : FuncData, (∀ (s : Shared) (v : Value), BindsTo s fd ⟨[v], []⟩ [("script", v)]) ∧ ∀ base : Heap, K.In base → base.Ns mainGlobals mg → FnG l.prog w K mg base 5 fa fd ["script"] (spLaw K) := by
  obtain ⟨f__law_limits, fd__law_limits, F__law_limits, g__law_limits⟩ := d__law_limits
  obtain ⟨f__law_all, fd__law_all, F__law_all, g__law_all⟩ := d__law_all
  obtain ⟨f__law_kinds, fd__law_kinds, F__law_kinds, g__law_kinds⟩ := d__law_kinds
  obtain ⟨f__law_apart, fd__law_apart, F__law_apart, g__law_apart⟩ := d__law_apart
  obtain ⟨f__law_values, fd__law_values, F__law_values, g__law_values⟩ := d__law_values
  obtain ⟨f__law_indexes, fd__law_indexes, F__law_indexes, g__law_indexes⟩ := d__law_indexes
  obtain ⟨f__law_states, fd__law_states, F__law_states, g__law_states⟩ := d__law_states
  obtain ⟨f__law_same, fd__law_same, F__law_same, g__law_same⟩ := d__law_same
  obtain ⟨f__law_rows, fd__law_rows, F__law_rows, g__law_rows⟩ := d__law_rows
  obtain ⟨f__law_of, fd__law_of, F__law_of, g__law_of⟩ := d__law_of
  obtain ⟨f__law_good, fd__law_good, F__law_good, g__law_good⟩ := d__law_good
  obtain ⟨f_law, fd_law, F_law, g_law⟩ := d_law
  have e := hfa.symm.trans g_law
  cases e
  have F0 := F_law
  obtain ⟨oc, od, kV, doc, pm, an, cdv, ct, osl, rfl, lk, hcd⟩ := F0.ex
  refine ⟨PySem.W.fnOf "law" "law" (defArgs s_law) (defBody s_law) (defScope s_law) .none kV doc pm an cdv ct, fun s v => .of_eq rfl, fun base _ _ => ?_⟩
  have EE : Errs l.prog w K mg base := errs_mk eB eM i_InvalidName i_InvalidText i_InvalidLevel i_InvalidView i_InvalidCell i_InvalidAmount i_InvalidTimes i_InvalidMeasure i_NotACondition i_NotAShape i_NotASchema i_NotACube i_NotADataset i_NotAWarehouse i_InvalidLinks i_InvalidMarks i_InvalidRules i_InvalidMembers i_InvalidSchemas i_InvalidHierarchies i_InvalidFacts i_InvalidStored i_InvalidWanted i_InvalidPrices i_InvalidShapes i_InvalidRows i_InvalidGoal i_InvalidDeed i_UnknownMember i_MissingFact i_NotStored i_HasChildren i_HasFacts i_InvalidParents i_TwoAncestors i_BrokenRule i_NotAllowed i_NotDetermined i_TooMany
  have o__law_limits : FnOk l.prog w K mg base CX0 1 f__law_limits fd__law_limits [] spLim := ok__law_limits F__law_limits T
  have c__law_limits : Cal l.prog w K mg base 1 "_law_limits" spLim := Cal.of F__law_limits g__law_limits (F__law_limits.binds (ps := []) fun _ _ _ _ _ _ us hl => match us, hl with | [], _ => rfl) o__law_limits
  have o__law_all : FnOk l.prog w K mg base CX0 3 f__law_all fd__law_all ["thing", "other"] (sp_all K) := ok__law_all F__law_all T EE
  have c__law_all : Cal l.prog w K mg base 3 "_law_all" (sp_all K) := Cal.of F__law_all g__law_all (F__law_all.binds (ps := ["thing", "other"]) fun _ _ _ _ _ _ us hl => match us, hl with | [_, _], _ => rfl) o__law_all
  have o__law_kinds : FnOk l.prog w K mg base CX0 1 f__law_kinds fd__law_kinds ["e"] (spKinds K) := ok__law_kinds F__law_kinds T EE
  have c__law_kinds : Cal l.prog w K mg base 1 "_law_kinds" (spKinds K) := Cal.of F__law_kinds g__law_kinds (F__law_kinds.binds (ps := ["e"]) fun _ _ _ _ _ _ us hl => match us, hl with | [_], _ => rfl) o__law_kinds
  have o__law_apart : FnOk l.prog w K mg base CX0 4 f__law_apart fd__law_apart ["thing", "other"] (spApart K) := ok__law_apart F__law_apart T EE c__law_all c__law_kinds
  have c__law_apart : Cal l.prog w K mg base 4 "_law_apart" (spApart K) := Cal.of F__law_apart g__law_apart (F__law_apart.binds (ps := ["thing", "other"]) fun _ _ _ _ _ _ us hl => match us, hl with | [_, _], _ => rfl) o__law_apart
  have o__law_values : FnOk l.prog w K mg base CX0 3 f__law_values fd__law_values ["thing"] (sp_values K) := ok__law_values F__law_values T EE
  have c__law_values : Cal l.prog w K mg base 3 "_law_values" (sp_values K) := Cal.of F__law_values g__law_values (F__law_values.binds (ps := ["thing"]) fun _ _ _ _ _ _ us hl => match us, hl with | [_], _ => rfl) o__law_values
  have o__law_indexes : FnOk l.prog w K mg base CX0 3 f__law_indexes fd__law_indexes ["thing"] (sp_indexes K) := ok__law_indexes F__law_indexes T EE
  have c__law_indexes : Cal l.prog w K mg base 3 "_law_indexes" (sp_indexes K) := Cal.of F__law_indexes g__law_indexes (F__law_indexes.binds (ps := ["thing"]) fun _ _ _ _ _ _ us hl => match us, hl with | [_], _ => rfl) o__law_indexes
  have o__law_states : FnOk l.prog w K mg base CX0 3 f__law_states fd__law_states ["thing"] (sp_states K) := ok__law_states F__law_states T EE
  have c__law_states : Cal l.prog w K mg base 3 "_law_states" (sp_states K) := Cal.of F__law_states g__law_states (F__law_states.binds (ps := ["thing"]) fun _ _ _ _ _ _ us hl => match us, hl with | [_], _ => rfl) o__law_states
  have o__law_same : FnOk l.prog w K mg base CX0 1 f__law_same fd__law_same ["left", "right"] (spSame K) := ok__law_same F__law_same T
  have c__law_same : Cal l.prog w K mg base 1 "_law_same" (spSame K) := Cal.of F__law_same g__law_same (F__law_same.binds (ps := ["left", "right"]) fun _ _ _ _ _ _ us hl => match us, hl with | [_, _], _ => rfl) o__law_same
  have o__law_rows : FnOk l.prog w K mg base CX0 1 f__law_rows fd__law_rows ["e"] (spRows K) := ok__law_rows F__law_rows T EE
  have c__law_rows : Cal l.prog w K mg base 1 "_law_rows" (spRows K) := Cal.of F__law_rows g__law_rows (F__law_rows.binds (ps := ["e"]) fun _ _ _ _ _ _ us hl => match us, hl with | [_], _ => rfl) o__law_rows
  have o__law_of : FnOk l.prog w K mg base CX0 1 f__law_of fd__law_of ["place"] spOf := ok__law_of F__law_of T
  have c__law_of : Cal l.prog w K mg base 1 "_law_of" spOf := Cal.of F__law_of g__law_of (F__law_of.binds (ps := ["place"]) fun _ _ _ _ _ _ us hl => match us, hl with | [_], _ => rfl) o__law_of
  have o__law_good : FnOk l.prog w K mg base CX0 4 f__law_good fd__law_good ["thing", "other"] (spGood K) := ok__law_good F__law_good T EE c__law_values c__law_indexes c__law_states c__law_same c__law_rows c__law_of
  have c__law_good : Cal l.prog w K mg base 4 "_law_good" (spGood K) := Cal.of F__law_good g__law_good (F__law_good.binds (ps := ["thing", "other"]) fun _ _ _ _ _ _ us hl => match us, hl with | [_, _], _ => rfl) o__law_good
  exact FnG.of (ok_law F_law T c__law_limits c__law_apart c__law_good)
/-! ### the light head -/
def fnL0 : List He.DefD := [dG "_law_limits" s__law_limits, dG "_law_all" s__law_all, dG "_law_kinds" s__law_kinds, dG "_law_apart" s__law_apart, dG "_law_values" s__law_values, dG "_law_indexes" s__law_indexes, dG "_law_states" s__law_states, dG "_law_same" s__law_same, dG "_law_rows" s__law_rows, dG "_law_of" s__law_of, dG "_law_good" s__law_good, dG "law" s_law, dM "InvalidName" "__init__" "InvalidName.__init__" st_InvalidName, dM "InvalidText" "__init__" "InvalidText.__init__" st_InvalidText, dM "InvalidLevel" "__init__" "InvalidLevel.__init__" st_InvalidLevel, dM "InvalidView" "__init__" "InvalidView.__init__" st_InvalidView, dM "InvalidCell" "__init__" "InvalidCell.__init__" st_InvalidCell, dM "InvalidAmount" "__init__" "InvalidAmount.__init__" st_InvalidAmount, dM "InvalidTimes" "__init__" "InvalidTimes.__init__" st_InvalidTimes, dM "InvalidMeasure" "__init__" "InvalidMeasure.__init__" st_InvalidMeasure]
def fnL1 : List He.DefD := [dM "NotACondition" "__init__" "NotACondition.__init__" st_NotACondition, dM "NotAShape" "__init__" "NotAShape.__init__" st_NotAShape, dM "NotASchema" "__init__" "NotASchema.__init__" st_NotASchema, dM "NotACube" "__init__" "NotACube.__init__" st_NotACube, dM "NotADataset" "__init__" "NotADataset.__init__" st_NotADataset, dM "NotAWarehouse" "__init__" "NotAWarehouse.__init__" st_NotAWarehouse, dM "InvalidLinks" "__init__" "InvalidLinks.__init__" st_InvalidLinks, dM "InvalidMarks" "__init__" "InvalidMarks.__init__" st_InvalidMarks, dM "InvalidRules" "__init__" "InvalidRules.__init__" st_InvalidRules, dM "InvalidMembers" "__init__" "InvalidMembers.__init__" st_InvalidMembers, dM "InvalidSchemas" "__init__" "InvalidSchemas.__init__" st_InvalidSchemas, dM "InvalidHierarchies" "__init__" "InvalidHierarchies.__init__" st_InvalidHierarchies, dM "InvalidFacts" "__init__" "InvalidFacts.__init__" st_InvalidFacts, dM "InvalidStored" "__init__" "InvalidStored.__init__" st_InvalidStored, dM "InvalidWanted" "__init__" "InvalidWanted.__init__" st_InvalidWanted, dM "InvalidPrices" "__init__" "InvalidPrices.__init__" st_InvalidPrices, dM "InvalidShapes" "__init__" "InvalidShapes.__init__" st_InvalidShapes, dM "InvalidRows" "__init__" "InvalidRows.__init__" st_InvalidRows, dM "InvalidGoal" "__init__" "InvalidGoal.__init__" st_InvalidGoal, dM "InvalidDeed" "__init__" "InvalidDeed.__init__" st_InvalidDeed]
def fnL2 : List He.DefD := [dM "UnknownMember" "__init__" "UnknownMember.__init__" st_UnknownMember, dM "MissingFact" "__init__" "MissingFact.__init__" st_MissingFact, dM "NotStored" "__init__" "NotStored.__init__" st_NotStored, dM "HasChildren" "__init__" "HasChildren.__init__" st_HasChildren, dM "HasFacts" "__init__" "HasFacts.__init__" st_HasFacts, dM "InvalidParents" "__init__" "InvalidParents.__init__" st_InvalidParents, dM "TwoAncestors" "__init__" "TwoAncestors.__init__" st_TwoAncestors, dM "BrokenRule" "__init__" "BrokenRule.__init__" st_BrokenRule, dM "NotAllowed" "__init__" "NotAllowed.__init__" st_NotAllowed, dM "NotDetermined" "__init__" "NotDetermined.__init__" st_NotDetermined, dM "TooMany" "__init__" "TooMany.__init__" st_TooMany]
def fnL : List He.DefD := fnL0 ++ (fnL1 ++ (fnL2))
def faL0 : List He.Fa := [.glo "_law_limits", .glo "_law_all", .glo "_law_kinds", .glo "_law_apart", .glo "_law_values", .glo "_law_indexes", .glo "_law_states", .glo "_law_same", .glo "_law_rows", .glo "_law_of", .glo "_law_good", .glo "law", .meth "InvalidName" "__init__", .meth "InvalidText" "__init__", .meth "InvalidLevel" "__init__", .meth "InvalidView" "__init__", .meth "InvalidCell" "__init__", .meth "InvalidAmount" "__init__", .meth "InvalidTimes" "__init__", .meth "InvalidMeasure" "__init__"]
def faL1 : List He.Fa := [.meth "NotACondition" "__init__", .meth "NotAShape" "__init__", .meth "NotASchema" "__init__", .meth "NotACube" "__init__", .meth "NotADataset" "__init__", .meth "NotAWarehouse" "__init__", .meth "InvalidLinks" "__init__", .meth "InvalidMarks" "__init__", .meth "InvalidRules" "__init__", .meth "InvalidMembers" "__init__", .meth "InvalidSchemas" "__init__", .meth "InvalidHierarchies" "__init__", .meth "InvalidFacts" "__init__", .meth "InvalidStored" "__init__", .meth "InvalidWanted" "__init__", .meth "InvalidPrices" "__init__", .meth "InvalidShapes" "__init__", .meth "InvalidRows" "__init__", .meth "InvalidGoal" "__init__", .meth "InvalidDeed" "__init__"]
def faL2 : List He.Fa := [.meth "UnknownMember" "__init__", .meth "MissingFact" "__init__", .meth "NotStored" "__init__", .meth "HasChildren" "__init__", .meth "HasFacts" "__init__", .meth "InvalidParents" "__init__", .meth "TwoAncestors" "__init__", .meth "BrokenRule" "__init__", .meth "NotAllowed" "__init__", .meth "NotDetermined" "__init__", .meth "TooMany" "__init__", .free "ArithmeticError", .free "LookupError", .free "RuntimeError", .free "ValueError", .free "abs", .free "bool", .free "enumerate", .free "int", .free "isinstance"]
def faL3 : List He.Fa := [.free "range", .free "str", .int "MAX_LEVELS" (8), .int "MAX_LINKS" (14), .int "MAX_MARKS" (4), .int "MAX_RULES" (20), .int "MAX_PARTS" (60), .int "MAX_DEPTH" (6), .int "MAX_SHAPES" (60), .int "MAX_DIMENSIONS" (3), .int "MAX_STORED" (10), .int "MAX_WANTED" (4), .int "MAX_BANNED" (12), .str "EVERYTHING" k_EVERYTHING]
def faL : List He.Fa := faL0 ++ (faL1 ++ (faL2 ++ (faL3)))
def looseL0 : List Str := [("RaggedError" : Str), ("StateError" : Str), ("RuleError" : Str), ("LimitError" : Str), ("InvalidName" : Str), ("InvalidText" : Str), ("InvalidLevel" : Str), ("InvalidView" : Str), ("InvalidCell" : Str), ("InvalidAmount" : Str), ("InvalidTimes" : Str), ("InvalidMeasure" : Str), ("NotACondition" : Str), ("NotAShape" : Str), ("NotASchema" : Str), ("NotACube" : Str), ("NotADataset" : Str), ("NotAWarehouse" : Str), ("InvalidLinks" : Str), ("InvalidMarks" : Str), ("InvalidRules" : Str), ("InvalidMembers" : Str), ("InvalidSchemas" : Str), ("InvalidHierarchies" : Str), ("InvalidFacts" : Str), ("InvalidStored" : Str), ("InvalidWanted" : Str), ("InvalidPrices" : Str), ("InvalidShapes" : Str), ("InvalidRows" : Str), ("InvalidGoal" : Str), ("InvalidDeed" : Str), ("UnknownMember" : Str), ("MissingFact" : Str), ("NotStored" : Str)]
def looseL1 : List Str := [("HasChildren" : Str), ("HasFacts" : Str), ("NothingToUndo" : Str), ("InvalidParents" : Str), ("TwoAncestors" : Str), ("BrokenRule" : Str), ("NotAllowed" : Str), ("NotDetermined" : Str), ("NotComparable" : Str), ("OtherCube" : Str), ("TooMany" : Str), ("MAX_LEVELS" : Str), ("MAX_LINKS" : Str), ("MAX_MARKS" : Str), ("MAX_RULES" : Str), ("MAX_PARTS" : Str), ("MAX_DEPTH" : Str), ("MAX_SHAPES" : Str), ("MAX_DIMENSIONS" : Str), ("MAX_STORED" : Str), ("MAX_WANTED" : Str), ("MAX_BANNED" : Str), ("EVERYTHING" : Str), ("_law_values" : Str), ("_law_indexes" : Str), ("_law_states" : Str), ("_law_rows" : Str), ("_law_of" : Str), ("_law_same" : Str), ("_law_good" : Str), ("_law_kinds" : Str), ("_law_all" : Str), ("_law_apart" : Str), ("_law_limits" : Str)]
def looseL : List Str := looseL0 ++ (looseL1)
def ex1 (K : PySem.W.Frag) : Bool := allN.all fun x => atB K x && xcB K (mainAt K x) (kindOf x)
def ex2 (K : PySem.W.Frag) : Bool := baseL.all fun p => atB K p.1
def ex3 (K : PySem.W.Frag) : Bool := allN.all fun x => allN.all fun y => kitB2 K x y
def ex4 (K : PySem.W.Frag) : Bool := allN.all fun x => baseL.all fun p => kitB3 K x p
def ex5 (K : PySem.W.Frag) : Bool := allN.all fun x => pyL.all fun p => kitB4 K x p
def ex6 (K : PySem.W.Frag) : Bool := ones.all fun p => noB K p.1 p.2
def ex7 (K : PySem.W.Frag) : Bool := bareN.all fun x => PySem.W.excIn K (mainAt K x) (tailOf (kindOf x)) (newOf (kindOf x))
def ex8 (K : PySem.W.Frag) : Bool := noB K "BrokenRule" "member" && noB K "BrokenRule" "index"
def errBB (K : PySem.W.Frag) : Bool := ex1 K && (ex2 K && (ex3 K && (ex4 K && (ex5 K && (ex6 K && (ex7 K && ex8 K))))))
theorem errBB_ok {K : PySem.W.Frag} (h : errBB K = true) : ErrB K := by
  obtain ⟨h1, h⟩ := He.ba h
  obtain ⟨h2, h⟩ := He.ba h
  obtain ⟨h3, h⟩ := He.ba h
  obtain ⟨h4, h⟩ := He.ba h
  obtain ⟨h5, h⟩ := He.ba h
  obtain ⟨h6, h⟩ := He.ba h
  obtain ⟨h7, h8⟩ := He.ba h
  exact ⟨h1, h2, h3, h4, h5, h6, h7, h8⟩
theorem main_ga {K : PySem.W.Frag} {x : Str} : mainAt K x = He.ga K x := rfl
theorem ini_of {ck : PySem.W.Frag → Bool} {fn : List He.DefD} {K : PySem.W.Frag} (c : SaysK ck fn K) (i : Nat) {x q : Str} {st : Stmt} (e : fn[i]? = some (dM x "__init__" q st)) (g : (He.Fa.meth x "__init__").ok K = true) : Ini K x q st := by
  obtain ⟨fd, F⟩ := c.def_ i e
  obtain ⟨g1, g2⟩ := He.ba g
  obtain ⟨g3, _⟩ := He.ba g2
  exact ⟨_, fd, fun_of F, He.eqO_ok g1, eq_of_beq g3⟩
def extraL : PySem.W.Frag → Bool := fun K => errBB K
def ckL : PySem.W.Frag → Bool := fun K => (faL.all fun f => f.ok K) && extraL K
abbrev RRL : PySem.W.OpenRow := PySem.W.OpenLaw.row PySem.Challenge.rw_raggedtotals_k52_errors_fields_and_bases
abbrev hkL : PySem.W.Hook := hookK 4 ckL fnL
def obL : PySem.W.SharedT → He.AlD := fun s => obsKG 4 ckL fnL (HandSHeadRun.getT s)
theorem obL_eq (s : PySem.W.SharedT) : obL s = hkL.obs s.abs := obsKG_eq (HandSHeadRun.getT_eq s)
theorem run1 (w : World) : RLook RRL 30000 w := by intro os; kernel_rfl
theorem run2 (w : World) : RSeen RRL (PySem.W.view RRL.prog [71]) 30000 looseL w := by intro os; kernel_rfl
theorem run3 (w : World) : RK RRL 30000 4 w (fun K => faL.all fun f => f.ok K) := by intro os; kernel_rfl
theorem run4_1 (w : World) : RK RRL 30000 4 w ex1 := by intro os; kernel_rfl
theorem run4_2 (w : World) : RK RRL 30000 4 w ex2 := by intro os; kernel_rfl
theorem run4_3 (w : World) : RK RRL 30000 4 w ex3 := by intro os; kernel_rfl
theorem run4_4 (w : World) : RK RRL 30000 4 w ex4 := by intro os; kernel_rfl
theorem run4_5 (w : World) : RK RRL 30000 4 w ex5 := by intro os; kernel_rfl
theorem run4_6 (w : World) : RK RRL 30000 4 w ex6 := by intro os; kernel_rfl
theorem run4_7 (w : World) : RK RRL 30000 4 w ex7 := by intro os; kernel_rfl
theorem run4_8 (w : World) : RK RRL 30000 4 w ex8 := by intro os; kernel_rfl
theorem run4 (w : World) : RK RRL 30000 4 w extraL := (RK.and (run4_1 w) (RK.and (run4_2 w) (RK.and (run4_3 w) (RK.and (run4_4 w) (RK.and (run4_5 w) (RK.and (run4_6 w) (RK.and (run4_7 w) (run4_8 w))))))))
theorem run5_0 (w : World) : RK RRL 30000 4 w (fun K => fnL0.all fun d => d.ok K) := by intro os; kernel_rfl
theorem run5_1 (w : World) : RK RRL 30000 4 w (fun K => fnL1.all fun d => d.ok K) := by intro os; kernel_rfl
theorem run5_2 (w : World) : RK RRL 30000 4 w (fun K => fnL2.all fun d => d.ok K) := by intro os; kernel_rfl
theorem run5 (w : World) : RK RRL 30000 4 w (fun K => fnL.all fun d => d.ok K) := RK.same (fun K => by unfold fnL; simp only [List.all_append]) (RK.and (run5_0 w) (RK.and (run5_1 w) (run5_2 w)))
theorem run6 (w : World) : RF RRL 30000 4 w fnL := by intro os; kernel_rfl
theorem runL (w : World) : HandSHeadRun.RunEq RRL (PySem.W.view RRL.prog [71]) hkL obL 30000 looseL w := runEq_mk (run1 w) (run2 w) (RK.and (run3 w) (run4 w)) (run5 w) (run6 w)
theorem factsL {w : World} {K : PySem.W.Frag} {h : Heap} {mg : Str → Option Value} {fa : Addr} (X : K.In h) (G : h.Ns mainGlobals mg) (hfa : mg "law" = some (.ref fa)) (c : SaysK ckL fnL K) :
    ∃ fd : FuncData, (∀ (s : Shared) (v : Value), BindsTo s fd ⟨[v], []⟩ [("script", v)]) ∧ ∀ base : Heap, K.In base → base.Ns mainGlobals mg → FnG (PySem.Challenge.rw_raggedtotals_k52_errors_fields_and_bases).prog w K mg base 5 fa fd ["script"] (spLaw K) := by
  obtain ⟨c1, c2⟩ := He.ba c.chk
  have hf : ∀ (i : Nat) (f : He.Fa), faL[i]? = some f → f.ok K = true := fun i f e => List.all_eq_true.mp c1 f (List.mem_of_getElem? e)
  exact all_mk hfa ⟨He.free_ok X G (hf 51 _ rfl), He.free_ok X G (hf 52 _ rfl), He.free_ok X G (hf 53 _ rfl), He.free_ok X G (hf 54 _ rfl), He.free_ok X G (hf 55 _ rfl), He.free_ok X G (hf 56 _ rfl), He.free_ok X G (hf 57 _ rfl), He.free_ok X G (hf 58 _ rfl), He.free_ok X G (hf 59 _ rfl), He.free_ok X G (hf 60 _ rfl), He.free_ok X G (hf 61 _ rfl), (let ⟨t, e⟩ := He.int_ok X G (hf 62 _ rfl); ⟨_, e, t, rfl⟩), (let ⟨t, e⟩ := He.int_ok X G (hf 63 _ rfl); ⟨_, e, t, rfl⟩), (let ⟨t, e⟩ := He.int_ok X G (hf 64 _ rfl); ⟨_, e, t, rfl⟩), (let ⟨t, e⟩ := He.int_ok X G (hf 65 _ rfl); ⟨_, e, t, rfl⟩), (let ⟨t, e⟩ := He.int_ok X G (hf 66 _ rfl); ⟨_, e, t, rfl⟩), (let ⟨t, e⟩ := He.int_ok X G (hf 67 _ rfl); ⟨_, e, t, rfl⟩), (let ⟨t, e⟩ := He.int_ok X G (hf 68 _ rfl); ⟨_, e, t, rfl⟩), (let ⟨t, e⟩ := He.int_ok X G (hf 69 _ rfl); ⟨_, e, t, rfl⟩), (let ⟨t, e⟩ := He.int_ok X G (hf 70 _ rfl); ⟨_, e, t, rfl⟩), (let ⟨t, e⟩ := He.int_ok X G (hf 71 _ rfl); ⟨_, e, t, rfl⟩), (let ⟨t, e⟩ := He.int_ok X G (hf 72 _ rfl); ⟨_, e, t, rfl⟩), (let ⟨t, e⟩ := He.str_ok X G (hf 73 _ rfl); ⟨_, e, t, rfl⟩)⟩ (ini_of c 12 rfl (hf 12 _ rfl)) (ini_of c 13 rfl (hf 13 _ rfl)) (ini_of c 14 rfl (hf 14 _ rfl)) (ini_of c 15 rfl (hf 15 _ rfl)) (ini_of c 16 rfl (hf 16 _ rfl)) (ini_of c 17 rfl (hf 17 _ rfl)) (ini_of c 18 rfl (hf 18 _ rfl)) (ini_of c 19 rfl (hf 19 _ rfl)) (ini_of c 20 rfl (hf 20 _ rfl)) (ini_of c 21 rfl (hf 21 _ rfl)) (ini_of c 22 rfl (hf 22 _ rfl)) (ini_of c 23 rfl (hf 23 _ rfl)) (ini_of c 24 rfl (hf 24 _ rfl)) (ini_of c 25 rfl (hf 25 _ rfl)) (ini_of c 26 rfl (hf 26 _ rfl)) (ini_of c 27 rfl (hf 27 _ rfl)) (ini_of c 28 rfl (hf 28 _ rfl)) (ini_of c 29 rfl (hf 29 _ rfl)) (ini_of c 30 rfl (hf 30 _ rfl)) (ini_of c 31 rfl (hf 31 _ rfl)) (ini_of c 32 rfl (hf 32 _ rfl)) (ini_of c 33 rfl (hf 33 _ rfl)) (ini_of c 34 rfl (hf 34 _ rfl)) (ini_of c 35 rfl (hf 35 _ rfl)) (ini_of c 36 rfl (hf 36 _ rfl)) (ini_of c 37 rfl (hf 37 _ rfl)) (ini_of c 38 rfl (hf 38 _ rfl)) (ini_of c 39 rfl (hf 39 _ rfl)) (ini_of c 40 rfl (hf 40 _ rfl)) (ini_of c 41 rfl (hf 41 _ rfl)) (ini_of c 42 rfl (hf 42 _ rfl)) (ini_of c 43 rfl (hf 43 _ rfl)) (ini_of c 44 rfl (hf 44 _ rfl)) (ini_of c 45 rfl (hf 45 _ rfl)) (ini_of c 46 rfl (hf 46 _ rfl)) (ini_of c 47 rfl (hf 47 _ rfl)) (ini_of c 48 rfl (hf 48 _ rfl)) (ini_of c 49 rfl (hf 49 _ rfl)) (ini_of c 50 rfl (hf 50 _ rfl)) (errBB_ok c2) (fun x a e => PySem.W.mg_of X G e) (defAt_of X G c 0 rfl (hf 0 _ rfl)) (defAt_of X G c 1 rfl (hf 1 _ rfl)) (defAt_of X G c 2 rfl (hf 2 _ rfl)) (defAt_of X G c 3 rfl (hf 3 _ rfl)) (defAt_of X G c 4 rfl (hf 4 _ rfl)) (defAt_of X G c 5 rfl (hf 5 _ rfl)) (defAt_of X G c 6 rfl (hf 6 _ rfl)) (defAt_of X G c 7 rfl (hf 7 _ rfl)) (defAt_of X G c 8 rfl (hf 8 _ rfl)) (defAt_of X G c 9 rfl (hf 9 _ rfl)) (defAt_of X G c 10 rfl (hf 10 _ rfl)) (defAt_of X G c 11 rfl (hf 11 _ rfl))
end RT
open PySem PySem.W PySem.Calls PyProof.Rows
set_option maxHeartbeats 0 in
theorem PySem.Challenge.cw_raggedtotals_k52_errors_fields_and_bases_holds : PySem.Challenge.rw_raggedtotals_k52_errors_fields_and_bases.Holds := by
  w_on; o_law
  refine HandSHeadRun.head_any (r := OpenLaw.row PySem.Challenge.rw_raggedtotals_k52_errors_fields_and_bases) (q := view (OpenLaw.row PySem.Challenge.rw_raggedtotals_k52_errors_fields_and_bases).prog [71]) (H := RT.hkL) (ob := RT.obL) (M := 30000) (loose := RT.looseL) (d := HandSHeadRun.topDef (OpenLaw.row PySem.Challenge.rw_raggedtotals_k52_errors_fields_and_bases).prog 71) (kwd := []) RT.obL_eq
    (by kernel_rfl) (fun s => by kernel_rfl) RT.runL (by kernel_rfl) (by kernel_rfl) (by kernel_rfl) (by rfl) (by first | assumption | decide +kernel) (by decide +kernel) ⟨rfl, rfl, rfl, rfl, rfl, by decide +kernel⟩ ?hw ?hc
  case hw => w_witness2
  case hc =>
    refine RT.walk_calmE (l := PySem.Challenge.rw_raggedtotals_k52_errors_fields_and_bases) (n := 63) (k := 5) (x := "script") (sp := RT.spLaw) rfl (by decide) (by kernel_rfl) ⟨rfl, by decide, by decide⟩ ?F (fun K H a ns hl _ hS => ⟨a, ns, rfl, hS, hl, fun _ => rfl⟩)
    intro w mg fa h Y G hmg0
    obtain ⟨K, KX, c⟩ := Y
    have hmg : mg ("law" : PySem.Str) = some (.ref fa) := by
      have e : (HandSHeadRun.topDef (OpenLaw.row PySem.Challenge.rw_raggedtotals_k52_errors_fields_and_bases).prog 71).name = ("law" : PySem.Str) := by kernel_rfl
      rw [← e]
      exact hmg0
    obtain ⟨fd, hb, hF⟩ := RT.factsL KX G hmg c
    exact ⟨K, fd, KX, hb, hF⟩
