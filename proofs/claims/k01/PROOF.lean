import PyProof.Rows.All
import Wide.All
import OpenK.AllK
import Wide.FinOn
import HandS.ForMost
import HandS.IsInst
import HandS.FStr
import HandS.StrMore
import HandS.Style
import HandS.SortInts
import HandS.Wide
import HandS.TupAny
import HandS.TupMul
import PyProof.StrBlock2
import PyProof.ReprRoads
import PyProof.ReprText
import HandS.Codes
import HandS.Walk
import PyProof.Draws
import PyProof.EnumFor
import PyProof.EnumMake
import PyProof.ListStr
import HandS.Conv
import HandS.Steps
import PySem.Challenge.RW_answergate_k01_whole_frames_cut_anywhere
set_option Elab.async false
/-! ## Base0 -/
section
set_option linter.all false
set_option maxRecDepth 100000
namespace Ag
open PySem PySem.Spec PyProof.Rows L2
/-! ### a def's promise where it is known that no repr runs around the call -/
structure FnG (P : Program) (w : World) (K : PySem.W.Frag) (mg : Str → Option Value) (base : Heap) (k : Nat) (f : Addr) (fd : FuncData) (ps : List Str) (sp : Sp) : Prop where
  len : ∀ vs H Q E, sp vs H Q E → vs.length = ps.length
  run : ∀ (A : Around) (outer : List Env) (s : Shared) (H : Hp) (args : Args) (us : List Value) (vs : List V) (Q : VK) (E : XK), Room k A → A.guards = some [] →
    Env0 P w K mg base A outer s H → BindsTo s fd args (ps.zip us) → Vals vs us → sp vs H Q E → codeAny (model P w) A (.call (.ref f) args) (CR CX0 outer P w H s Q E) s
theorem FnG.of {P : Program} {w : World} {K : PySem.W.Frag} {mg : Str → Option Value} {base : Heap} {k : Nat} {f : Addr} {fd : FuncData} {ps : List Str} {sp : Sp} (F : FnOk P w K mg base CX0 k f fd ps sp) :
    FnG P w K mg base k f fd ps sp := ⟨F.len, fun A outer s H args us vs Q E hr _ => F.run A outer s H args us vs Q E hr⟩
theorem g_deeper {A : Around} {env : Env} (h : A.guards = some []) : (A.deeper env).guards = some [] := by
  first | exact h | (simp [Around.deeper, h])
section
variable {P : Program} {w : World} {K : PySem.W.Frag} {mg : Str → Option Value} {base : Heap}
theorem okG {x qual : Str} {st : Stmt} {f : Addr} {fd : FuncData} {N ps : List Str} {k : Nat} {sp : Sp} (F : Fun K x qual st f fd) (S : FnScope N ps (defScope st))
    (len : ∀ vs H Q E, sp vs H Q E → vs.length = ps.length)
    (hbody : ∀ (cdv : Value) (A : Around) (outer : List Env) (s : Shared) (H : Hp) (vs : List V) (Q : VK) (E : XK), Room k (A.deeper (envOfC qual (defScope st) s.heap.objs.size f cdv)) →
      (A.deeper (envOfC qual (defScope st) s.heap.objs.size f cdv)).guards = some [] → sp vs H Q E →
      ∃ t, PSs (cxOf CX0 P w K mg base N qual (defScope st) f cdv A outer s H E).nox (defBody st) t ∧ t { nx := fun _ H' => Q .non H', rt := Q } (start N vs) H) :
    FnG P w K mg base (k + 1) f fd ps sp := by
  obtain ⟨oc, od, kV, doc, pm, an, cdv, ct, osl, rfl, lk, hcd⟩ := F.ex
  refine ⟨len, ?_⟩
  intro A outer s H args us vs Q E hr hg env0 hb rel hsp
  have hlen := len vs H Q E hsp
  have below : ∀ b o, base.get? b = some o → s.heap.get? b = some o := fun b o e => (env0.bs b o e).1
  have KX : K.In s.heap := env0.mod.kin.keeps below
  have noLim : s.heap.NoLimit := env0.mod.nolimit.keeps below
  have kinds : ∀ y ∈ ps.zip us, (defScope st).names.lookup y.1 = some .local ∨ ((defScope st).names.lookup y.1 = some .cell ∧ ((cellsFrom (s.heap.objs.size + 1) (defScope st).names []).lookup y.1).isSome = true) := by
    rintro ⟨n, v⟩ hy
    exact (S.par n (List.of_mem_zip hy).1).imp id fun q => ⟨q, PySem.W.cellsFrom_some _ _ _ (.inl q)⟩
  refine codeAny_call_function hr.depth (KX f _ lk) rfl S.co S.gen rfl (PySem.W.codeRec_of KX hcd) (hb _ _ _ _ (wpAny_newFunctionEnv_cells S.kind kinds ?_))
  intro env he s1 x
  subst he
  refine ⟨noLim.keeps x.toInCall.keep, codeAny_func ?_⟩
  obtain ⟨t, ht, hq⟩ := hbody cdv A outer s H vs Q E (hr.deeper _) (g_deeper hg) hsp
  have I := inv_start (CX := CX0) (E := E) S hr.hd env0 hlen rel x
  refine wpAny_mono (ht.nox.run [] s1 (start N vs) H _ I hq) (fun fl s' hs => ?_) (fun e s' hs => hs)
  cases fl with
  | brk => exact hs.elim fun _ z => z.elim fun _ z => z.2.elim
  | cont => exact hs.elim fun _ z => z.elim fun _ z => z.2.elim
  | next =>
    obtain ⟨σ', H', J, q⟩ := hs
    exact ⟨.non, H', J.os, J.bare, J.base, J.hok, rfl, q⟩
  | ret u =>
    obtain ⟨v, σ', H', J, rv, q⟩ := hs
    exact ⟨v, H', J.os, J.bare, J.base, J.hok, rv, q⟩
end
section
variable {X : Cx} {k : Nat} {f : Addr} {fd : FuncData} {ps : List Str} {sp : Sp} {x : Str} {p pos : Pos} {e : Expr} {es : List Expr} {t : TA}
theorem run_G {pins : List (Addr × Obj)} {σ : L2.St} {H : Hp} {s : Shared} {Q : VK} {us : List Value} {vs : List V} {args : Args} (F : FnG X.prog X.w X.K X.mg X.base k f fd ps sp) (hr : Room k X.A) (hG : X.A.guards = some [])
    (I : Inv X pins σ H s) (hb : BindsTo s fd args (ps.zip us)) (r : Vals vs us) (h : sp vs H Q E0) : codeAny (model X.prog X.w) X.A (.call (.ref f) args) (fun r s' => ∃ u, r = .ok (.ret u) ∧ EP X pins σ Q u s') s := by
  refine codeAny_mono (F.run X.A X.stack s H args us vs Q E0 hr hG I.env0 hb r h) ?_
  intro r s' hq
  match r, hq with
  | .error e, hq => exact hq.elim
  | .ok (.ret u), hq => exact ⟨u, rfl, I.after hq⟩
/-- f(e, ..) -/
theorem pe_callG (F : FnG X.prog X.w X.K X.mg X.base k f fd ps sp) (hr : Room k X.A) (hG : X.A.guards = some []) (hg : Gl X x) (hm : X.mg x = some (.ref f)) (hk : PySem.W.keepIn X.K (.ref f) = true) (hb : Binds X.K fd ps [])
    (ha : PA X (e :: es) t) (hdb : (x == ("__debug__" : Str)) = false := by decide) (he : starEach (e :: es) X.env = (false, eval e X.env) :: starEach es X.env := by rfl) (hpl : (backTo pos (starEach es X.env)).any (·.1) = false := by rfl) :
    PE X (.Call (.Name x p) (e :: es) [] pos) (tCall sp [] E0 t) := by
  constructor
  intro pins s σ H Q I h
  refine wpAny_Call_Name_kw (ld_glob I hg hm (PySem.W.callWith_K (h₀ := X.base) I.ok.mod.kin hk (thn (ha.run pos pins s σ H _ I h) ?_) he hpl) hdb)
  rintro us s1 ⟨vs, H1, I1, r, q⟩
  rw [List.append_nil] at q
  have hl : us.length = ps.length := by rw [← r.length]; exact F.len _ _ _ _ q
  have z := hb s1 us I1.kIn (by rw [List.append_nil]; exact hl)
  rw [List.append_nil] at z
  refine ⟨I1.kIn, ?_⟩
  show wpAny _ _ (call (.ref f) us) _ _ _
  refine wpAny_call (codeAny_mono (run_G F hr hG I1 z r q) ?_)
  rintro r s' ⟨u, rfl, z⟩
  exact z
/-- f(k = e, ..), keywords alone -/
structure KwB (K : PySem.W.Frag) (fd : FuncData) (ps ks : List Str) (gv : List Value → List Value) (gV : List V → List V) : Prop where
  to : ∀ (s : Shared) (ws : List Value), ws.length = ks.length → BindsTo s fd ⟨[], ks.zip ws⟩ (ps.zip (gv ws))
  rel : ∀ {zs : List V} {ws : List Value}, zs.length = ks.length → Vals zs ws → Vals (gV zs) (gv ws)
def tCallKw (sp : Sp) (n : Nat) (gV : List V → List V) (t : TA) : TE := fun σ H Q => t σ H fun zs H2 => zs.length = n ∧ sp (gV zs) H2 Q E0
variable {ks : List Str} {gv : List Value → List Value} {gV : List V → List V} {kws : List Keyword}
theorem pe_callKwG (F : FnG X.prog X.w X.K X.mg X.base k f fd ps sp) (hr : Room k X.A) (hG : X.A.guards = some []) (hg : Gl X x) (hm : X.mg x = some (.ref f)) (hk : PySem.W.keepIn X.K (.ref f) = true) (hb : KwB X.K fd ps ks gv gV)
    (ha : PK X kws t) (hall : (backToKw pos (keywordEach kws X.env)).all (·.1.isSome) = true := by rfl) (hks : (backToKw pos (keywordEach kws X.env)).filterMap (·.1) = ks := by rfl) (hdb : (x == ("__debug__" : Str)) = false := by decide)
    (hpl : ((backTo pos (starEach [] X.env)).any (·.1) || (backToKw pos (keywordEach kws X.env)).any (·.1.isNone)) = false := by rfl) : PE X (.Call (.Name x p) [] kws pos) (tCallKw sp ks.length gV t) := by
  constructor
  intro pins s σ H Q I h
  refine wpAny_Call_Name_kw (ld_glob I hg hm (PySem.W.callWith_KW0 (h₀ := X.base) I.ok.mod.kin hk hall (thn (ha.run pos pins s σ H _ I h) ?_) hpl) hdb)
  rintro ws s2 ⟨zs, H2, I2, rz, l, q⟩
  refine ⟨I2.kIn, ?_⟩
  rw [hks]
  refine wpAny_call (codeAny_mono (run_G (args := ⟨[], ks.zip ws⟩) F hr hG I2 (hb.to s2 ws (by rw [← rz.length]; exact l)) (hb.rel l rz) q) ?_)
  rintro r s' ⟨u, rfl, z⟩
  exact z
/-! ### repr of data -/
theorem call_repr_data (hu : X.A.units + 66 < cLine) (hG : X.A.guards = some []) : CallR X (.builtin "repr") (fun xs H Q => ∃ x d, xs = [x] ∧ Dp X.K H x d ∧ d.showable = true ∧ d.hasDict = false ∧ d.depth ≤ 64 ∧ d.shown.length ≤ sizeLine ∧ Q (.str d.shown) H) := by
  intro pins s σ H vs us Q I r h
  obtain ⟨x, d, rfl, hd, h1, h2, h3, h4, q⟩ := h
  obtain ⟨u, rfl, ru⟩ := vals1 r
  cases x with
  | ref a =>
    obtain ⟨as, rd⟩ := Dp.reads I d (.ref a) u hd ru
    obtain rfl : u = Value.ref a := ru
    refine repr_of_reads' rd h1 (fun z => by rw [h2] at z; cases z) hG (by omega) (fun _ _ e => e) (fun h' u tk kp => ?_) h4
    exact ⟨.str d.shown, H, I.kept kp, ⟨_, rfl⟩, q⟩
  | non =>
    cases hd
    obtain rfl : u = Value.none := ru
    exact PySem.P.repr_of_none ⟨.str _, H, I.tok _, ⟨_, rfl⟩, by rw [PyData.shown_none] at q; exact q⟩
  | bl b =>
    cases hd
    obtain rfl : u = Value.bool b := ru
    exact PySem.P.repr_of_bool ⟨.str _, H, I.tok _, ⟨_, rfl⟩, by rw [PyData.shown_bool] at q; exact q⟩
  | int i =>
    cases hd
    obtain ⟨t, rfl⟩ := ru
    exact PySem.P.repr_of_int (by simpa [PyData.showable] using h1) ⟨.str _, H, I.tok _, ⟨_, rfl⟩, by rw [PyData.shown_int] at q; exact q⟩
  | str z =>
    cases hd
    obtain ⟨t, rfl⟩ := ru
    rw [PyData.shown_str] at q h4
    exact PySem.P.repr_of_str ⟨.str _, H, I.tok _, ⟨_, rfl⟩, q⟩ h4
  | byt b => cases hd
  | flt b => cases hd
  | ty n => cases hd
end
end Ag

end
/-! ## End0 -/
section
set_option linter.all false
set_option maxRecDepth 100000
namespace Ag
open PySem PySem.Spec PyProof.Rows L2
/-! ### the end of a law's row, over FnG -/
/-- the heap at the law's entry: the script alone is known -/
def hScr (K : PySem.W.Frag) (a : Addr) (o : Obj) (xs : List V) : Hp := fun b => if b = a ∧ K.lookup a = none then some (.frz o (.lst xs)) else none
theorem hScr_at {K : PySem.W.Frag} {a b : Addr} {o : Obj} {xs : List V} {u : HO} (h : hScr K a o xs b = some u) : b = a ∧ K.lookup a = none ∧ u = .frz o (.lst xs) := by
  unfold hScr at h
  split at h
  · rename_i c
    exact ⟨c.1, c.2, (Option.some.inj h).symm⟩
  · cases h
theorem hScr_only {K : PySem.W.Frag} {a b : Addr} {o : Obj} {xs : List V} : hScr K a o xs b = none ∨ hScr K a o xs b = some (.frz o (.lst xs)) := by
  cases h : hScr K a o xs b with
  | none => exact .inl rfl
  | some u => exact .inr (by rw [(hScr_at h).2.2])
theorem lawG {P : Program} {w : World} {K : PySem.W.Frag} {mg mb : Str → Option Value} {k : Nat} {fa a : Addr} {fd : FuncData} {x : Str} {sp : Sp} {s₁ : Shared} {vs : List Value} {ns : List Int}
    (KX : K.In s₁.heap) (hns : s₁.heap.Ns mainGlobals mg) (hb : s₁.heap.Ns builtinsNs mb) (hbb : ∀ x : Str, x ≠ "__name__" → mb x = bootBuiltins x) (hlim : s₁.heap.NoLimit) (gens : s₁.gens = #[])
    (ha : s₁.heap.get? a = some { cls := .type "list", data := .seq vs.toArray }) (hi : IntsAre vs ns) (hl : ns.length ≤ sizeLine) (hr : Room k callerA)
    (F : ∀ base : Heap, K.In base → base.Ns mainGlobals mg → FnG P w K mg base k fa fd [x] sp) (hbind : ∀ (s : Shared) (u : Value), BindsTo s fd ⟨[u], []⟩ [(x, u)])
    (hsp : ∀ H : Hp, SqL K H a (ns.map V.int) → sp [.ref a] H (fun v _ => v = .bl true) E0) :
    codeAny (model P w) callerA (.call (.ref fa) ⟨[.ref a], []⟩) (fun r s' => r = .ok (.ret (.bool true)) ∧ OldK s₁.heap s'.heap ∧ s'.os = s₁.os ∧ AllBare s'.gens) s₁ := by
  generalize hH : hScr K a { cls := .type "list", data := .seq vs.toArray } (ns.map V.int) = H
  have at_ : ∀ {b u}, H b = some u → b = a ∧ K.lookup a = none ∧ u = .frz { cls := .type "list", data := .seq vs.toArray } (.lst (ns.map V.int)) := fun h => hScr_at (by rw [hH]; exact h)
  have rv : Vals (ns.map V.int) vs := vals_ints hi
  have hok : HOk P w H s₁.heap := fun b u e => by
    obtain ⟨rfl, _, rfl⟩ := at_ e
    exact ⟨ha, by rw [List.length_map]; exact hl, vs, _, rv, ha⟩
  have sq : SqL K H a (ns.map V.int) := by
    cases hk : K.lookup a with
    | some o =>
      have e := KX a o hk
      rw [ha] at e
      cases e
      exact .inr ⟨_, vs.toArray, _, hk, rfl, rfl, rfl, by rw [List.size_toArray, hi.length]; exact hl, by simpa using rv⟩
    | none => exact .inl (.inr ⟨_, by rw [← hH]; exact if_pos ⟨rfl, hk⟩⟩)
  have keepB : ∀ {b : Addr} {o : Obj}, s₁.heap.get? b = some o → H b = none → (hidT s₁.heap H).get? b = some o := fun e n => hidT_get e n
  have dicts : ∀ {b : Addr} {o : Obj} {es : Array DictEntry} {ep : Nat}, s₁.heap.get? b = some o → o.data = .dict es ep → H b = none := by
    intro b o es ep e d
    cases q : H b with
    | none => rfl
    | some u =>
      obtain ⟨rfl, _, _⟩ := at_ q
      rw [ha] at e
      cases e
      cases d
  have nsB : ∀ {b : Addr} {m : Str → Option Value}, s₁.heap.Ns b m → (hidT s₁.heap H).Ns b m := by
    rintro b m ⟨o, es, ep, e, d, r⟩
    exact ⟨o, es, ep, keepB e (dicts e d), d, r⟩
  have kinB : K.In (hidT s₁.heap H) := by
    intro b o e
    refine keepB (KX b o e) ?_
    cases q : H b with
    | none => rfl
    | some u =>
      obtain ⟨rfl, n, _⟩ := at_ q
      rw [n] at e
      cases e
  have modB : Mod K mg (hidT s₁.heap H) := ⟨kinB, nsB hns, ⟨mb, nsB hb, hbb⟩, hlim.elim fun mc z => ⟨mc, nsB z.1, z.2⟩⟩
  have env : Env0 P w K mg (hidT s₁.heap H) callerA [] s₁ H :=
    ⟨rfl, modB, fun _ _ e => of_hidT e, Nat.le_of_eq (hidT_size s₁.heap H), trivial, (fun b z => by cases z), hok, .of_eq gens⟩
  refine codeAny_mono ((F _ kinB (nsB hns)).run callerA [] s₁ H ⟨[.ref a], []⟩ [.ref a] [.ref a] _ _ hr rfl env (hbind s₁ (.ref a)) (.cons rfl .nil) (hsp H sq)) ?_
  intro r s' h
  match r, h with
  | .error e, h => exact h.elim
  | .ok (.ret u), h =>
    obtain ⟨v, H', os, bare, un, hok', r', rfl⟩ := h
    obtain rfl : u = Value.bool true := r'
    refine ⟨rfl, OldK.of_keep fun b o e => ?_, os, bare⟩
    cases q : H b with
    | none => exact un.keep b o e q (fun z => by cases z) (fun z => by cases z)
    | some u =>
      obtain ⟨rfl, _, rfl⟩ := at_ q
      have e1 := (hok b _ q).1
      have e2 := (hok' b _ (un.frzs b _ _ q)).1
      rw [e] at e1
      rw [Option.some.inj e1]
      exact e2
theorem walkG {l : PySem.W.OpenLaw} {n k : Nat} {q : Program} {loose : List Str} {XP : (Str → Option Value) → Heap → Prop} {YP : World → Heap → Prop} {d : DefRec} {K : Params → PySem.W.Frag} {sp : PySem.W.Frag → Sp} {x : Str}
    (hn : l.most = some n) (hn2 : n ≤ sizeLine) (hdf : d.params.defaults = []) (hr : Room k callerA) (hY : ∀ (w : World) (h : Heap), YP w h → (K w.params).In h)
    (F : ∀ (w : World) (mg : Str → Option Value) (fa : Addr) (h : Heap), (K w.params).In h → h.Ns mainGlobals mg → mg d.name = some (.ref fa) →
      ∃ fd : FuncData, (∀ (s : Shared) (u : Value), BindsTo s fd ⟨[u], []⟩ [(x, u)]) ∧ ∀ base : Heap, (K w.params).In base → base.Ns mainGlobals mg → FnG l.prog w (K w.params) mg base k fa fd [x] (sp (K w.params)))
    (hsp : ∀ (K : PySem.W.Frag) (H : Hp) (a : Addr) (ns : List Int), ns.length ≤ n → SqL K H a (ns.map V.int) → sp K [.ref a] H (fun v _ => v = .bl true) E0) :
    PySem.W.WalkO q loose XP YP l.row.toRowW d [] (fun f vs => PySem.call f vs) := by
  refine Att.attach_call hn hdf ?_
  intro w s₀ s₁ mg mb fa o pm cd doc a vs ns G Y ho hd hcd hmg hobj hints hlen hg
  obtain ⟨fd, hb, hF⟩ := F w mg fa _ (hY w _ Y) G.T.g hmg
  exact lawG (hY w _ Y) G.T.g G.T.b G.T.builtins G.T.nolimit hg hobj hints (Nat.le_trans hlen hn2) hr hF hb (fun H sq => hsp _ H a ns hlen sq)
end Ag

end
/-! ## Math1 -/
section
set_option linter.all false
namespace Ag
open PySem
/-! ### decimal texts -/
abbrev numL := TL.numL
abbrev digitsVal := NumText.digitsVal
def plainC (c : Nat) : Bool := decide (32 ≤ c) && decide (c ≤ 126)
def digC (c : Nat) : Bool := decide (48 ≤ c) && decide (c ≤ 57)
def plainL (l : List Nat) : Bool := l.all plainC
def isDec (l : List Nat) (m : Nat) : Bool := decide (numL (digitsVal l) = l) && decide (digitsVal l ≤ m)
theorem dv_snoc (l : List Nat) (c : Nat) : digitsVal (l ++ [c]) = digitsVal l * 10 + (c - 48) := by
  show List.foldl _ 0 (l ++ [c]) = _
  rw [List.foldl_append]
  rfl
theorem isDec_iff {l : List Nat} {m : Nat} : isDec l m = true ↔ ∃ k, k ≤ m ∧ l = numL k := by
  unfold isDec
  rw [Bool.and_eq_true, decide_eq_true_eq, decide_eq_true_eq]
  constructor
  · rintro ⟨a, b⟩
    exact ⟨_, b, a.symm⟩
  · rintro ⟨k, hk, rfl⟩
    have e : digitsVal (numL k) = k := TL.numL_val k
    rw [e]
    exact ⟨rfl, hk⟩
theorem numL_all (k : Nat) : ∀ c ∈ numL k, 48 ≤ c ∧ c ≤ 57 := TL.numL_digits k
theorem numL_ne (k : Nat) : numL k ≠ [] := TL.numL_ne k
theorem numL_val (k : Nat) : digitsVal (numL k) = k := TL.numL_val k
theorem numL_zero_head : ∀ (k : Nat) (l : List Nat), numL k = 48 :: l → k = 0 := by
  intro k
  induction k using Nat.strongRecOn with
  | ind k ih =>
    intro l h
    by_cases hk : k < 10
    · have e : numL k = [48 + k] := TL.numL_lt hk
      rw [e] at h
      injection h with h1 h2
      omega
    · have e : numL k = numL (k / 10) ++ [48 + k % 10] := TL.numL_step (by omega)
      rw [e] at h
      have hne := numL_ne (k / 10)
      cases hq : numL (k / 10) with
      | nil => exact absurd hq hne
      | cons d r =>
        rw [hq] at h
        injection h with h1 h2
        subst h1
        have z := ih (k / 10) (by omega) r hq
        omega
/-- one more digit -/
theorem isDec_snoc {s : List Nat} {c m : Nat} (hs : s = [] ∨ ∃ k, s = numL k) :
    isDec (s ++ [c]) m = (digC c && decide (s ≠ [48]) && decide (digitsVal (s ++ [c]) ≤ m)) := by
  rw [Bool.eq_iff_iff, isDec_iff]
  simp only [Bool.and_eq_true, decide_eq_true_eq, digC]
  constructor
  · rintro ⟨k, hk, e⟩
    have hc : 48 ≤ c ∧ c ≤ 57 := numL_all k c (by rw [← e]; simp)
    refine ⟨⟨hc, ?_⟩, ?_⟩
    · rintro rfl
      have z := numL_zero_head k [c] e.symm
      subst z
      have e2 : numL 0 = [48] := TL.numL_lt (by decide)
      rw [e2] at e
      simp at e
    · rw [e, numL_val]
      exact hk
  · rintro ⟨⟨hc, hne⟩, hv⟩
    refine ⟨digitsVal (s ++ [c]), hv, ?_⟩
    rw [dv_snoc]
    rcases hs with rfl | ⟨k, rfl⟩
    · show [c] = numL (0 * 10 + (c - 48))
      have e : numL (0 * 10 + (c - 48)) = [48 + (0 * 10 + (c - 48))] := TL.numL_lt (by omega)
      rw [e]
      congr 1
      omega
    · rw [numL_val]
      have hk : k ≠ 0 := by
        rintro rfl
        exact hne (TL.numL_lt (by decide))
      have e : numL (k * 10 + (c - 48)) = numL ((k * 10 + (c - 48)) / 10) ++ [48 + (k * 10 + (c - 48)) % 10] := TL.numL_step (by omega)
      rw [e, show (k * 10 + (c - 48)) / 10 = k by omega, show 48 + (k * 10 + (c - 48)) % 10 = c by omega]
theorem isDec_nil (m : Nat) : isDec [] m = false := by
  cases h : isDec [] m with
  | false => rfl
  | true =>
    obtain ⟨k, _, e⟩ := isDec_iff.mp h
    exact absurd e.symm (numL_ne k)
theorem numL_len3 {k : Nat} (h : k ≤ 200) : (numL k).length ≤ 3 := TL.numL_len (by decide) (by omega)
/-! ### reading, sign by sign -/
inductive Out where
  | read (ts : List (List Nat)) (r : List Nat)
  | wrong (ts : List (List Nat)) (k : Nat)
  deriving DecidableEq
def Out.pre (ts : List (List Nat)) (i : Nat) : Out → Out
  | .read us r => .read (ts ++ us) r
  | .wrong us k => .wrong (ts ++ us) (i + k)
theorem Out.pre_pre (ts us : List (List Nat)) (i j : Nat) (o : Out) : (o.pre us j).pre ts i = o.pre (ts ++ us) (i + j) := by
  cases o <;> simp [Out.pre, Nat.add_assoc]
theorem Out.pre_nil (o : Out) : o.pre [] 0 = o := by cases o <;> simp [Out.pre]
def glue (s : List Nat) : Option (List Nat) → List Nat
  | none => s
  | some t => s ++ 58 :: t
/-- one sign: none if it is wrong; else the text that is complete, if there is one, and the next state -/
def stp (s : List Nat) (t : Option (List Nat)) (c : Nat) : Option (Option (List Nat) × List Nat × Option (List Nat)) :=
  match t with
  | none => if c = 58 ∧ s ≠ [] then some (none, s, some []) else if isDec (s ++ [c]) 200 = true then some (none, s ++ [c], none) else none
  | some t => if t.length < digitsVal s then (if plainC c = true then some (none, s, some (t ++ [c])) else none) else if c = 44 then some (some t, [], none) else none
def lr (s : List Nat) (t : Option (List Nat)) : List Nat → Out
  | [] => .read [] (glue s t)
  | c :: cs => match stp s t c with
    | none => .wrong [] 0
    | some (o, s', t') => (lr s' t' cs).pre o.toList 1
/-- states that can be -/
def Vd (s : List Nat) : Option (List Nat) → Prop
  | none => s = [] ∨ ∃ k, k ≤ 200 ∧ s = numL k
  | some t => (∃ k, k ≤ 200 ∧ s = numL k ∧ t.length ≤ k) ∧ plainL t = true
theorem plainL_snoc {t : List Nat} {c : Nat} : plainL (t ++ [c]) = (plainL t && plainC c) := by
  simp [plainL, List.all_append]
theorem Vd.step {s : List Nat} {t : Option (List Nat)} {c : Nat} (v : Vd s t) {o : Option (List Nat)} {s' : List Nat} {t' : Option (List Nat)} (h : stp s t c = some (o, s', t')) : Vd s' t' := by
  cases t with
  | none =>
    simp only [stp] at h
    split at h
    · rename_i q
      cases h
      rcases v with rfl | ⟨k, hk, e⟩
      · exact absurd rfl q.2
      · exact ⟨⟨k, hk, e, Nat.zero_le _⟩, rfl⟩
    · split at h
      · rename_i q
        cases h
        exact .inr (isDec_iff.mp q)
      · cases h
  | some t =>
    simp only [stp] at h
    obtain ⟨⟨k, hk, e, hl⟩, hp⟩ := v
    split at h
    · rename_i q
      split at h
      · rename_i hc
        cases h
        refine ⟨⟨k, hk, e, ?_⟩, by rw [plainL_snoc, hp, hc]; rfl⟩
        rw [e, numL_val] at q
        simp
        omega
      · cases h
    · split at h
      · cases h
        exact .inl rfl
      · cases h
/-- the state of a rest -/
def spS (r : List Nat) : List Nat := match TL.par [58] [] r with | some (p, _) => p | none => r
def spT (r : List Nat) : Option (List Nat) := match TL.par [58] [] r with | some (_, q) => some q | none => none
theorem colon_free {k : Nat} : 58 ∉ numL k := TL.numL_free (.inr (by decide))
theorem Vd.free {s : List Nat} {t : Option (List Nat)} (v : Vd s t) : 58 ∉ s := by
  cases t with
  | none =>
    rcases v with rfl | ⟨k, _, rfl⟩
    · exact List.not_mem_nil
    · exact colon_free
  | some t =>
    obtain ⟨⟨k, _, rfl, _⟩, _⟩ := v
    exact colon_free
theorem par_glue {s : List Nat} {t : Option (List Nat)} (h : 58 ∉ s) : TL.par [58] [] (glue s t) = t.map fun t => (s, t) := by
  cases t with
  | none => exact SX.par_head_none h
  | some t => exact SX.par_head t h
theorem sp_glue {s : List Nat} {t : Option (List Nat)} (v : Vd s t) : spS (glue s t) = s ∧ spT (glue s t) = t := by
  unfold spS spT
  rw [par_glue v.free]
  cases t <;> exact ⟨rfl, rfl⟩
/-- reading leads to a rest -/
theorem lr_rest : ∀ (l : List Nat) {s : List Nat} {t : Option (List Nat)} {ts : List (List Nat)} {r : List Nat}, Vd s t → lr s t l = .read ts r → ∃ s' t', Vd s' t' ∧ r = glue s' t'
  | [], s, t, ts, r, v, h => by
    simp only [lr] at h
    cases h
    exact ⟨s, t, v, rfl⟩
  | c :: cs, s, t, ts, r, v, h => by
    simp only [lr] at h
    cases hs : stp s t c with
    | none => rw [hs] at h; cases h
    | some p =>
      obtain ⟨o, s', t'⟩ := p
      rw [hs] at h
      simp only at h
      cases hl : lr s' t' cs with
      | wrong us k => rw [hl] at h; cases h
      | read us r' =>
        rw [hl] at h
        cases h
        exact lr_rest cs (v.step hs) hl
/-- two strings, one behind the other -/
def Out.thn (n : Nat) (o : Out) (k : List Nat → Out) : Out := match o with
  | .read ts r => (k r).pre ts n
  | .wrong ts i => .wrong ts i
theorem lr_app : ∀ (a b : List Nat) {s : List Nat} {t : Option (List Nat)}, Vd s t → lr s t (a ++ b) = (lr s t a).thn a.length fun r => lr (spS r) (spT r) b
  | [], b, s, t, v => by
    show lr s t b = (lr (spS (glue s t)) (spT (glue s t)) b).pre [] 0
    rw [(sp_glue v).1, (sp_glue v).2, Out.pre_nil]
  | c :: cs, b, s, t, v => by
    show lr s t (c :: (cs ++ b)) = _
    simp only [lr]
    cases hs : stp s t c with
    | none => rfl
    | some p =>
      obtain ⟨o, s', t'⟩ := p
      simp only
      rw [lr_app cs b (v.step hs)]
      cases lr s' t' cs with
      | wrong us k => rfl
      | read us r' =>
        show Out.pre o.toList 1 (Out.pre us cs.length (lr (spS r') (spT r') b)) = Out.pre (o.toList ++ us) (cs.length + 1) (lr (spS r') (spT r') b)
        rw [Out.pre_pre, Nat.add_comm 1]
/-! ### the program's way: one frame after the other -/
/-- how many of the signs are digits of a length -/
def dgs (s : List Nat) : List Nat → Nat
  | [] => 0
  | c :: cs => if isDec (s ++ [c]) 200 = true then dgs (s ++ [c]) cs + 1 else 0
theorem dgs_le : ∀ (l s : List Nat), dgs s l ≤ l.length
  | [], _ => Nat.le_refl _
  | c :: cs, s => by
    unfold dgs
    split
    · have := dgs_le cs (s ++ [c])
      simp
      exact this
    · exact Nat.zero_le _
theorem lr_dgs : ∀ (l : List Nat) {s : List Nat}, Vd s none → lr s none l = (lr (s ++ l.take (dgs s l)) none (l.drop (dgs s l))).pre [] (dgs s l) ∧ Vd (s ++ l.take (dgs s l)) none ∧
    (∀ c cs, l.drop (dgs s l) = c :: cs → isDec (s ++ l.take (dgs s l) ++ [c]) 200 = false)
  | [], s, v => by
    refine ⟨?_, ?_, fun c cs h => ?_⟩
    · simp [dgs, Out.pre_nil]
    · simpa [dgs] using v
    · simp at h
  | c :: cs, s, v => by
    by_cases h : isDec (s ++ [c]) 200 = true
    · have hd : dgs s (c :: cs) = dgs (s ++ [c]) cs + 1 := by
        show (if isDec (s ++ [c]) 200 = true then _ else _) = _
        rw [if_pos h]
      have hc : c ≠ 58 := by
        obtain ⟨k, _, e⟩ := isDec_iff.mp h
        have := numL_all k c (by rw [← e]; simp)
        omega
      have v' : Vd (s ++ [c]) none := .inr (isDec_iff.mp h)
      obtain ⟨i1, i2, i3⟩ := lr_dgs cs v'
      have es : stp s none c = some (none, s ++ [c], none) := by
        show (if c = 58 ∧ s ≠ [] then _ else if isDec (s ++ [c]) 200 = true then _ else _) = _
        rw [if_neg (fun z => hc z.1), if_pos h]
      have el : lr s none (c :: cs) = (lr (s ++ [c]) none cs).pre [] 1 := by
        simp only [lr, es]
        rfl
      have ea : s ++ [c] ++ cs.take (dgs (s ++ [c]) cs) = s ++ (c :: cs).take (dgs (s ++ [c]) cs + 1) := by simp
      rw [hd, el, i1, Out.pre_pre, ea]
      rw [ea] at i2 i3
      refine ⟨?_, i2, fun d ds hq => i3 d ds (by simpa using hq)⟩
      rw [List.drop_succ_cons, Nat.add_comm]
      rfl
    · have hd : dgs s (c :: cs) = 0 := by
        show (if isDec (s ++ [c]) 200 = true then _ else _) = _
        rw [if_neg h]
      rw [hd]
      refine ⟨by simp [Out.pre_nil], by simpa using v, fun d ds hq => ?_⟩
      simp at hq
      obtain ⟨rfl, rfl⟩ := hq
      simpa using h
/-- how many signs ahead of the first one that no text has -/
def pls : List Nat → Nat
  | [] => 0
  | c :: cs => if plainC c = true then pls cs + 1 else 0
theorem pls_le : ∀ l : List Nat, pls l ≤ l.length
  | [] => Nat.le_refl _
  | c :: cs => by
    unfold pls
    split
    · have := pls_le cs
      simp
      exact this
    · exact Nat.zero_le _
theorem pls_all {l : List Nat} (h : plainL l = true) : pls l = l.length := by
  induction l with
  | nil => rfl
  | cons c cs ih =>
    have h' : plainC c = true ∧ plainL cs = true := by simpa [plainL] using h
    show (if plainC c = true then pls cs + 1 else 0) = _
    rw [if_pos h'.1, ih h'.2]
    rfl
theorem pls_lt {l : List Nat} (h : plainL l = false) : pls l < l.length ∧ ∃ c, l[pls l]? = some c ∧ plainC c = false := by
  induction l with
  | nil => cases h
  | cons c cs ih =>
    by_cases hc : plainC c = true
    · have h' : plainL cs = false := by
        have z : (plainC c && plainL cs) = false := h
        rw [hc] at z
        exact z
      obtain ⟨a, d, b1, b2⟩ := ih h'
      have e : pls (c :: cs) = pls cs + 1 := by
        show (if plainC c = true then pls cs + 1 else 0) = _
        rw [if_pos hc]
      rw [e]
      exact ⟨by simp; exact a, d, by simpa using b1, b2⟩
    · have e : pls (c :: cs) = 0 := by
        show (if plainC c = true then pls cs + 1 else 0) = _
        rw [if_neg hc]
      rw [e]
      exact ⟨by simp, c, by simp, by simpa using hc⟩
theorem pls_plain : ∀ l : List Nat, plainL (l.take (pls l)) = true
  | [] => rfl
  | c :: cs => by
    by_cases hc : plainC c = true
    · have e : pls (c :: cs) = pls cs + 1 := by
        show (if plainC c = true then pls cs + 1 else 0) = _
        rw [if_pos hc]
      rw [e, List.take_succ_cons]
      show (plainC c && plainL (cs.take (pls cs))) = true
      rw [hc, pls_plain cs]
      rfl
    · have e : pls (c :: cs) = 0 := by
        show (if plainC c = true then pls cs + 1 else 0) = _
        rw [if_neg hc]
      rw [e]
      rfl
/-- the signs of a text -/
theorem lr_text : ∀ (a : List Nat) (l : List Nat) {s t : List Nat}, plainL a = true → t.length + a.length ≤ digitsVal s → lr s (some t) (a ++ l) = (lr s (some (t ++ a)) l).pre [] a.length
  | [], l, s, t, _, _ => by simp [Out.pre_nil]
  | c :: cs, l, s, t, hp, hl => by
    have hp' : plainC c = true ∧ plainL cs = true := by simpa [plainL] using hp
    simp only [List.length_cons] at hl
    have es : stp s (some t) c = some (none, s, some (t ++ [c])) := by
      show (if t.length < digitsVal s then _ else _) = _
      rw [if_pos (by omega), if_pos hp'.1]
    have el : lr s (some t) (c :: (cs ++ l)) = (lr s (some (t ++ [c])) (cs ++ l)).pre [] 1 := by
      simp only [lr, es]
      rfl
    show lr s (some t) (c :: (cs ++ l)) = _
    rw [el, lr_text cs l hp'.2 (by simp; omega), Out.pre_pre]
    simp [Nat.add_comm]
/-- what next_frame tells of the signs from its start on -/
inductive Nf where
  | part (at_ : Nat) | wrong (at_ : Nat) | whole (t : List Nat) (at_ : Nat)
def nf (l : List Nat) : Nf :=
  let k := dgs [] l
  if k = l.length then .part k else
  if k = 0 ∨ l[k]? ≠ some 58 then .wrong k else
  let n := digitsVal (l.take k)
  let part := (l.drop (k + 1)).take n
  let e := k + 1 + pls part
  if e = l.length then .part e else
  if l[e]? ≠ some 44 then .wrong e else .whole part (k + 1 + n + 1)
theorem nf_lr (l : List Nat) : match nf l with
    | .part _ => ∃ r, lr [] none l = .read [] r ∧ r = l
    | .wrong k => lr [] none l = .wrong [] k ∧ k < l.length
    | .whole t k => lr [] none l = (lr [] none (l.drop k)).pre [t] k ∧ k ≤ l.length ∧ 0 < k := by
  obtain ⟨h1, h2, h3⟩ := lr_dgs l (s := []) (.inl rfl)
  simp only [List.nil_append] at h1 h2 h3
  have hk := dgs_le l []
  generalize hkk : dgs [] l = k at h1 h2 h3 hk
  unfold nf
  rw [hkk]
  by_cases e1 : k = l.length
  · simp only [e1, if_true]
    rw [h1, e1, List.take_length, List.drop_length]
    exact ⟨l, by simp [lr, glue, Out.pre], rfl⟩
  · simp only [if_neg e1]
    have hlt : k < l.length := by omega
    obtain ⟨c, hc⟩ : ∃ c, l[k]? = some c := ⟨l[k], by simp [hlt]⟩
    have hd : l.drop k = c :: l.drop (k + 1) := by
      rw [List.drop_eq_getElem_cons hlt]
      congr 1
      rw [List.getElem?_eq_getElem hlt] at hc
      exact Option.some.inj hc
    have nd := h3 c _ hd
    by_cases e2 : k = 0 ∨ l[k]? ≠ some 58
    · simp only [if_pos e2]
      refine ⟨?_, hlt⟩
      rw [h1, hd]
      have es : stp (l.take k) none c = none := by
        show (if c = 58 ∧ l.take k ≠ [] then _ else if isDec (l.take k ++ [c]) 200 = true then _ else none) = _
        rw [if_neg, if_neg (by rw [nd]; decide)]
        rintro ⟨rfl, hn⟩
        rcases e2 with rfl | e2
        · exact hn rfl
        · exact e2 hc
      simp only [lr, es]
      simp [Out.pre]
    · simp only [if_neg e2]
      have hk0 : k ≠ 0 := fun z => e2 (.inl z)
      have hc58 : c = 58 := by
        by_cases q : c = 58
        · exact q
        · exact absurd (.inr (by rw [hc]; simpa using q)) e2
      subst hc58
      have hne : l.take k ≠ [] := by
        intro z
        have := congrArg List.length z
        rw [List.length_take, List.length_nil] at this
        omega
      have es : stp (l.take k) none 58 = some (none, l.take k, some []) := by
        show (if 58 = 58 ∧ l.take k ≠ [] then _ else _) = _
        rw [if_pos ⟨rfl, hne⟩]
      have h4 : lr [] none l = (lr (l.take k) (some []) (l.drop (k + 1))).pre [] (k + 1) := by
        rw [h1, hd]
        simp only [lr, es]
        rw [Out.pre_pre]
        rfl
      generalize hn : digitsVal (l.take k) = n
      generalize hm : l.drop (k + 1) = m at h4
      have hml : m.length = l.length - (k + 1) := by rw [← hm, List.length_drop]
      generalize hp : m.take n = part
      have hpm : m = part ++ m.drop n := by rw [← hp, List.take_append_drop]
      have hpl : part.length ≤ n := by rw [← hp, List.length_take]; omega
      have hb := pls_le part
      have hsp : m = part.take (pls part) ++ m.drop (pls part) := by
        have e : part.take (pls part) = m.take (pls part) := by
          rw [← hp, List.take_take, Nat.min_eq_left (by rw [hp]; omega)]
        rw [e, List.take_append_drop]
      have h5 : lr [] none l = (lr (l.take k) (some (part.take (pls part))) (m.drop (pls part))).pre [] (k + 1 + pls part) := by
        rw [h4]
        conv => lhs; rw [hsp]
        rw [lr_text _ _ (pls_plain part) (by rw [hn, List.length_take]; simp; omega), Out.pre_pre, List.length_take, Nat.min_eq_left hb]
        simp
      have hpm2 : part.length ≤ m.length := by rw [← hp, List.length_take]; omega
      by_cases e3 : k + 1 + pls part = l.length
      · simp only [if_pos e3]
        refine ⟨l, ?_, rfl⟩
        have hd0 : m.drop (pls part) = [] := List.drop_eq_nil_of_le (by omega)
        have ht0 : part.take (pls part) = m := by
          rw [hd0, List.append_nil] at hsp
          exact hsp.symm
        rw [h5, hd0, ht0]
        simp only [lr, glue, Out.pre, List.append_nil]
        rw [← hm]
        congr 1
        rw [← hd, List.take_append_drop]
      · simp only [if_neg e3]
        have hlt3 : k + 1 + pls part < l.length := by omega
        have hget : l[k + 1 + pls part]? = m[pls part]? := by rw [← hm, List.getElem?_drop]
        obtain ⟨d, hdd⟩ : ∃ d, m[pls part]? = some d := ⟨m[pls part]'(by omega), by rw [List.getElem?_eq_getElem (by omega)]⟩
        have hmd : m.drop (pls part) = d :: m.drop (pls part + 1) := by
          rw [List.drop_eq_getElem_cons (by omega)]
          congr 1
          rw [List.getElem?_eq_getElem (by omega)] at hdd
          exact Option.some.inj hdd
        rw [hget, hdd]
        have hcase : (pls part = n ∧ part.length = n) ∨ (pls part < n ∧ plainC d = false) := by
          cases hpp : plainL part with
          | true =>
            have e := pls_all hpp
            left
            have : part.length = n := by
              rw [e] at hlt3
              rw [← hp, List.length_take] at hlt3 ⊢
              omega
            omega
          | false =>
            obtain ⟨a, c', b1, b2⟩ := pls_lt hpp
            right
            refine ⟨by omega, ?_⟩
            have : part[pls part]? = m[pls part]? := by
              conv => rhs; rw [hpm]
              rw [List.getElem?_append_left a]
            rw [this, hdd] at b1
            rw [Option.some.inj b1]
            exact b2
        have htl : (part.take (pls part)).length = pls part := by rw [List.length_take, Nat.min_eq_left hb]
        by_cases e4 : d = 44
        · subst e4
          rw [if_neg (by simp)]
          rcases hcase with ⟨q1, q2⟩ | ⟨q1, q2⟩
          · refine ⟨?_, by omega, by omega⟩
            have et : part.take (pls part) = part := List.take_of_length_le (by omega)
            have es2 : stp (l.take k) (some part) 44 = some (some part, [], none) := by
              show (if part.length < digitsVal (l.take k) then _ else _) = _
              rw [if_neg (by rw [hn]; omega)]
              rfl
            have ed : m.drop (pls part + 1) = l.drop (k + 1 + n + 1) := by
              rw [← hm, List.drop_drop]
              congr 1
              omega
            rw [h5, et, hmd]
            simp only [lr, es2]
            rw [Out.pre_pre, ed]
            simp only [Option.toList, List.nil_append]
            congr 1
            omega
          · exact absurd q2 (by decide)
        · rw [if_pos (by simpa using e4)]
          refine ⟨?_, hlt3⟩
          have es2 : stp (l.take k) (some (part.take (pls part))) d = none := by
            show (if (part.take (pls part)).length < digitsVal (l.take k) then _ else if d = 44 then _ else none) = _
            rcases hcase with ⟨q1, q2⟩ | ⟨q1, q2⟩
            · rw [if_neg (by rw [hn, htl]; omega), if_neg e4]
            · rw [if_pos (by rw [hn, htl]; omega), if_neg (by rw [q2]; decide)]
          rw [h5, hmd]
          simp only [lr, es2]
          simp [Out.pre]
end Ag

end
/-! ## Kit -/
section
set_option linter.all false
set_option maxRecDepth 100000
namespace Ag
open PySem PySem.Spec PyProof.Rows L2
open SX (S S_len S_cat S_inj)
section
variable {J : It} {n : Nat} {G : Hp → Prop} {Y : Nat → Hp → V → Hp → Prop}
/-- a comprehension without tests: R stays, each item is as v says of its place -/
theorem lc_all (w : Walk J n G Y) {g : TG} {te : TE} {vs : List Nat} {σ : L2.St} {H1 : Hp} {D : Addr} {Qd : Hp → Prop} (R : Hp → Prop) (v : Nat → V → Prop) (hn : n ≤ 16000000) (r0 : R H1) (rD : ∀ H o, R H → R (upd H D o)) (hG : ∀ H, R H → G H)
    (hs : ∀ i x H H' xs (k : VK), i < n → R H → H D = some (.lst xs) → Y i H x H' → (∀ y H4, v i y → R H4 → H4 D = some (.lst xs) → k y H4) → g x (wipe σ vs) H' fun σ2 H2 => wipe σ2 vs = wipe σ vs ∧ te σ2 H2 k)
    (hd : ∀ H xs, xs.length = n → (∀ i y, xs[i]? = some y → v i y) → R H → H D = some (.lst xs) → Qd H) :
    ∃ W : Nat → Nat → Hp → Prop, (∃ m, W 0 m (upd H1 D (.lst []))) ∧ ∀ i m H, W i m H →
      (J.stop i H ∧ Qd H) ∨ (J.go i H ∧ ∃ Nx : Hp → Prop, (∀ H', Nx H' → ∃ m', m' < m ∧ W (i + 1) m' H') ∧ ∀ x H', J.yld i H x H' → g x (wipe σ vs) H' fun σ2 H2 => wipe σ2 vs = wipe σ vs ∧ tYes σ2 H2 fun b H3 =>
        if b = true then te σ2 H3 fun y H4 => ∃ acc, H4 D = some (.lst acc) ∧ acc.length < sizeLine ∧ Nx (upd H4 D (.lst (acc ++ [y]))) else Nx H3) := by
  refine lc_it (g := g) (tt := tYes) (te := te) (vs := vs) (σ := σ) w (fun i H => ∃ xs : List V, xs.length = i ∧ (∀ j y, xs[j]? = some y → v j y) ∧ R H ∧ H D = some (.lst xs)) ⟨[], rfl, fun j y h => by simp at h, rD _ _ r0, upd_same⟩ (fun i H hi p => ?_) (fun i x H H' hi p hy => ?_) (fun H p => ?_)
  · obtain ⟨xs, _, _, r, _⟩ := p
    exact hG H r
  · obtain ⟨xs, hl, hv, r, hD⟩ := p
    refine hs i x H H' xs _ hi r hD hy ?_
    rintro y H4 hvy r4 h4
    refine ⟨xs, h4, ?_, xs ++ [y], by simp [hl], fun j z hz => ?_, rD _ _ r4, upd_same⟩
    · rw [sizeLine_eq]; omega
    · rw [List.getElem?_append] at hz
      split at hz
      · exact hv j z hz
      · rename_i hj
        have e : j - xs.length = 0 := by
          cases hq : j - xs.length with
          | zero => rfl
          | succ k => rw [hq] at hz; simp at hz
        rw [e] at hz
        simp at hz
        subst hz
        have : j = i := by omega
        subst this
        exact hvy
  · obtain ⟨xs, hl, hv, r, hD⟩ := p
    exact hd H xs hl hv r hD
end
/-! ### cuts of texts -/
theorem sIx_at {n d a : Nat} (h : a ≤ n) : HT.sIx n d (some (a : Int)) = a := by rw [HT.sIx_nat, Nat.min_eq_left h]
theorem cut_S {l : List Nat} {a b : Nat} (ha : a ≤ l.length) : cutS (S l) (some (a : Int)) (some (b : Int)) = S ((l.drop a).take (b - a)) := by
  unfold cutS
  rw [S_len, sIx_at ha, HT.sIx_nat]
  congr 1
  congr 1
  by_cases hb : b ≤ l.length
  · rw [Nat.min_eq_left hb]
  · rw [Nat.min_eq_right (by omega), List.take_of_length_le (by rw [List.length_drop]; exact Nat.le_refl _), List.take_of_length_le (by rw [List.length_drop]; omega)]
theorem cut_from {l : List Nat} {a : Nat} (ha : a ≤ l.length) : cutS (S l) (some (a : Int)) none = S (l.drop a) := by
  unfold cutS
  rw [S_len, sIx_at ha, HT.sIx_none]
  congr 1
  congr 1
  rw [List.take_of_length_le (by rw [List.length_drop]; exact Nat.le_refl _)]
theorem cut_to {l : List Nat} {b : Nat} : cutS (S l) none (some (b : Int)) = S (l.take b) := by
  unfold cutS
  rw [S_len, HT.sIx_none, HT.sIx_nat, List.drop_zero, Nat.sub_zero]
  congr 1
  congr 1
  by_cases hb : b ≤ l.length
  · rw [Nat.min_eq_left hb]
  · rw [Nat.min_eq_right (by omega), List.take_of_length_le (Nat.le_refl _), List.take_of_length_le (by omega)]
end Ag

end
/-! ## Kit2 -/
section
set_option linter.all false
set_option maxRecDepth 100000
namespace Ag
open PySem PySem.Spec PyProof.Rows L2
open SX (S S_len S_cat S_inj)
/-! ### str * int -/
theorem foldl_cps (z : List Nat) (n : Nat) : (List.replicate n (S z).cps).foldl (· ++ ·) #[] = (List.replicate n z).flatten.toArray := by
  have key : ∀ (n : Nat) (acc : Array Nat), (List.replicate n (S z).cps).foldl (· ++ ·) acc = acc ++ (List.replicate n z).flatten.toArray := by
    intro n
    induction n with
    | zero => intro acc; simp
    | succ n ih =>
      intro acc
      rw [List.replicate_succ, List.foldl_cons, ih, List.replicate_succ, List.flatten_cons]
      apply Array.ext'
      simp
  rw [key n #[]]
  simp
theorem mul_S (z : List Nat) (n : Nat) : Txt.mul (S z) (n : Int) = S (List.replicate n z).flatten := by
  unfold Txt.mul
  by_cases h0 : n = 0
  · subst h0
    rfl
  · rw [if_neg (by omega)]
    split
    · rename_i h
      simp only [Bool.or_eq_true, beq_iff_eq] at h
      rcases h with h | h
      · have : n = 1 := by omega
        subst this
        simp
      · rw [S_len] at h
        have : z = [] := List.length_eq_zero_iff.mp h
        subst this
        simp
    · rw [show ((n : Int)).toNat = n by simp, foldl_cps]
theorem op_rep_str {X : Cx} : OpR X (binaryOp .Mult) (fun x y H Q => ∃ (z : List Nat) (n : Nat), x = .str (S z) ∧ y = .int (n : Int) ∧ z.length * n ≤ 16000000 ∧ n ≤ 16000000 ∧ z.length ≤ 16000000 ∧ Q (.str (S (List.replicate n z).flatten)) H) := by
  intro pins s σ H x y v u Q I rx ry h
  obtain ⟨z, n, rfl, rfl, h1, h2, h3, q⟩ := h
  obtain ⟨t, rfl⟩ := rx
  obtain ⟨t', rfl⟩ := ry
  refine SB.mul ⟨?_, fun _ _ => ?_, fun _ _ => ?_⟩ (fun a k => ?_)
  · rw [Bool.or_eq_false_iff, decide_eq_false_iff_not, decide_eq_false_iff_not]
    omega
  · rename_i a b
    have hn : (1 : Int) ≤ (n : Int) := by omega
    have : (2 ^ 63 - 1) / (n : Int) ≥ (2 ^ 63 - 1) / 16000000 := by
      rw [ge_iff_le, Int.le_ediv_iff_mul_le (by omega)]
      have e : ((2 ^ 63 - 1 : Int) / 16000000) = 576460752303 := by decide
      rw [e]
      omega
    have e : ((2 ^ 63 - 1 : Int) / 16000000) = 576460752303 := by decide
    rw [S_len]
    omega
  · rw [S_len]
    show decide (z.length * (n : Int).toNat > sizeLine) = false
    rw [decide_eq_false_iff_not, sizeLine_eq, show ((n : Int)).toNat = n by simp]
    omega
  · rw [mul_S]
    exact ⟨.str _, H, I.tok _, ⟨_, rfl⟩, q⟩
/-! ### for i, c in enumerate(text) -/
def Ites (x : Str) : It :=
  ⟨fun i _ => i < x.cps.size, fun i H v H' => ∃ T c, v = .ref T ∧ H T = none ∧ H' = upd H T (.tup [.int (i : Nat), .str ⟨#[c]⟩]) ∧ x.cps[i]? = some c, fun i _ => i = x.cps.size⟩
theorem walk_enumS {x : Str} : Walk (Ites x) x.cps.size (fun _ => True) (fun i H v H' => ∃ T c, v = .ref T ∧ H T = none ∧ H' = upd H T (.tup [.int (i : Nat), .str ⟨#[c]⟩]) ∧ x.cps[i]? = some c) :=
  ⟨fun _ _ h _ => h, fun _ _ => rfl, fun _ _ _ _ _ _ z => z⟩
theorem draws_str {P : Program} {w : World} {A : Around} (hh : A.handled = none) (it : Addr) (x : Str) (t : Tok) {ty : String} (hty : ty = "str_ascii_iterator" ∨ ty = "str_iterator") :
    Draws P w A it [it] x.cps.size (fun i v => ∃ c u, x.cps[i]? = some c ∧ v = .str ⟨#[c]⟩ u) (fun i h => h.IsStrIter it ty x t i) := by
  rcases hty with rfl | rfl
  · exact Draws.strAscii hh it x t
  · exact Draws.strWide hh it x t
theorem turn_enumS {P : Program} {w : World} {K : PySem.W.Frag} {elts : List Expr} {kk : Nat} {tpos : Pos} (x : Str) (t : Tok) (ty : String) (hty : ty = "str_ascii_iterator" ∨ ty = "str_iterator") (e it : Addr) :
    Turn P w K (.Tuple elts kk tpos) (Ites x) [e, it] e (fun i h => (∃ old, IsEnum h e it ((i : Nat) : Int) old) ∧ h.IsStrIter it ty x t i ∧ e ≠ it) where
  mem := List.mem_cons_self
  obj := by
    rintro i h ⟨⟨old, he⟩, ⟨o, ho, hc, hd⟩, _⟩ b hb
    rcases List.mem_cons.mp hb with rfl | hb
    · exact ⟨_, he, fun v q => by cases q⟩
    · obtain rfl := List.mem_singleton.mp hb
      exact ⟨o, ho, fun v q => by rw [hd] at q; cases q⟩
  keep := by
    rintro i h h' ⟨⟨old, he⟩, ⟨o, ho, r⟩, hne⟩ k
    exact ⟨⟨old, k e List.mem_cons_self _ he⟩, ⟨o, k it (List.mem_cons_of_mem _ List.mem_cons_self) o ho, r⟩, hne⟩
  item := by
    intro X hP hw hK hc i pins s σ H E I hf st hg
    subst hP hw hK
    obtain ⟨⟨old, he⟩, hit, hne⟩ := st
    have hel : e < s.heap.objs.size := Heap.lt_size he
    have hil : it < s.heap.objs.size := by obtain ⟨_, q, _⟩ := hit; exact Heap.lt_size q
    have D := draws_str (P := X.prog) (w := X.w) (A := X.A.in1) (I.ok.hd hc) it x t hty
    refine wpAny_pyNext_enum_itemD D he hit hg hne (fun z => hne (List.mem_singleton.mp z)) ?_
    rintro v h' tk ⟨c, u, hcx, rfl⟩ ho hit' hT hsz hk
    refine ⟨_, rfl, wpAny_letOwnedTupleGo_enum (s := { s with heap := h', toks := tk + 1 }) ho ?_⟩
    intro h'' he' sb
    have hT2 : h''.get? s.heap.objs.size = some { cls := .type "tuple", data := .seq #[.int i tk, .str ⟨#[c]⟩ u] } := (sb.2 _ (Nat.ne_of_gt hel)).trans hT
    have ok : ObjOk X.prog X.w (upd H s.heap.objs.size (.tup [.int (i : Nat), .str ⟨#[c]⟩])) h'' s.heap.objs.size (.tup [.int (i : Nat), .str ⟨#[c]⟩]) :=
      ⟨by show 2 ≤ sizeLine; decide, [.int i tk, .str ⟨#[c]⟩ u], .cons ⟨_, rfl⟩ (.cons ⟨_, rfl⟩ .nil), ⟨_, hT2, rfl, _, rfl⟩⟩
    have I1 : Inv X pins σ (upd H s.heap.objs.size (.tup [.int (i : Nat), .str ⟨#[c]⟩])) { s with heap := h'', toks := tk + 1 } :=
      I.turnedNew (ch := [e, it]) (fun b ob hb q => (sb.2 b (fun z => hb (by rw [z]; exact List.mem_cons_self))).trans (hk b ob (fun z => hb (by rw [z]; exact List.mem_cons_self)) (fun z => hb (by rw [z]; exact List.mem_cons_of_mem _ List.mem_cons_self)) q)) hf (Nat.le_refl _) ok
    have e1 : ((i + 1 : Nat) : Int) = (i : Int) + 1 := by omega
    have hit2 : h''.IsStrIter it ty x t (i + 1) := by
      obtain ⟨o, q1, q2⟩ := hit'
      exact ⟨o, (sb.2 it hne.symm).trans q1, q2⟩
    refine ⟨.ref s.heap.objs.size, _, I1, rfl, ⟨_, c, rfl, I.hok.fresh (Nat.le_refl _), rfl, hcx⟩, ⟨⟨_, by rw [e1]; exact he'⟩, hit2, hne⟩, fun b hb => ?_⟩
    have hb' : b < s.heap.objs.size := by
      rcases List.mem_cons.mp hb with rfl | z
      · exact hel
      · rw [List.mem_singleton.mp z]
        exact hil
    rw [upd_ne (Nat.ne_of_lt hb')]
    exact (hf b hb).1
  done := by
    intro X hP hw hK hc i pins s σ H E I hf st hg
    subst hP hw hK
    obtain ⟨⟨old, he⟩, hit, hne⟩ := st
    obtain ⟨f0, f1, f2, f3, f4, f5⟩ := hf it (List.mem_cons_of_mem _ List.mem_cons_self)
    obtain rfl : i = x.cps.size := hg
    have D := draws_str (P := X.prog) (w := X.w) (A := X.A.in1) (I.ok.hd hc) it x t hty
    exact wpAny_pyNext_enum_endD D he hit fun h' eb => ⟨rfl, I.turned (t' := s.toks) (fun b o hb q => eb b o hb q) f0 f1 f3 f4 f5⟩
  self := fun A i s Q E st h => st.1.elim fun _ z => wpAny_pyIter_enum z h
def iEnumS (ta : TA) : TI := fun σ H R => ta σ H fun vs H1 => ∃ x, vs = [.str x] ∧ R (Ites x) H1
theorem pi_enumS {X : Cx} {e : Expr} {ta : TA} {p pos tpos : Pos} {elts : List Expr} {kk : Nat} (hg : Gl X "enumerate") (hm : X.mg "enumerate" = none) (ha : PA X [e] ta) (hs : starEach [e] X.env = [(false, eval e X.env)] := by rfl) :
    PI X (.Tuple elts kk tpos) (.Call (.Name "enumerate" p) [e] [] pos) (iEnumS ta) := by
  constructor
  intro pins s σ H R I h
  refine Call_ (ld_blt I hg hm boot_enumerate (PyProof.Rows.callWith_type1 (thn (ha.run pos pins s σ H _ I h) ?_) hs rfl))
  rintro us s1 ⟨vs, H1, I1, r1, x, rfl, q⟩
  obtain ⟨u, rfl, t, rfl⟩ := vals1 r1
  refine call_enumerate_str fun h' he hit hsz hk => wpAny_pyIter_enum he ?_
  have I2 : Inv X pins σ H1 { s1 with heap := h' } := I1.kept (t' := s1.toks) hk
  have hty : strIterType x = "str_ascii_iterator" ∨ strIterType x = "str_iterator" := by
    unfold strIterType
    split
    · exact .inl rfl
    · exact .inr rfl
  refine ⟨s1.heap.objs.size + 1, [s1.heap.objs.size + 1, s1.heap.objs.size], _, _, H1, rfl, I2, turn_enumS x t _ hty (s1.heap.objs.size + 1) s1.heap.objs.size, ⟨⟨.none, he⟩, hit, Nat.succ_ne_self _⟩, ?_, q⟩
  intro b hb
  have hle : s1.heap.objs.size ≤ b := by
    rcases List.mem_cons.mp hb with rfl | z
    · exact Nat.le_succ _
    · rw [List.mem_singleton.mp z]
      exact Nat.le_refl _
  exact I1.fpOk hle (I1.hok.fresh hle)
/-- a target of two names, where a comprehension's block runs -/
theorem pg_two {X : Cx} (K : PySem.W.Frag) {i j : Nat} {x y : Str} {px py pt : Pos} {k : Nat} (hc : X.calm = true) (hN : X.N.Nodup) (hi : X.N[i]? = some x) (hj : X.N[j]? = some y) (hx : X.env.scope.names.lookup x = some .local) (hy : X.env.scope.names.lookup y = some .local) (hK : X.K = K) :
    PG X (.Tuple [.Name x px, .Name y py] k pt) (gTup K 2 (gCons (gName i) (gCons (gName j) gNil))) := by
  subst hK
  exact pg_tup hc (pgs_cons (pg_name hN hi (.inl hx) (.inr hx)) (pgs_cons (pg_name hN hj (.inl hy) (.inr hy)) pgs_nil))
end Ag

end
/-! ## Kit3 -/
section
set_option linter.all false
set_option maxRecDepth 100000
namespace Ag
open PySem PySem.Spec PyProof.Rows L2
open SX (S S_len S_cat S_inj)
def chars (z : List Nat) : List V := z.map fun c => V.str (S [c])
theorem call_list_S {X : Cx} (hc : X.calm = true) : CallR X (.type "list") (fun xs H Q => ∃ z : List Nat, xs = [.str (S z)] ∧ z.length ≤ 16000000 ∧ ∀ l, H l = none → Q (.ref l) (upd H l (.lst (chars z)))) := by
  intro pins s σ H xs us Q I r h
  obtain ⟨z, rfl, hz, q⟩ := h
  obtain ⟨u, rfl, t, rfl⟩ := vals1 r
  have hsz : (S z).cps.size = z.length := by simp
  refine PySem.call_list_str (I.ok.hd hc) (S z) t (fun h' tk acc c' kp e ha => ?_) (by rw [hsz, sizeLine_eq]; omega)
  have rv : Vals (chars z) acc.toList := by
    refine L2.vals_of_at ?_ ?_
    · have e1 := ha.1
      rw [hsz] at e1
      unfold chars
      rw [List.length_map, Array.length_toList]
      exact e1.symm
    · intro j x u hx hu
      obtain ⟨c, tk', hc', rfl⟩ := ha.2 j u (by simpa using hu)
      unfold chars at hx
      rw [List.getElem?_map] at hx
      have : z[j]? = some c := by simpa using hc'
      rw [this] at hx
      cases hx
      exact ⟨_, rfl⟩
  refine ⟨.ref s.heap.objs.size, upd H s.heap.objs.size (.lst (chars z)), I.laid kp (Nat.le_refl _) ⟨?_, acc.toList, c', rv, ?_⟩, rfl, q _ (I.hok.fresh (Nat.le_refl _))⟩
  · unfold chars
    rw [List.length_map, sizeLine_eq]
    omega
  · simpa using e
end Ag

end
/-! ## Prog -/
section
set_option linter.all false
set_option maxRecDepth 100000
namespace Ag
open PySem PySem.Spec PyProof.Rows L2
open SX (S S_len S_cat S_inj)
/-! ### the text by places -/
def top (i : Nat) : Stmt := PySem.Challenge.pw_answergate_k01_whole_frames_cut_anywhere.main.body.getD i (.Pass ⟨0, 0, 0, 0⟩)
abbrev s_is_plain : Stmt := top 1
abbrev N_is_plain : List Str := ["string"]
theorem sc_is_plain : FnScope N_is_plain ["string"] (defScope s_is_plain) := ⟨rfl, rfl, rfl, by decide +kernel, rfl, by decide +kernel, by decide +kernel⟩
abbrev s_is_decimal : Stmt := top 2
abbrev N_is_decimal : List Str := ["string", "most"]
theorem sc_is_decimal : FnScope N_is_decimal ["string", "most"] (defScope s_is_decimal) := ⟨rfl, rfl, rfl, by decide +kernel, rfl, by decide +kernel, by decide +kernel⟩
abbrev s_is_text : Stmt := top 10
abbrev N_is_text : List Str := ["thing"]
theorem sc_is_text : FnScope N_is_text ["thing"] (defScope s_is_text) := ⟨rfl, rfl, rfl, by decide +kernel, rfl, by decide +kernel, by decide +kernel⟩
abbrev s_is_rest : Stmt := top 11
abbrev N_is_rest : List Str := ["thing", "digits", "_", "begun"]
theorem sc_is_rest : FnScope N_is_rest ["thing"] (defScope s_is_rest) := ⟨rfl, rfl, rfl, by decide +kernel, rfl, by decide +kernel, by decide +kernel⟩
abbrev s_frame : Stmt := top 12
abbrev N_frame : List Str := ["text"]
theorem sc_frame : FnScope N_frame ["text"] (defScope s_frame) := ⟨rfl, rfl, rfl, by decide +kernel, rfl, by decide +kernel, by decide +kernel⟩
abbrev s_read : Stmt := top 13
abbrev N_read : List Str := ["rest", "piece", "stream", "texts", "start", "kind", "text", "at"]
theorem sc_read : FnScope N_read ["rest", "piece"] (defScope s_read) := ⟨rfl, rfl, rfl, by decide +kernel, rfl, by decide +kernel, by decide +kernel⟩
abbrev s_next_frame : Stmt := top 14
abbrev N_next_frame : List Str := ["stream", "start", "colon", "comma", "end"]
theorem sc_next_frame : FnScope N_next_frame ["stream", "start"] (defScope s_next_frame) := ⟨rfl, rfl, rfl, by decide +kernel, rfl, by decide +kernel, by decide +kernel⟩
abbrev s_digits_end : Stmt := top 15
abbrev N_digits_end : List Str := ["stream", "start", "end"]
theorem sc_digits_end : FnScope N_digits_end ["stream", "start"] (defScope s_digits_end) := ⟨rfl, rfl, rfl, by decide +kernel, rfl, by decide +kernel, by decide +kernel⟩
abbrev s_plain_end : Stmt := top 16
abbrev N_plain_end : List Str := ["stream", "start", "stop", "part", "char"]
theorem sc_plain_end : FnScope N_plain_end ["stream", "start", "stop"] (defScope s_plain_end) := ⟨rfl, rfl, rfl, by decide +kernel, rfl, by decide +kernel, by decide +kernel⟩
abbrev s__law_deck : Stmt := top 18
abbrev N__law_deck : List Str := ["_law_script", "_law_mixed", "_law_cell"]
theorem sc__law_deck : FnScope N__law_deck ["_law_script"] (defScope s__law_deck) := ⟨rfl, rfl, rfl, by decide +kernel, rfl, by decide +kernel, by decide +kernel⟩
abbrev s__law_draw : Stmt := top 19
abbrev N__law_draw : List Str := ["_law_deck_here", "_law_below", "_law_figure", "_law_cell"]
theorem sc__law_draw : FnScope N__law_draw ["_law_deck_here", "_law_below"] (defScope s__law_draw) := ⟨rfl, rfl, rfl, by decide +kernel, rfl, by decide +kernel, by decide +kernel⟩
abbrev s__law_pick : Stmt := top 20
abbrev N__law_pick : List Str := ["_law_deck_here", "_law_some"]
theorem sc__law_pick : FnScope N__law_pick ["_law_deck_here", "_law_some"] (defScope s__law_pick) := ⟨rfl, rfl, rfl, by decide +kernel, rfl, by decide +kernel, by decide +kernel⟩
abbrev s__law_signs : Stmt := top 21
abbrev N__law_signs : List Str := []
theorem sc__law_signs : FnScope N__law_signs [] (defScope s__law_signs) := ⟨rfl, rfl, rfl, by decide +kernel, rfl, by decide +kernel, by decide +kernel⟩
abbrev s__law_size : Stmt := top 22
abbrev N__law_size : List Str := ["_law_deck_here"]
theorem sc__law_size : FnScope N__law_size ["_law_deck_here"] (defScope s__law_size) := ⟨rfl, rfl, rfl, by decide +kernel, rfl, by decide +kernel, by decide +kernel⟩
abbrev s__law_text : Stmt := top 23
abbrev N__law_text : List Str := ["_law_deck_here", "_law_size_here", "_law_way", "_law_signs_here", "_law_first", "_law_step", "_law_some", "_law_text_here", "_law_turn", "_law_at"]
theorem sc__law_text : FnScope N__law_text ["_law_deck_here", "_law_size_here"] (defScope s__law_text) := ⟨rfl, rfl, rfl, by decide +kernel, rfl, by decide +kernel, by decide +kernel⟩
abbrev s__law_read : Stmt := top 24
abbrev N__law_read : List Str := ["_law_rest", "_law_piece", "_law_texts", "_law_size_here", "_law_text_here", "_law_at", "_law_sign"]
theorem sc__law_read : FnScope N__law_read ["_law_rest", "_law_piece"] (defScope s__law_read) := ⟨rfl, rfl, rfl, by decide +kernel, rfl, by decide +kernel, by decide +kernel⟩
abbrev s__law_pieces : Stmt := top 25
abbrev N__law_pieces : List Str := ["_law_deck_here", "_law_stream", "_law_found", "_law_last", "_law_cut", "_law_go"]
theorem sc__law_pieces : FnScope N__law_pieces ["_law_deck_here", "_law_stream"] (defScope s__law_pieces) := ⟨rfl, rfl, rfl, by decide +kernel, rfl, by decide +kernel, by decide +kernel⟩
abbrev s__law_spoiled : Stmt := top 26
abbrev N__law_spoiled : List Str := ["_law_deck_here", "_law_stream", "_law_way", "_law_at", "_law_other", "_law_spots", "_law_sign", "_law_spot"]
theorem sc__law_spoiled : FnScope N__law_spoiled ["_law_deck_here", "_law_stream"] (defScope s__law_spoiled) := ⟨rfl, rfl, rfl, by decide +kernel, rfl, by decide +kernel, by decide +kernel⟩
abbrev s__law_is_cut : Stmt := top 27
abbrev N__law_is_cut : List Str := ["_law_deck_here", "_law_rest", "_law_stream", "_law_due", "_law_texts", "_law_now", "_law_at", "_law_piece", "_law_told"]
theorem sc__law_is_cut : FnScope N__law_is_cut ["_law_deck_here", "_law_rest", "_law_stream"] (defScope s__law_is_cut) := ⟨rfl, rfl, rfl, by decide +kernel, rfl, by decide +kernel, by decide +kernel⟩
abbrev s__law_is_long : Stmt := top 28
abbrev N__law_is_long : List Str := ["_law_deck_here", "_law_text_here", "_law_many", "_law_one", "_law_stream", "_law_cut", "_law_whole", "_law_rest", "_law_told", "_law_due"]
theorem sc__law_is_long : FnScope N__law_is_long ["_law_deck_here"] (defScope s__law_is_long) := ⟨rfl, rfl, rfl, by decide +kernel, rfl, by decide +kernel, by decide +kernel⟩
abbrev s_law : Stmt := top 29
abbrev N_law : List Str := ["_law_script", "_law_deck_here", "_law_texts", "_law_rows", "_law_stream", "_law_go", "_law_text_here", "_law_behind", "_law_ahead", "_law_near", "_law_turn"]
theorem sc_law : FnScope N_law ["_law_script"] (defScope s_law) := ⟨rfl, rfl, rfl, by decide +kernel, rfl, by decide +kernel, by decide +kernel⟩
structure Fn (K : PySem.W.Frag) (mg : Str → Option Value) (x : Str) (st : Stmt) (ps : List Str) (f : Addr) (fd : FuncData) : Prop where
  F : Fun K x x st f fd
  b : Binds K fd ps []
  g : mg x = some (.ref f)
structure Blt (mg : Str → Option Value) : Prop where
  n_len : mg "len" = none
  n_str : mg "str" = none
  n_int : mg "int" = none
  n_isinstance : mg "isinstance" = none
  n_range : mg "range" = none
  n_enumerate : mg "enumerate" = none
  n_tuple : mg "tuple" = none
  n_list : mg "list" = none
  n_max : mg "max" = none
  n_min : mg "min" = none
  n_sorted : mg "sorted" = none
  n_repr : mg "repr" = none
structure Con (mg : Str → Option Value) (tm : Tok) : Prop extends Blt mg where
  g_TEXT_MOST : mg "TEXT_MOST" = some (.int 200 tm)
end Ag

end
/-! ## P1 -/
section
set_option linter.all false
set_option maxRecDepth 100000
namespace Ag
open PySem PySem.Spec PyProof.Rows L2
open SX (S S_len S_cat S_inj)
/-! ### texts -/
theorem sz {n : Nat} (h : n ≤ 16000000) : n ≤ sizeLine := by rw [sizeLine_eq]; omega
theorem same_new {H : Hp} {p : Addr} {o : HO} (h : H p = none) : Same H (upd H p o) := fun b x e => by
  rw [upd_ne (ne_of_none e h)]
  exact e
theorem ascii_S (l : List Nat) : Txt.isascii (S l) = l.all (· < 128) := by
  show (S l).cps.all _ = _
  rw [← Array.all_toList]
theorem printable_S (l : List Nat) : Txt.isprintable (S l) = l.all Unicode.isPrintable := by
  show (S l).cps.all _ = _
  rw [← Array.all_toList]
theorem isdigit_S (l : List Nat) : Txt.isdigit (S l) = (decide (l ≠ []) && l.all Unicode.isDigit) := by
  show (decide ((S l).length > 0) && (S l).cps.all _) = _
  rw [← Array.all_toList, S_len]
  cases l <;> simp
theorem print128 : ∀ c < 128, Unicode.isPrintable c = plainC c := by decide +kernel
theorem digit128 : ∀ c < 128, Unicode.isDigit c = digC c := by decide +kernel
theorem plain_of (l : List Nat) : (l.all (· < 128) && l.all Unicode.isPrintable) = plainL l := by
  induction l with
  | nil => rfl
  | cons c cs ih =>
    show ((decide (c < 128) && cs.all _) && (Unicode.isPrintable c && cs.all _)) = (plainC c && plainL cs)
    rw [← ih]
    by_cases h : c < 128
    · rw [print128 c h]
      simp only [h, decide_true, Bool.true_and]
      cases plainC c <;> simp
    · have e : plainC c = false := by
        unfold plainC
        simp
        omega
      rw [e]
      simp [h]
theorem dig_all {l : List Nat} (h : l.all (· < 128) = true) : l.all Unicode.isDigit = l.all digC := by
  induction l with
  | nil => rfl
  | cons c cs ih =>
    have h' : c < 128 ∧ cs.all (· < 128) = true := by simpa using h
    show (Unicode.isDigit c && cs.all _) = (digC c && cs.all _)
    rw [digit128 c h'.1, ih h'.2]
theorem toStr (n : Nat) : (Str.ofString (toString ((n : Nat) : Int))) = S (numL n) := SX.num_S n
theorem log_small {n : Nat} (h : n < 2 ^ 200) : ((n : Nat) : Int).natAbs.log2 < 1920 := by
  rw [Int.natAbs_natCast]
  by_cases z : n = 0
  · subst z; decide
  · have h2 : n < 2 ^ 1920 := Nat.lt_of_lt_of_le h (Nat.pow_le_pow_right (by decide) (by decide))
    exact (Nat.log2_lt z).mpr h2
theorem int_S {l : List Nat} (h : l.all digC = true) (hne : l ≠ []) (hl : l.length ≤ 640) : PySem.intText? (S l) = some ((digitsVal l : Nat) : Int) := by
  refine SX.int_S ?_ hne (by omega)
  rw [← h]
  rfl
theorem numL_mono {m n : Nat} (h : m ≤ n) : (numL m).length ≤ (numL n).length := by
  induction n using Nat.strongRecOn generalizing m with
  | ind n ih =>
    by_cases hn : n < 10
    · have e : numL m = [48 + m] := TL.numL_lt (by omega)
      have e2 : numL n = [48 + n] := TL.numL_lt hn
      rw [e, e2]
      exact Nat.le_refl _
    · have e2 : numL n = numL (n / 10) ++ [48 + n % 10] := TL.numL_step (by omega)
      by_cases hm : m < 10
      · have e : numL m = [48 + m] := TL.numL_lt hm
        rw [e, e2]
        simp
      · have e : numL m = numL (m / 10) ++ [48 + m % 10] := TL.numL_step (by omega)
        rw [e, e2]
        simp only [List.length_append, List.length_singleton]
        have := @ih (n / 10) (by omega) (m / 10) (by omega)
        omega
theorem digs_go : ∀ (l : List Nat) (acc : Nat), l.all digC = true → l.foldl (fun acc c => acc * 10 + (c - 48)) acc < (acc + 1) * 10 ^ l.length
  | [], acc, _ => by simp
  | c :: cs, acc, h => by
    have h' : digC c = true ∧ cs.all digC = true := by simpa using h
    have hc : c - 48 < 10 := by
      have z := h'.1
      simp [digC] at z
      omega
    have := digs_go cs (acc * 10 + (c - 48)) h'.2
    show List.foldl _ (acc * 10 + (c - 48)) cs < _
    rw [List.length_cons, Nat.pow_succ]
    refine Nat.lt_of_lt_of_le this ?_
    rw [Nat.mul_comm (10 ^ cs.length) 10, ← Nat.mul_assoc]
    exact Nat.mul_le_mul_right _ (by omega)
theorem digs_lt (l : List Nat) (h : l.all digC = true) : digitsVal l < 10 ^ l.length := by
  have := digs_go l 0 h
  rw [Nat.zero_add, Nat.one_mul] at this
  exact this
section
variable {P : Program} {w : World} {K : PySem.W.Frag} {mg : Str → Option Value} {base : Heap} {tm : Tok}
def spPlain : Sp := fun vs H Q _ => ∃ l : List Nat, vs = [.str (S l)] ∧ Q (.bl (plainL l)) H
theorem ok_is_plain {f : Addr} {fd : FuncData} (F : Fn K mg "is_plain" s_is_plain ["string"] f fd) : FnOk P w K mg base CX0 1 f fd ["string"] spPlain := by
  refine F.F.ok sc_is_plain (fun vs H Q E h => ?_) (fun cdv A outer s H vs Q E hr h => ?_)
  · obtain ⟨l, rfl, _⟩ := h
    rfl
  · obtain ⟨l, rfl, q⟩ := h
    refine ⟨_, (pss_one (ps_ret (pe_and (pe_m0 PySem.F.slot_str_isascii PySem.F.type_str_isascii mt_isascii (pv 0)) (pe_one (pe_m0 PySem.F.slot_str_isprintable PySem.F.type_str_isprintable mt_isprintable (pv 0)))))), ?_⟩
    refine ⟨.str (S l), rfl, ⟨_, rfl⟩, S l, rfl, rfl, trivial, _, rfl, ?_⟩
    rw [← plain_of] at q
    rw [ascii_S]
    cases h : l.all (· < 128) with
    | false =>
      rw [h] at q
      exact q
    | true =>
      refine iteT ?_
      refine ⟨.str (S l), rfl, ⟨_, rfl⟩, S l, rfl, rfl, trivial, ?_⟩
      rw [printable_S]
      rw [h] at q
      exact q
def spDec : Sp := fun vs H Q _ => ∃ (l : List Nat) (m : Nat), vs = [.str (S l), .int (m : Int)] ∧ l.length ≤ 1000000 ∧ m < 2 ^ 100 ∧ Q (.bl (isDec l m)) H
theorem ok_is_decimal {f : Addr} {fd : FuncData} (F : Fn K mg "is_decimal" s_is_decimal ["string", "most"] f fd) (B : Blt mg) : FnOk P w K mg base CX0 1 f fd ["string", "most"] spDec := by
  refine F.F.ok sc_is_decimal (fun vs H Q E h => ?_) (fun cdv A outer s H vs Q E hr h => ?_)
  · obtain ⟨l, m, rfl, _⟩ := h
    rfl
  · obtain ⟨l, m, rfl, hl, hm, q⟩ := h
    refine ⟨_, (pss_cons (ps_if (PW.pt (pw_or (pt_not (pt_val (pe_m0 PySem.F.slot_str_isascii PySem.F.type_str_isascii mt_isascii (pv 0)))) (pw_or (pt_not (pt_val (pe_m0 PySem.F.slot_str_isdigit PySem.F.type_str_isdigit mt_isdigit (pv 0)))) (pw_or1 (pt_cmpR op_gt (pe_callB call_len_str (by rfl) B.n_len (by decide +kernel) (pa_cons (pv 0) pa_nil)) (pe_callB call_len_str (by rfl) B.n_len (by decide +kernel) (pa_cons (pe_callTy call_str_int (by rfl) B.n_str (by decide +kernel) (pa_cons (pv 1) pa_nil)) pa_nil)) (nomark _))))))
      (pss_one (ps_ret pe_bl))
      pss_nil)
      (pss_one (ps_ret (pe_and (pe_cmpR op_eq (pe_callTy call_str_int (by rfl) B.n_str (by decide +kernel) (pa_cons (pe_callTy call_int_str (by rfl) B.n_int (by decide +kernel) (pa_cons (pv 0) pa_nil)) pa_nil)) (pv 0) (nomark _)) (pe_one (pe_cmpR op_le (pe_callTy call_int_str (by rfl) B.n_int (by decide +kernel) (pa_cons (pv 0) pa_nil)) (pv 1) (nomark _))))))), ?_⟩
    have no : isDec l m = false → Q (.bl false) H := fun e => by rw [e] at q; exact q
    -- not ascii
    refine ⟨.str (S l), rfl, ⟨_, rfl⟩, S l, rfl, rfl, trivial, _, rfl, ?_⟩
    rw [ascii_S]
    cases h1 : l.all (· < 128) with
    | false =>
      refine iteT (iteT ?_)
      refine no ?_
      cases hd : isDec l m with
      | false => rfl
      | true =>
        obtain ⟨k, _, rfl⟩ := isDec_iff.mp hd
        have z : (numL k).all (· < 128) = true := by
          rw [List.all_eq_true]
          intro c hc
          have := numL_all k c hc
          simp
          omega
        rw [z] at h1
        cases h1
    | true =>
      refine iteF ?_
      refine ⟨.str (S l), rfl, ⟨_, rfl⟩, S l, rfl, rfl, trivial, _, rfl, ?_⟩
      rw [isdigit_S, dig_all h1]
      cases h2 : (decide (l ≠ []) && l.all digC) with
      | false =>
        refine iteT (iteT ?_)
        refine no ?_
        cases hd : isDec l m with
        | false => rfl
        | true =>
          obtain ⟨k, _, rfl⟩ := isDec_iff.mp hd
          have z : (numL k).all digC = true := by
            rw [List.all_eq_true]
            intro c hc
            have := numL_all k c hc
            simp [digC]
            omega
          rw [z, decide_eq_true (numL_ne k)] at h2
          cases h2
      | true =>
        refine iteF ?_
        rw [Bool.and_eq_true, decide_eq_true_eq] at h2
        obtain ⟨hne, hdg⟩ := h2
        refine ⟨.str (S l), rfl, S l, rfl, sz (by rw [S_len]; omega), ?_⟩
        refine ⟨.int (m : Int), rfl, (m : Int), rfl, log_small (Nat.lt_of_lt_of_le hm (Nat.pow_le_pow_right (by decide) (by decide))), ?_⟩
        rw [toStr]
        refine ⟨S (numL m), rfl, sz ?_, ?_⟩
        · rw [S_len]
          have : (numL m).length ≤ 31 := TL.numL_len (by decide) (Nat.lt_of_lt_of_le hm (by decide))
          omega
        refine ⟨_, _, rfl, rfl, _, rfl, ?_⟩
        rw [S_len, S_len]
        refine ite2 (fun h3 => ?_) (fun h3 => ?_)
        · have h3 := of_decide_eq_true h3
          refine no ?_
          cases hd : isDec l m with
          | false => rfl
          | true =>
            obtain ⟨k, hk, rfl⟩ := isDec_iff.mp hd
            have := numL_mono hk
            omega
        · have h3 : ¬ ((numL m).length : Int) < (l.length : Int) := fun z => h3 (decide_eq_true z)
          have hl2 : l.length ≤ 31 := by
            have : (numL m).length ≤ 31 := TL.numL_len (by decide) (Nat.lt_of_lt_of_le hm (by decide))
            omega
          have hI : PySem.intText? (S l) = some ((digitsVal l : Nat) : Int) := int_S hdg hne (by omega)
          refine ⟨.str (S l), rfl, S l, _, rfl, hI, by rw [S_len]; omega, ?_⟩
          have hv : digitsVal l < 2 ^ 200 := Nat.lt_of_lt_of_le (digs_lt l hdg) (Nat.le_trans (Nat.pow_le_pow_right (by decide) hl2) (by decide +kernel))
          refine ⟨_, rfl, log_small hv, ?_⟩
          rw [toStr]
          refine ⟨.str (S l), rfl, rfl, _, rfl, ?_⟩
          have hdd : decide (V.str (S (numL (digitsVal l))) = V.str (S l)) = decide (numL (digitsVal l) = l) := by
            rw [Bool.eq_iff_iff, decide_eq_true_eq, decide_eq_true_eq]
            constructor
            · intro z
              injection z with z
              exact S_inj z
            · intro z
              rw [z]
          rw [hdd]
          refine ite2 (fun h4 => ?_) (fun h4 => ?_)
          · refine ⟨.str (S l), rfl, S l, _, rfl, hI, by rw [S_len]; omega, ?_⟩
            refine ⟨.int (m : Int), rfl, _, _, rfl, rfl, ?_⟩
            have e : isDec l m = decide (((digitsVal l : Nat) : Int) ≤ (m : Int)) := by
              show (decide (numL (digitsVal l) = l) && decide (digitsVal l ≤ m)) = _
              rw [h4, Bool.true_and, Bool.eq_iff_iff, decide_eq_true_eq, decide_eq_true_eq]
              omega
            rw [e] at q
            exact q
          · refine no ?_
            show (decide (numL (digitsVal l) = l) && decide (digitsVal l ≤ m)) = _
            rw [Bool.eq_false_iff.mpr h4, Bool.false_and]
end
end Ag

end
/-! ## P2 -/
section
set_option linter.all false
set_option maxRecDepth 100000
namespace Ag
open PySem PySem.Spec PyProof.Rows L2
open SX (S S_len S_cat S_inj)
section
variable {P : Program} {w : World} {K : PySem.W.Frag} {mg : Str → Option Value} {base : Heap} {tm : Tok}
def isTextB (l : List Nat) : Bool := decide (l.length ≤ 200) && plainL l
def spIsText : Sp := fun vs H Q _ => ∃ l : List Nat, vs = [.str (S l)] ∧ l.length ≤ 1000000 ∧ Q (.bl (isTextB l)) H
theorem ok_is_text {f f1 : Addr} {fd fd1 : FuncData} (F : Fn K mg "is_text" s_is_text ["thing"] f fd) (B : Con mg tm) (F_is_plain : Fn K mg "is_plain" s_is_plain ["string"] f1 fd1) :
    FnOk P w K mg base CX0 2 f fd ["thing"] spIsText := by
  have G_is_plain : FnOk P w K mg base CX0 1 f1 fd1 ["string"] spPlain := ok_is_plain F_is_plain
  refine F.F.ok sc_is_text (fun vs H Q E h => ?_) (fun cdv A outer s H vs Q E hr h => ?_)
  · obtain ⟨l, rfl, _⟩ := h
    rfl
  · obtain ⟨l, rfl, hl, q⟩ := h
    refine ⟨_, (pss_one (ps_ret (pe_and (pe_callB call_isi (by rfl) B.n_isinstance (by decide +kernel) (pa_cons (pv 0) (pa_cons (pe_bltn (v := .ty "str") (by rfl) B.n_str (by decide +kernel) rfl) pa_nil))) (pe_and (pe_cmpR op_le (pe_callB call_len_str (by rfl) B.n_len (by decide +kernel) (pa_cons (pv 0) pa_nil)) (pe_glob (v := .int 200) rfl B.g_TEXT_MOST ⟨_, rfl⟩) (nomark _)) (pe_one (pe_call G_is_plain (hr.mono (by decide)) (by rfl) F_is_plain.g F_is_plain.F.kp F_is_plain.b .nil pass0 (pa_cons (pv 0) pa_nil))))))), ?_⟩
    refine ⟨.str (S l), rfl, .str (S l), .ty "str", _, _, true, rfl, .ty "str", .base (.str _), kit_ty (by decide +kernel), true, rfl, iteT ?_⟩
    refine ⟨.str (S l), rfl, S l, rfl, sz (by rw [S_len]; omega), _, _, rfl, rfl, _, rfl, ?_⟩
    rw [S_len]
    unfold isTextB at q
    have e : decide ((l.length : Int) ≤ 200) = decide (l.length ≤ 200) := by
      rw [Bool.eq_iff_iff, decide_eq_true_eq, decide_eq_true_eq]
      omega
    rw [e]
    refine ite2 (fun h => ?_) (fun h => ?_)
    · refine ⟨.str (S l), rfl, l, rfl, ?_⟩
      rw [h, Bool.true_and] at q
      exact q
    · rw [Bool.eq_false_iff.mpr h, Bool.false_and] at q
      exact q
/-- what is_rest tells -/
def isRestB (l : List Nat) : Bool := if isDec (spS l) 200 = true then decide (((spT l).getD []).length ≤ digitsVal (spS l)) && plainL ((spT l).getD []) else decide (l = [])
theorem colonS : (Str.ofString ":") = S [58] := by decide +kernel
theorem par_len {l p q : List Nat} (h : TL.par [58] [] l = some (p, q)) : p.length ≤ l.length ∧ q.length ≤ l.length := by
  have key : ∀ (l acc p q : List Nat), TL.par [58] acc l = some (p, q) → p.length ≤ acc.length + l.length ∧ q.length ≤ l.length := by
    intro l
    induction l with
    | nil => intro acc p q h; simp [TL.par] at h
    | cons c cs ih =>
      intro acc p q h
      by_cases hc : TL.pre [58] (c :: cs) = true
      · simp only [TL.par, hc, if_true] at h
        cases h
        simp
      · simp only [TL.par, hc] at h
        have := ih _ _ _ h
        simp at this ⊢
        omega
  have := key l [] p q h
  simpa using this
theorem sp_len (l : List Nat) : (spS l).length ≤ l.length ∧ ((spT l).getD []).length ≤ l.length := by
  unfold spS spT
  cases h : TL.par [58] [] l with
  | none => simp
  | some pq =>
    obtain ⟨p, q⟩ := pq
    exact par_len h
theorem part_S (l : List Nat) : ∃ m, Txt.partition (S l) (S [58]) = (S (spS l), m, S ((spT l).getD [])) := by
  unfold spS spT
  cases h : TL.par [58] [] l with
  | none => exact ⟨_, SX.partition_none (by simp) h⟩
  | some pq =>
    obtain ⟨p, q⟩ := pq
    exact ⟨_, SX.partition_some (by simp) h⟩
def spIsRest : Sp := fun vs H Q _ => ∃ l : List Nat, vs = [.str (S l)] ∧ l.length ≤ 1000000 ∧ ∀ H', Same H H' → Q (.bl (isRestB l)) H'
theorem isDec_digs {l : List Nat} {m : Nat} (h : isDec l m = true) : l.all digC = true ∧ l ≠ [] := by
  obtain ⟨k, _, rfl⟩ := isDec_iff.mp h
  refine ⟨?_, numL_ne k⟩
  rw [List.all_eq_true]
  intro c hc
  have := numL_all k c hc
  simp [digC]
  omega
theorem isDec_len {l : List Nat} (h : isDec l 200 = true) : l.length ≤ 3 ∧ digitsVal l ≤ 200 := by
  obtain ⟨k, hk, rfl⟩ := isDec_iff.mp h
  exact ⟨numL_len3 hk, by rw [numL_val]; exact hk⟩
theorem ok_is_rest {f f1 f2 : Addr} {fd fd1 fd2 : FuncData} (F : Fn K mg "is_rest" s_is_rest ["thing"] f fd) (B : Con mg tm) (F_is_plain : Fn K mg "is_plain" s_is_plain ["string"] f1 fd1)
    (F_is_decimal : Fn K mg "is_decimal" s_is_decimal ["string", "most"] f2 fd2) : FnOk P w K mg base CX0 2 f fd ["thing"] spIsRest := by
  have G_is_plain : FnOk P w K mg base CX0 1 f1 fd1 ["string"] spPlain := ok_is_plain F_is_plain
  have G_is_decimal : FnOk P w K mg base CX0 1 f2 fd2 ["string", "most"] spDec := ok_is_decimal F_is_decimal B.toBlt
  refine F.F.ok sc_is_rest (fun vs H Q E h => ?_) (fun cdv A outer s H vs Q E hr h => ?_)
  · obtain ⟨l, rfl, _⟩ := h
    rfl
  · obtain ⟨l, rfl, hl, q⟩ := h
    refine ⟨_, (pss_cons (ps_if (pt_not (pt_val (pe_callB call_isi (by rfl) B.n_isinstance (by decide +kernel) (pa_cons (pv 0) (pa_cons (pe_bltn (v := .ty "str") (by rfl) B.n_str (by decide +kernel) rfl) pa_nil)))))
      (pss_one (ps_ret pe_bl))
      pss_nil)
      (pss_cons (ps_asg (pe_partition (pv 0) pe_str) (pg_tup rfl (pgs_cons (pg_name (i := 1) sc_is_rest.nd rfl (Or.inl rfl)) (pgs_cons (pg_name (i := 2) sc_is_rest.nd rfl (Or.inl rfl)) (pgs_cons (pg_name (i := 3) sc_is_rest.nd rfl (Or.inl rfl)) pgs_nil)))))
      (pss_cons (ps_if (pt_not (pt_val (pe_call G_is_decimal (hr.mono (by decide)) (by rfl) F_is_decimal.g F_is_decimal.F.kp F_is_decimal.b .nil pass0 (pa_cons (pv 1) (pa_cons (pe_glob (v := .int 200) rfl B.g_TEXT_MOST ⟨_, rfl⟩) pa_nil)))))
      (pss_one (ps_ret (pe_cmpR op_eq (pv 0) pe_str (nomark _))))
      pss_nil)
      (pss_one (ps_ret (pe_and (pe_cmpR op_le (pe_callB call_len_str (by rfl) B.n_len (by decide +kernel) (pa_cons (pv 3) pa_nil)) (pe_callTy call_int_str (by rfl) B.n_int (by decide +kernel) (pa_cons (pv 1) pa_nil)) (nomark _)) (pe_one (pe_call G_is_plain (hr.mono (by decide)) (by rfl) F_is_plain.g F_is_plain.F.kp F_is_plain.b .nil pass0 (pa_cons (pv 3) pa_nil))))))))), ?_⟩
    refine ⟨.str (S l), rfl, .str (S l), .ty "str", _, _, true, rfl, .ty "str", .base (.str _), kit_ty (by decide +kernel), true, rfl, ?_⟩
    refine iteF ?_
    -- the three parts
    obtain ⟨m, em⟩ := part_S l
    have hs := sp_len l
    refine ⟨.str (S l), rfl, ⟨_, rfl⟩, S l, Str.ofString ":", rfl, rfl, by decide +kernel, sz (by rw [S_len]; omega), fun p hp => ?_⟩
    rw [colonS, em]
    refine ⟨p, _, rfl, SqT.of upd_same, rfl, _, _, rfl, _, _, rfl, _, _, rfl, rfl, ?_⟩
    refine ⟨_, rfl, spS l, 200, rfl, by omega, by decide, ?_⟩
    refine ⟨_, rfl, ?_⟩
    have sm : Same H (upd H p (.tup [.str (S (spS l)), .str m, .str (S ((spT l).getD []))])) := same_new hp
    unfold isRestB at q
    cases h1 : isDec (spS l) 200 with
    | false =>
      refine iteT ?_
      rw [h1, if_neg (by decide)] at q
      refine ⟨_, rfl, rfl, ?_⟩
      have e : decide (V.str (S l) = V.str (Str.ofString "")) = decide (l = []) := by
        have e0 : Str.ofString "" = S [] := by decide +kernel
        rw [e0, Bool.eq_iff_iff, decide_eq_true_eq, decide_eq_true_eq]
        constructor
        · intro z
          injection z with z
          exact S_inj z
        · rintro rfl
          rfl
      rw [e]
      exact q _ sm
    | true =>
      refine iteF ?_
      rw [h1, if_pos rfl] at q
      obtain ⟨d1, d2⟩ := isDec_digs h1
      obtain ⟨d3, d4⟩ := isDec_len h1
      refine ⟨_, rfl, S ((spT l).getD []), rfl, sz (by rw [S_len]; omega), ?_⟩
      refine ⟨_, rfl, S (spS l), _, rfl, int_S d1 d2 (by omega), by rw [S_len]; omega, _, _, rfl, rfl, _, rfl, ?_⟩
      rw [S_len]
      have e : decide ((((spT l).getD []).length : Int) ≤ ((digitsVal (spS l) : Nat) : Int)) = decide (((spT l).getD []).length ≤ digitsVal (spS l)) := by
        rw [Bool.eq_iff_iff, decide_eq_true_eq, decide_eq_true_eq]
        omega
      rw [e]
      refine ite2 (fun h2 => ?_) (fun h2 => ?_)
      · refine ⟨_, rfl, _, rfl, ?_⟩
        rw [h2, Bool.true_and] at q
        exact q _ sm
      · rw [Bool.eq_false_iff.mpr h2, Bool.false_and] at q
        exact q _ sm
def frm (t : List Nat) : List Nat := numL t.length ++ 58 :: (t ++ [44])
def spFrame : Sp := fun vs H Q _ => ∃ l : List Nat, vs = [.str (S l)] ∧ isTextB l = true ∧ Q (.str (S (frm l))) H
theorem commaS : (Str.ofString ",") = S [44] := by decide +kernel
theorem ok_frame {f f1 : Addr} {fd fd1 : FuncData} (F : Fn K mg "frame" s_frame ["text"] f fd) (B : Con mg tm) (F_is_text : Fn K mg "is_text" s_is_text ["thing"] f1 fd1)
    (G_is_text : FnOk P w K mg base CX0 2 f1 fd1 ["thing"] spIsText) : FnOk P w K mg base CX0 3 f fd ["text"] spFrame := by
  refine F.F.ok sc_frame (fun vs H Q E h => ?_) (fun cdv A outer s H vs Q E hr h => ?_)
  · obtain ⟨l, rfl, _⟩ := h
    rfl
  · obtain ⟨l, rfl, ht, q⟩ := h
    have hl : l.length ≤ 200 := by
      unfold isTextB at ht
      rw [Bool.and_eq_true, decide_eq_true_eq] at ht
      exact ht.1
    refine ⟨_, (pss_cons (ps_if (pt_not (pt_val (pe_call G_is_text (hr.mono (by decide)) (by rfl) F_is_text.g F_is_text.F.kp F_is_text.b .nil pass0 (pa_cons (pv 0) pa_nil))))
      (pss_one ps_never)
      pss_nil)
      (pss_one (ps_ret (pe_joined (.cons (pe_fmt (pe_callB call_len_str (by rfl) B.n_len (by decide +kernel) (pa_cons (pv 0) pa_nil))) (.cons pe_str (.cons (pe_fmt (pv 0)) (.cons pe_str .nil)))))))), ?_⟩
    refine ⟨_, rfl, l, rfl, by omega, _, rfl, ?_⟩
    rw [ht]
    refine iteF ?_
    have n3 : (numL l.length).length ≤ 3 := numL_len3 hl
    refine ⟨_, rfl, S l, rfl, sz (by rw [S_len]; omega), .inr ⟨_, rfl, ?_, ?_⟩⟩
    · rw [S_len]; exact log_small (Nat.lt_of_le_of_lt hl (by decide))
    rw [S_len, toStr]
    have e0 : Str.empty = S [] := rfl
    refine ⟨_, rfl, ?_, ?_⟩
    · rw [e0, S_cat, S_len]; exact sz (by simp; omega)
    rw [e0, S_cat, List.nil_append]
    refine ⟨_, rfl, ?_, ?_⟩
    · rw [colonS, S_cat, S_len]; exact sz (by simp; omega)
    rw [colonS, S_cat]
    refine ⟨_, rfl, .inl ⟨_, rfl, sz (by rw [S_len]; omega), _, rfl, ?_, ?_⟩⟩
    · rw [S_cat, S_len]; exact sz (by simp; omega)
    rw [S_cat]
    refine ⟨_, rfl, ?_, ?_⟩
    · rw [commaS, S_cat, S_len]; exact sz (by simp; omega)
    rw [commaS, S_cat]
    have e : numL l.length ++ [58] ++ l ++ [44] = frm l := by simp [frm]
    rw [e]
    exact q
end
end Ag

end
/-! ## P3 -/
section
set_option linter.all false
set_option maxRecDepth 100000
namespace Ag
open PySem PySem.Spec PyProof.Rows L2
open SX (S S_len S_cat S_inj)
section
variable {P : Program} {w : World} {K : PySem.W.Frag} {mg : Str → Option Value} {base : Heap} {tm : Tok}
theorem drop_take_one {l : List Nat} {a i c : Nat} (h : (l.drop a)[i]? = some c) : (l.drop a).take (a + i + 1 - a) = (l.drop a).take i ++ [c] := by
  rw [show a + i + 1 - a = i + 1 by omega, List.take_add_one, h]
  rfl
def spDigits : Sp := fun vs H Q _ => ∃ (l : List Nat) (a : Nat), vs = [.str (S l), .int (a : Int)] ∧ a ≤ l.length ∧ l.length ≤ 100000 ∧ Q (.int ((a + dgs [] (l.drop a) : Nat) : Int)) H
theorem ok_digits_end {f f1 : Addr} {fd fd1 : FuncData} (F : Fn K mg "digits_end" s_digits_end ["stream", "start"] f fd) (B : Con mg tm) (F_is_decimal : Fn K mg "is_decimal" s_is_decimal ["string", "most"] f1 fd1) :
    FnOk P w K mg base CX0 2 f fd ["stream", "start"] spDigits := by
  have G_is_decimal : FnOk P w K mg base CX0 1 f1 fd1 ["string", "most"] spDec := ok_is_decimal F_is_decimal B.toBlt
  refine F.F.ok sc_digits_end (fun vs H Q E h => ?_) (fun cdv A outer s H vs Q E hr h => ?_)
  · obtain ⟨l, a, rfl, _⟩ := h
    rfl
  · obtain ⟨l, a, rfl, ha, hl, q⟩ := h
    refine ⟨_, (pss_cons (ps_set (i := 2) sc_digits_end.nd rfl (.inl rfl) (pv 1))
      (pss_cons (ps_while PassesOwn.never (PW.pt (pw_and (pt_cmpR op_lt (pv 2) (pe_callB call_len_str (by rfl) B.n_len (by decide +kernel) (pa_cons (pv 0) pa_nil)) (nomark _)) (pw_and1 (pt_val (pe_call G_is_decimal (hr.mono (by decide)) (by rfl) F_is_decimal.g F_is_decimal.F.kp F_is_decimal.b .nil pass0 (pa_cons (pe_slice sl_str (pv 0) (po_some (pv 1)) (po_some (pe_op op_add (pv 2) pe_int))) (pa_cons (pe_glob (v := .int 200) rfl B.g_TEXT_MOST ⟨_, rfl⟩) pa_nil)))))))
      (pss_one (ps_aug (i := 2) sc_digits_end.nd rfl (.inl rfl) pe_int ip_add)))
      (pss_one (ps_ret (pv 2))))), ?_⟩
    refine ⟨.int (a : Int), rfl, ?_⟩
    have hdl : (l.drop a).length = l.length - a := List.length_drop ..
    refine ⟨fun m σ H' => ∃ i, i + m = (l.drop a).length ∧ σ = [some (.str (S l)), some (.int (a : Int)), some (.int ((a + i : Nat) : Int))] ∧ H = H' ∧ dgs [] (l.drop a) = i + dgs ((l.drop a).take i) ((l.drop a).drop i), ⟨(l.drop a).length, 0, by omega, rfl, rfl, by simp⟩, ?_⟩
    rintro m σ H' ⟨i, em, rfl, rfl, ed⟩
    -- end < len(stream)
    refine ⟨_, rfl, _, rfl, S l, rfl, sz (by rw [S_len]; omega), _, _, rfl, rfl, _, rfl, ?_⟩
    rw [S_len]
    refine ite2 (fun h => ?_) (fun h => ?_)
    · have h : ((a + i : Nat) : Int) < (l.length : Int) := of_decide_eq_true h
      have hi : i < (l.drop a).length := by omega
      -- is_decimal(stream[start:end + 1], TEXT_MOST)
      refine ⟨_, rfl, _, rfl, (a : Int), rfl, _, rfl, _, _, rfl, rfl, ((a + i + 1 : Nat) : Int), by push_cast; rfl, S l, rfl, sz (by rw [S_len]; omega), ?_⟩
      rw [cut_S ha]
      refine ⟨_, 200, rfl, ?_, by decide, ?_⟩
      · rw [List.length_take]; omega
      obtain ⟨c, hc⟩ : ∃ c, (l.drop a)[i]? = some c := ⟨(l.drop a)[i], List.getElem?_eq_getElem hi⟩
      have hdi : (l.drop a).drop i = c :: (l.drop a).drop (i + 1) := by
        rw [List.drop_eq_getElem_cons hi]
        congr 1
        rw [List.getElem?_eq_getElem hi] at hc
        exact Option.some.inj hc
      rw [drop_take_one hc]
      refine ⟨_, rfl, ?_⟩
      cases hd : isDec ((l.drop a).take i ++ [c]) 200 with
      | true =>
        refine iteT ?_
        refine ⟨fun σ' H' => ∃ i', i' + (m - 1) = (l.drop a).length ∧ σ' = [some (.str (S l)), some (.int (a : Int)), some (.int ((a + i' : Nat) : Int))] ∧ H = H' ∧ dgs [] (l.drop a) = i' + dgs ((l.drop a).take i') ((l.drop a).drop i'), fun σ' H' n => ⟨m - 1, by omega, n⟩, ?_⟩
        refine ⟨_, rfl, _, _, rfl, rfl, i + 1, by omega, ?_, rfl, ?_⟩
        · show [some (V.str (S l)), some (V.int (a : Int)), some (V.int (((a + i : Nat) : Int) + 1))] = _
          rfl
        · rw [ed, hdi]
          show i + (if isDec ((l.drop a).take i ++ [c]) 200 = true then dgs ((l.drop a).take i ++ [c]) ((l.drop a).drop (i + 1)) + 1 else 0) = _
          rw [if_pos hd, List.take_add_one, hc]
          show _ = i + 1 + dgs ((l.drop a).take i ++ [c]) _
          omega
      | false =>
        refine iteF ?_
        refine ⟨_, rfl, ?_⟩
        have e : dgs [] (l.drop a) = i := by
          rw [ed, hdi]
          show i + (if isDec ((l.drop a).take i ++ [c]) 200 = true then dgs ((l.drop a).take i ++ [c]) ((l.drop a).drop (i + 1)) + 1 else 0) = _
          rw [if_neg (by rw [hd]; decide)]
          rfl
        rw [e] at q
        exact q
    · have h : ¬ ((a + i : Nat) : Int) < (l.length : Int) := fun z => h (decide_eq_true z)
      refine ⟨_, rfl, ?_⟩
      have e0 : (l.drop a).drop i = [] := List.drop_eq_nil_of_le (by omega)
      have e : dgs [] (l.drop a) = i := by
        rw [ed, e0]
        rfl
      rw [e] at q
      exact q
theorem pls_nonplain {l : List Nat} : ∀ {m c : Nat}, m < pls l → l[m]? = some c → plainC c = true := by
  intro m c hm hc
  have h := pls_plain l
  unfold plainL at h
  rw [List.all_eq_true] at h
  refine h c ?_
  refine List.mem_of_getElem? (i := m) ?_
  rw [List.getElem?_take, if_pos hm]
  exact hc
def spPlEnd : Sp := fun vs H Q _ => ∃ (l : List Nat) (a b : Nat), vs = [.str (S l), .int (a : Int), .int (b : Int)] ∧ a ≤ l.length ∧ l.length ≤ 100000 ∧ ∀ H', Same H H' → Q (.int ((a + pls ((l.drop a).take (b - a)) : Nat) : Int)) H'
theorem ok_plain_end {f f1 : Addr} {fd fd1 : FuncData} (F : Fn K mg "plain_end" s_plain_end ["stream", "start", "stop"] f fd) (B : Con mg tm) (F_is_plain : Fn K mg "is_plain" s_is_plain ["string"] f1 fd1) :
    FnOk P w K mg base CX0 2 f fd ["stream", "start", "stop"] spPlEnd := by
  have G_is_plain : FnOk P w K mg base CX0 1 f1 fd1 ["string"] spPlain := ok_is_plain F_is_plain
  refine F.F.ok sc_plain_end (fun vs H Q E h => ?_) (fun cdv A outer s H vs Q E hr h => ?_)
  · obtain ⟨l, a, b, rfl, _⟩ := h
    rfl
  · obtain ⟨l, a, b, rfl, ha, hl, q⟩ := h
    refine ⟨_, (pss_cons (ps_set (i := 3) sc_plain_end.nd rfl (.inl rfl) (pe_slice sl_str (pv 0) (po_some (pv 1)) (po_some (pv 2))))
      (pss_cons (ps_if (pt_val (pe_call G_is_plain (hr.mono (by decide)) (by rfl) F_is_plain.g F_is_plain.F.kp F_is_plain.b .nil pass0 (pa_cons (pv 3) pa_nil)))
      (pss_one (ps_ret (pe_op op_add (pv 1) (pe_callB call_len_str (by rfl) B.n_len (by decide +kernel) (pa_cons (pv 3) pa_nil)))))
      pss_nil)
      (pss_one (ps_ret (pe_op op_add (pv 1) (pe_bm PySem.F.plainAttrs_list PySem.F.slot_list_index PySem.F.type_list_index mt_index (pe_lc (own := [("char", 4)]) rfl sc_plain_end.nd (pi_str (pv 3)) (blkOk_by (N := N_plain_end) (sc := defScope s_plain_end) (by decide +kernel)) (fun _ _ _ _ _ => (pg_name (i := 4) sc_plain_end.nd rfl (Or.inl rfl))) (fun _ _ _ _ _ => pts_nil) (fun _ _ _ _ _ => (pe_call G_is_plain (hr.mono (by decide)) (by rfl) F_is_plain.g F_is_plain.F.kp F_is_plain.b .nil pass0 (pa_cons (pv 4) pa_nil)))) (pa_cons pe_bl pa_nil))))))), ?_⟩
    refine ⟨_, rfl, _, rfl, (a : Int), rfl, _, rfl, (b : Int), rfl, S l, rfl, sz (by rw [S_len]; omega), ?_⟩
    rw [cut_S ha]
    have hpl : ((l.drop a).take (b - a)).length ≤ 100000 := by rw [List.length_take, List.length_drop]; omega
    generalize (l.drop a).take (b - a) = part at q hpl
    refine ⟨_, rfl, part, rfl, _, rfl, ?_⟩
    cases hp : plainL part with
    | true =>
      refine iteT ?_
      refine ⟨_, rfl, _, rfl, S part, rfl, sz (by rw [S_len]; omega), _, _, rfl, rfl, ?_⟩
      rw [S_len]
      rw [pls_all hp] at q
      have z := q H (Same.refl H)
      push_cast at z
      exact z
    | false =>
      refine iteF ?_
      refine ⟨_, rfl, _, rfl, S part, rfl, fun D hD => ?_⟩
      obtain ⟨k1, c1, k2, k3⟩ := pls_lt hp
      have hsz : (S part).cps.size = part.length := by simp
      refine lc_all walk_str (fun H' => ∀ b o, H b = some o → H' b = some o) (fun i y => ∃ c, part[i]? = some c ∧ y = .bl (plainC c)) (by rw [hsz]; omega) (fun _ _ e => e)
        (fun H' o r b o' e => by rw [upd_ne (ne_of_none e hD)]; exact r b o' e) (fun _ _ => trivial) ?_ ?_
      · rintro i x H1 H2 xs k hi r hxs ⟨rfl, c, hc, rfl⟩ hk
        refine ⟨rfl, _, rfl, [c], rfl, ?_⟩
        refine hk _ _ ⟨c, by simpa using hc, ?_⟩ r hxs
        simp [plainL]
      · intro H' xs hlen hv r hxs
        refine ⟨.inl ⟨rfl, _, SqL.of hxs⟩, ?_⟩
        have hlx : xs.length = part.length := by rw [hlen, hsz]
        have all : ∀ (i : Nat) (z : V), xs[i]? = some z → ∃ c, part[i]? = some c ∧ z = .bl (plainC c) := hv
        obtain ⟨z, hz⟩ : ∃ z, xs[pls part]? = some z := ⟨xs[pls part]'(by omega), List.getElem?_eq_getElem (by omega)⟩
        obtain ⟨c, hc, rfl⟩ := all _ _ hz
        refine ⟨D, xs, .bl false, pls part, _, rfl, rfl, SqL.of hxs, rfl, ?_, hz, ?_, ?_, _, _, rfl, rfl, ?_⟩
        · rw [List.all_eq_true]
          intro y hy
          obtain ⟨i, hi⟩ := List.mem_iff_getElem?.mp hy
          obtain ⟨c, _, rfl⟩ := all i y hi
          rfl
        · rw [k2] at hc
          cases hc
          rw [k3]
          rfl
        · intro m z' hm hz'
          obtain ⟨c', hc', rfl⟩ := all _ _ hz'
          rw [pls_nonplain hm hc']
          rfl
        · have z := q H' r
          push_cast at z
          exact z
end
end Ag

end
/-! ## P4 -/
section
set_option linter.all false
set_option maxRecDepth 100000
namespace Ag
open PySem PySem.Spec PyProof.Rows L2
open SX (S S_len S_cat S_inj)
theorem nf_a {m : List Nat} (h : dgs [] m = m.length) : nf m = .part (dgs [] m) := by
  unfold nf
  simp only [h, if_true]
theorem nf_b {m : List Nat} (h : dgs [] m ≠ m.length) (h2 : dgs [] m = 0 ∨ m[dgs [] m]? ≠ some 58) : nf m = .wrong (dgs [] m) := by
  unfold nf
  simp only [if_neg h, if_pos h2]
def nfN (m : List Nat) : Nat := digitsVal (m.take (dgs [] m))
def nfP (m : List Nat) : List Nat := (m.drop (dgs [] m + 1)).take (nfN m)
theorem nf_c {m : List Nat} (h : dgs [] m ≠ m.length) (h2 : ¬ (dgs [] m = 0 ∨ m[dgs [] m]? ≠ some 58)) (h3 : dgs [] m + 1 + pls (nfP m) = m.length) : nf m = .part (dgs [] m + 1 + pls (nfP m)) := by
  unfold nfP nfN at *
  unfold nf
  simp only [if_neg h, if_neg h2, if_pos h3]
theorem nf_d {m : List Nat} (h : dgs [] m ≠ m.length) (h2 : ¬ (dgs [] m = 0 ∨ m[dgs [] m]? ≠ some 58)) (h3 : dgs [] m + 1 + pls (nfP m) ≠ m.length) (h4 : m[dgs [] m + 1 + pls (nfP m)]? ≠ some 44) : nf m = .wrong (dgs [] m + 1 + pls (nfP m)) := by
  unfold nfP nfN at *
  unfold nf
  simp only [if_neg h, if_neg h2, if_neg h3, if_pos h4]
theorem nf_e {m : List Nat} (h : dgs [] m ≠ m.length) (h2 : ¬ (dgs [] m = 0 ∨ m[dgs [] m]? ≠ some 58)) (h3 : dgs [] m + 1 + pls (nfP m) ≠ m.length) (h4 : ¬ m[dgs [] m + 1 + pls (nfP m)]? ≠ some 44) :
    nf m = .whole (nfP m) (dgs [] m + 1 + nfN m + 1) := by
  unfold nfP nfN at *
  unfold nf
  simp only [if_neg h, if_neg h2, if_neg h3, if_neg h4]
def nfV (a : Nat) : Nf → List V
  | .part k => [.str (Str.ofString "part"), .str (Str.ofString ""), .int ((a + k : Nat) : Int)]
  | .wrong k => [.str (Str.ofString "wrong"), .str (Str.ofString ""), .int ((a + k : Nat) : Int)]
  | .whole t k => [.str (Str.ofString "whole"), .str (S t), .int ((a + k : Nat) : Int)]
theorem int_inj {a b : Nat} : decide (V.int (a : Int) = V.int (b : Int)) = decide (a = b) := by
  rw [Bool.eq_iff_iff, decide_eq_true_eq, decide_eq_true_eq]
  constructor
  · intro z
    injection z with z
    omega
  · rintro rfl
    rfl
theorem sign_ne {c d : Nat} {x : Str} (e : x = S [d]) : (!decide (V.str ⟨#[c]⟩ = V.str x)) = decide (c ≠ d) := by
  subst e
  rw [Bool.eq_iff_iff, decide_eq_true_eq, Bool.not_eq_true', decide_eq_false_iff_not]
  constructor
  · intro z w
    subst w
    exact z rfl
  · intro z w
    injection w with w
    have := S_inj (a := [c]) (b := [d]) w
    simp at this
    exact z this
theorem dgs_digs : ∀ (l s : List Nat), (s = [] ∨ isDec s 200 = true) → s ++ l.take (dgs s l) = [] ∨ isDec (s ++ l.take (dgs s l)) 200 = true
  | [], s, h => by simpa [dgs] using h
  | c :: cs, s, h => by
    by_cases hd : isDec (s ++ [c]) 200 = true
    · have e : dgs s (c :: cs) = dgs (s ++ [c]) cs + 1 := by
        show (if isDec (s ++ [c]) 200 = true then _ else _) = _
        rw [if_pos hd]
      rw [e, List.take_succ_cons]
      have := dgs_digs cs (s ++ [c]) (.inr hd)
      simpa using this
    · have e : dgs s (c :: cs) = 0 := by
        show (if isDec (s ++ [c]) 200 = true then _ else _) = _
        rw [if_neg hd]
      rw [e]
      simpa using h
section
variable {P : Program} {w : World} {K : PySem.W.Frag} {mg : Str → Option Value} {base : Heap} {tm : Tok}
def spNext : Sp := fun vs H Q _ => ∃ (l : List Nat) (a : Nat), vs = [.str (S l), .int (a : Int)] ∧ a ≤ l.length ∧ l.length ≤ 100000 ∧ ∀ p H', H p = none → Same H H' → H' p = some (.tup (nfV a (nf (l.drop a)))) → Q (.ref p) H'
theorem ok_next_frame {f f1 f2 : Addr} {fd fd1 fd2 : FuncData} (F : Fn K mg "next_frame" s_next_frame ["stream", "start"] f fd) (B : Con mg tm)
    (F_digits_end : Fn K mg "digits_end" s_digits_end ["stream", "start"] f1 fd1) (G_digits_end : FnOk P w K mg base CX0 2 f1 fd1 ["stream", "start"] spDigits)
    (F_plain_end : Fn K mg "plain_end" s_plain_end ["stream", "start", "stop"] f2 fd2) (G_plain_end : FnOk P w K mg base CX0 2 f2 fd2 ["stream", "start", "stop"] spPlEnd) :
    FnOk P w K mg base CX0 3 f fd ["stream", "start"] spNext := by
  refine F.F.ok sc_next_frame (fun vs H Q E h => ?_) (fun cdv A outer s H vs Q E hr h => ?_)
  · obtain ⟨l, a, rfl, _⟩ := h
    rfl
  · obtain ⟨l, a, rfl, ha, hl, q⟩ := h
    refine ⟨_, (pss_cons (ps_set (i := 2) sc_next_frame.nd rfl (.inl rfl) (pe_call G_digits_end (hr.mono (by decide)) (by rfl) F_digits_end.g F_digits_end.F.kp F_digits_end.b .nil pass0 (pa_cons (pv 0) (pa_cons (pv 1) pa_nil))))
      (pss_cons (ps_if (pt_cmpR op_eq (pv 2) (pe_callB call_len_str (by rfl) B.n_len (by decide +kernel) (pa_cons (pv 0) pa_nil)) (nomark _))
      (pss_one (ps_ret (pe_tup (pa_cons pe_str (pa_cons pe_str (pa_cons (pv 2) pa_nil))))))
      pss_nil)
      (pss_cons (ps_if (PW.pt (pw_or (pt_cmpR op_eq (pv 2) (pv 1) (nomark _)) (pw_or1 (pt_cmpR op_ne (pe_ix ix_str (pv 0) (pv 2) (fun _ _ => rfl)) pe_str (nomark _)))))
      (pss_one (ps_ret (pe_tup (pa_cons pe_str (pa_cons pe_str (pa_cons (pv 2) pa_nil))))))
      pss_nil)
      (pss_cons (ps_set (i := 3) sc_next_frame.nd rfl (.inl rfl) (pe_op op_add (pe_op op_add (pv 2) pe_int) (pe_callTy call_int_str (by rfl) B.n_int (by decide +kernel) (pa_cons (pe_slice sl_str (pv 0) (po_some (pv 1)) (po_some (pv 2))) pa_nil))))
      (pss_cons (ps_set (i := 4) sc_next_frame.nd rfl (.inl rfl) (pe_call G_plain_end (hr.mono (by decide)) (by rfl) F_plain_end.g F_plain_end.F.kp F_plain_end.b .nil pass0 (pa_cons (pv 0) (pa_cons (pe_op op_add (pv 2) pe_int) (pa_cons (pv 3) pa_nil)))))
      (pss_cons (ps_if (pt_cmpR op_eq (pv 4) (pe_callB call_len_str (by rfl) B.n_len (by decide +kernel) (pa_cons (pv 0) pa_nil)) (nomark _))
      (pss_one (ps_ret (pe_tup (pa_cons pe_str (pa_cons pe_str (pa_cons (pv 4) pa_nil))))))
      pss_nil)
      (pss_cons (ps_if (pt_cmpR op_ne (pe_ix ix_str (pv 0) (pv 4) (fun _ _ => rfl)) pe_str (nomark _))
      (pss_one (ps_ret (pe_tup (pa_cons pe_str (pa_cons pe_str (pa_cons (pv 4) pa_nil))))))
      pss_nil)
      (pss_one (ps_ret (pe_tup (pa_cons pe_str (pa_cons (pe_slice sl_str (pv 0) (po_some (pe_op op_add (pv 2) pe_int)) (po_some (pv 3))) (pa_cons (pe_op op_add (pv 3) pe_int) pa_nil))))))))))))), ?_⟩
    have s3 : 3 ≤ sizeLine := sz (by decide)
    have hdl : (l.drop a).length = l.length - a := List.length_drop ..
    have hkl := dgs_le (l.drop a) []
    refine ⟨_, rfl, _, rfl, l, a, rfl, ha, hl, ?_⟩
    -- colon == len(stream)
    refine ⟨_, rfl, _, rfl, S l, rfl, sz (by rw [S_len]; omega), rfl, _, rfl, ?_⟩
    rw [S_len, int_inj]
    refine ite2 (fun h1 => ?_) (fun h1 => ?_)
    · have h1 := of_decide_eq_true h1
      refine ⟨_, rfl, s3, fun p hp => q p _ hp (same_new hp) ?_⟩
      rw [upd_same, nf_a (by omega)]
      rfl
    · have h1 : ¬ (a + dgs [] (l.drop a) = l.length) := fun z => h1 (decide_eq_true z)
      have n1 : dgs [] (l.drop a) ≠ (l.drop a).length := by omega
      have hlt : dgs [] (l.drop a) < (l.drop a).length := by omega
      obtain ⟨c, hc⟩ : ∃ c, (l.drop a)[dgs [] (l.drop a)]? = some c := ⟨_, List.getElem?_eq_getElem hlt⟩
      have hcl : l[a + dgs [] (l.drop a)]? = some c := by rw [← hc, List.getElem?_drop]
      have wrong1 : (dgs [] (l.drop a) = 0 ∨ (l.drop a)[dgs [] (l.drop a)]? ≠ some 58) → ∀ p, H p = none → Q (.ref p) (upd H p (.tup [.str (Str.ofString "wrong"), .str (Str.ofString ""), .int ((a + dgs [] (l.drop a) : Nat) : Int)])) := by
        intro h2 p hp
        refine q p _ hp (same_new hp) ?_
        rw [upd_same, nf_b n1 h2]
        rfl
      -- colon == start or stream[colon] != ":"
      refine ⟨_, rfl, _, rfl, rfl, _, rfl, ?_⟩
      rw [int_inj]
      refine ite2 (fun h2 => ?_) (fun h2 => ?_)
      · have h2 := of_decide_eq_true h2
        exact iteT ⟨_, rfl, s3, wrong1 (.inl (by omega))⟩
      · have h2 : ¬ (a + dgs [] (l.drop a) = a) := fun z => h2 (decide_eq_true z)
        refine ⟨_, rfl, _, rfl, S l, _, c, rfl, rfl, sz (by rw [S_len]; omega), atI_nat hcl, rfl, _, rfl, ?_⟩
        rw [sign_ne colonS]
        refine ite2 (fun h3 => ?_) (fun h3 => ?_)
        · have h3 := of_decide_eq_true h3
          exact ⟨_, rfl, s3, wrong1 (.inr (by rw [hc]; simpa using h3))⟩
        · have h3 : c = 58 := by
            by_cases z : c = 58
            · exact z
            · exact absurd (decide_eq_true z) h3
          have n2 : ¬ (dgs [] (l.drop a) = 0 ∨ (l.drop a)[dgs [] (l.drop a)]? ≠ some 58) := by
            rintro (z | z)
            · omega
            · exact z (by rw [hc, h3])
          -- comma
          have hdig := (dgs_digs (l.drop a) [] (.inl rfl))
          rw [List.nil_append] at hdig
          have hdec : isDec ((l.drop a).take (dgs [] (l.drop a))) 200 = true := by
            rcases hdig with z | z
            · have := congrArg List.length z
              rw [List.length_take, List.length_nil] at this
              omega
            · exact z
          obtain ⟨d1, d2⟩ := isDec_digs hdec
          obtain ⟨d3, d4⟩ := isDec_len hdec
          refine ⟨_, rfl, _, _, rfl, rfl, _, rfl, _, rfl, (a : Int), rfl, _, rfl, _, rfl, S l, rfl, sz (by rw [S_len]; omega), ?_⟩
          rw [cut_S ha, show a + dgs [] (l.drop a) - a = dgs [] (l.drop a) by omega]
          refine ⟨_, _, rfl, int_S d1 d2 (by omega), by rw [S_len]; omega, _, _, rfl, rfl, ?_⟩
          -- end
          have eN : digitsVal ((l.drop a).take (dgs [] (l.drop a))) = nfN (l.drop a) := rfl
          rw [eN]
          refine ⟨_, rfl, _, rfl, _, _, rfl, rfl, _, rfl, l, a + dgs [] (l.drop a) + 1, a + dgs [] (l.drop a) + 1 + nfN (l.drop a), by push_cast; rfl, by omega, hl, fun H1 sm => ?_⟩
          have eP : (l.drop (a + dgs [] (l.drop a) + 1)).take (a + dgs [] (l.drop a) + 1 + nfN (l.drop a) - (a + dgs [] (l.drop a) + 1)) = nfP (l.drop a) := by
            unfold nfP
            rw [List.drop_drop]
            congr 1
            omega
          rw [eP]
          have hpl := pls_le (nfP (l.drop a))
          have hpP : (nfP (l.drop a)).length ≤ (l.drop a).length - (dgs [] (l.drop a) + 1) := by
            unfold nfP
            rw [List.length_take, List.length_drop]
            omega
          refine ⟨_, rfl, _, rfl, S l, rfl, sz (by rw [S_len]; omega), rfl, _, rfl, ?_⟩
          rw [S_len, int_inj]
          refine ite2 (fun h4 => ?_) (fun h4 => ?_)
          · have h4 := of_decide_eq_true h4
            refine ⟨_, rfl, s3, fun p hp => q p _ (sm.free hp) (sm.trans (same_new hp)) ?_⟩
            rw [upd_same, nf_c n1 n2 (by omega)]
            show some (HO.tup [_, _, V.int ((a + dgs [] (l.drop a) + 1 + pls (nfP (l.drop a)) : Nat) : Int)]) = some (HO.tup [_, _, V.int ((a + (dgs [] (l.drop a) + 1 + pls (nfP (l.drop a))) : Nat) : Int)])
            rw [show a + dgs [] (l.drop a) + 1 + pls (nfP (l.drop a)) = a + (dgs [] (l.drop a) + 1 + pls (nfP (l.drop a))) by omega]
          · have h4 : ¬ (a + dgs [] (l.drop a) + 1 + pls (nfP (l.drop a)) = l.length) := fun z => h4 (decide_eq_true z)
            have n3 : dgs [] (l.drop a) + 1 + pls (nfP (l.drop a)) ≠ (l.drop a).length := by omega
            have hlt3 : dgs [] (l.drop a) + 1 + pls (nfP (l.drop a)) < (l.drop a).length := by omega
            obtain ⟨d, hd⟩ : ∃ d, (l.drop a)[dgs [] (l.drop a) + 1 + pls (nfP (l.drop a))]? = some d := ⟨_, List.getElem?_eq_getElem hlt3⟩
            have hdl' : l[a + dgs [] (l.drop a) + 1 + pls (nfP (l.drop a))]? = some d := by
              rw [← hd, List.getElem?_drop]
              congr 1
              omega
            refine ⟨_, rfl, _, rfl, S l, _, d, rfl, rfl, sz (by rw [S_len]; omega), atI_nat hdl', rfl, _, rfl, ?_⟩
            rw [sign_ne commaS]
            refine ite2 (fun h5 => ?_) (fun h5 => ?_)
            · have h5 := of_decide_eq_true h5
              refine ⟨_, rfl, s3, fun p hp => q p _ (sm.free hp) (sm.trans (same_new hp)) ?_⟩
              rw [upd_same, nf_d n1 n2 n3 (by rw [hd]; simpa using h5)]
              show some (HO.tup [_, _, V.int ((a + dgs [] (l.drop a) + 1 + pls (nfP (l.drop a)) : Nat) : Int)]) = some (HO.tup [_, _, V.int ((a + (dgs [] (l.drop a) + 1 + pls (nfP (l.drop a))) : Nat) : Int)])
              rw [show a + dgs [] (l.drop a) + 1 + pls (nfP (l.drop a)) = a + (dgs [] (l.drop a) + 1 + pls (nfP (l.drop a))) by omega]
            · have h5 : d = 44 := by
                by_cases z : d = 44
                · exact z
                · exact absurd (decide_eq_true z) h5
              refine ⟨_, rfl, _, rfl, _, _, rfl, rfl, ((a + dgs [] (l.drop a) + 1 : Nat) : Int), by push_cast; rfl, _, rfl, ((a + dgs [] (l.drop a) + 1 + nfN (l.drop a) : Nat) : Int), by push_cast; rfl, S l, rfl, sz (by rw [S_len]; omega), ?_⟩
              rw [cut_S (by omega), eP]
              refine ⟨_, rfl, _, _, rfl, rfl, s3, fun p hp => q p _ (sm.free hp) (sm.trans (same_new hp)) ?_⟩
              rw [upd_same, nf_e n1 n2 n3 (by rw [hd, h5]; simp)]
              show some (HO.tup [_, _, V.int (((a + dgs [] (l.drop a) : Nat) : Int) + 1 + ((nfN (l.drop a) : Nat) : Int) + 1)]) = some (HO.tup [_, _, V.int ((a + (dgs [] (l.drop a) + 1 + nfN (l.drop a) + 1) : Nat) : Int)])
              rw [show ((a + dgs [] (l.drop a) : Nat) : Int) + 1 + ((nfN (l.drop a) : Nat) : Int) + 1 = ((a + (dgs [] (l.drop a) + 1 + nfN (l.drop a) + 1) : Nat) : Int) by omega]
end
end Ag

end
/-! ## P5 -/
section
set_option linter.all false
set_option maxRecDepth 100000
namespace Ag
open PySem PySem.Spec PyProof.Rows L2
open SX (S S_len S_cat S_inj)
def txs (ts : List (List Nat)) : List V := ts.map fun x => V.str (S x)
/-- a result of read stands at p -/
def OutAt (sub : Nat) (o : Out) (H : Hp) (p : Addr) : Prop := match o with
  | .read ts r => ∃ t, H t = some (.tup (txs ts)) ∧ H p = some (.tup [.str (Str.ofString "read"), .ref t, .str (S r)])
  | .wrong ts k => ∃ t, H t = some (.tup (txs ts)) ∧ H p = some (.tup [.str (Str.ofString "wrong"), .ref t, .int ((k : Int) - (sub : Int))])
theorem pw : decide (V.str (Str.ofString "part") = V.str (Str.ofString "wrong")) = false := by decide +kernel
theorem ww : decide (V.str (Str.ofString "wrong") = V.str (Str.ofString "wrong")) = true := by decide +kernel
theorem hw : decide (V.str (Str.ofString "whole") = V.str (Str.ofString "wrong")) = false := by decide +kernel
theorem pp : decide (V.str (Str.ofString "part") = V.str (Str.ofString "part")) = true := by decide +kernel
theorem hp' : decide (V.str (Str.ofString "whole") = V.str (Str.ofString "part")) = false := by decide +kernel
section
variable {P : Program} {w : World} {K : PySem.W.Frag} {mg : Str → Option Value} {base : Heap} {tm : Tok}
def spRead : Sp := fun vs H Q _ => ∃ (r z : List Nat), vs = [.str (S r), .str (S z)] ∧ isRestB r = true ∧ r.length ≤ 50000 ∧ z.length ≤ 50000 ∧ ∀ p H', H p = none → Same H H' → OutAt r.length (lr [] none (r ++ z)) H' p → Q (.ref p) H'
theorem ok_read {f f1 f2 : Addr} {fd fd1 fd2 : FuncData} (F : Fn K mg "read" s_read ["rest", "piece"] f fd) (B : Con mg tm)
    (F_is_rest : Fn K mg "is_rest" s_is_rest ["thing"] f1 fd1) (G_is_rest : FnOk P w K mg base CX0 2 f1 fd1 ["thing"] spIsRest)
    (F_next_frame : Fn K mg "next_frame" s_next_frame ["stream", "start"] f2 fd2) (G_next_frame : FnOk P w K mg base CX0 3 f2 fd2 ["stream", "start"] spNext) :
    FnOk P w K mg base CX0 4 f fd ["rest", "piece"] spRead := by
  refine F.F.ok sc_read (fun vs H Q E h => ?_) (fun cdv A outer s H vs Q E hr h => ?_)
  · obtain ⟨r, z, rfl, _⟩ := h
    rfl
  · obtain ⟨r, z, rfl, hrest, hrl, hzl, q⟩ := h
    refine ⟨_, (pss_cons (ps_if (pt_not (pt_val (pe_call G_is_rest (hr.mono (by decide)) (by rfl) F_is_rest.g F_is_rest.F.kp F_is_rest.b .nil pass0 (pa_cons (pv 0) pa_nil))))
      (pss_one ps_never)
      pss_nil)
      (pss_cons (ps_if (pt_not (pt_val (pe_callB call_isi (by rfl) B.n_isinstance (by decide +kernel) (pa_cons (pv 1) (pa_cons (pe_bltn (v := .ty "str") (by rfl) B.n_str (by decide +kernel) rfl) pa_nil)))))
      (pss_one ps_never)
      pss_nil)
      (pss_cons (ps_set (i := 2) sc_read.nd rfl (.inl rfl) (pe_op op_add_str (pv 0) (pv 1)))
      (pss_cons (ps_set (i := 3) sc_read.nd rfl (.inl rfl) (pe_lst pa_nil))
      (pss_cons (ps_set (i := 4) sc_read.nd rfl (.inl rfl) pe_int)
      (pss_cons (ps_while PassesOwn.never (pt_cmpR op_lt (pv 4) (pe_callB call_len_str (by rfl) B.n_len (by decide +kernel) (pa_cons (pv 2) pa_nil)) (nomark _))
      (pss_cons (ps_asg (pe_call G_next_frame (hr.mono (by decide)) (by rfl) F_next_frame.g F_next_frame.F.kp F_next_frame.b .nil pass0 (pa_cons (pv 2) (pa_cons (pv 4) pa_nil))) (pg_tup rfl (pgs_cons (pg_name (i := 5) sc_read.nd rfl (Or.inl rfl)) (pgs_cons (pg_name (i := 6) sc_read.nd rfl (Or.inl rfl)) (pgs_cons (pg_name (i := 7) sc_read.nd rfl (Or.inl rfl)) pgs_nil)))))
        (pss_cons (ps_if (pt_cmpR op_eq (pv 5) pe_str (nomark _))
        (pss_one (ps_ret (pe_tup (pa_cons pe_str (pa_cons (pe_callTy call_tuple_of (by rfl) B.n_tuple (by decide +kernel) (pa_cons (pv 3) pa_nil)) (pa_cons (pe_op op_sub (pv 7) (pe_callB call_len_str (by rfl) B.n_len (by decide +kernel) (pa_cons (pv 0) pa_nil))) pa_nil))))))
        pss_nil)
        (pss_cons (ps_if (pt_cmpR op_eq (pv 5) pe_str (nomark _))
        (pss_one ps_break)
        pss_nil)
        (pss_cons (ps_expr (pe_bm PySem.F.plainAttrs_list PySem.F.slot_list_append PySem.F.type_list_append mt_append (pv 3) (pa_cons (pv 6) pa_nil)))
        (pss_one (ps_set (i := 4) sc_read.nd rfl (.inl rfl) (pv 7))))))))
      (pss_one (ps_ret (pe_tup (pa_cons pe_str (pa_cons (pe_callTy call_tuple_of (by rfl) B.n_tuple (by decide +kernel) (pa_cons (pv 3) pa_nil)) (pa_cons (pe_slice sl_str (pv 2) (po_some (pv 4)) po_none) pa_nil)))))))))))), ?_⟩
    have s3 : 3 ≤ sizeLine := sz (by decide)
    refine ⟨_, rfl, r, rfl, by omega, fun H1 sm1 => ?_⟩
    rw [hrest]
    refine ⟨_, rfl, iteF ?_⟩
    refine ⟨_, rfl, .str (S z), .ty "str", _, _, true, rfl, .ty "str", .base (.str _), kit_ty (by decide +kernel), true, rfl, ?_⟩
    refine iteF ?_
    -- stream, texts, start
    refine ⟨_, rfl, _, rfl, S r, S z, rfl, rfl, sz (by rw [S_len, S_len]; omega), ?_⟩
    rw [S_cat]
    generalize hl : r ++ z = l at q
    have hll : l.length ≤ 100000 := by rw [← hl, List.length_append]; omega
    refine ⟨Nat.zero_le _, fun L hL => ?_⟩
    have nL : H L = none := sm1.free hL
    -- what a return or a break wants
    have fin : ∀ (o : Out) (ts : List (List Nat)) (H2 : Hp) (v : V) (nm : Str), Same H H2 → lr [] none l = o → (∀ t p H3, H3 t = some (.tup (txs ts)) → H3 p = some (.tup [.str nm, .ref t, v]) → OutAt r.length o H3 p) →
        ∀ t, H2 t = none → ∀ p, (upd H2 t (.tup (txs ts))) p = none → Q (.ref p) (upd (upd H2 t (.tup (txs ts))) p (.tup [.str nm, .ref t, v])) := by
      intro o ts H2 v nm sm e ho t ht p hp
      have npt : t ≠ p := fun z => by rw [z, upd_same] at hp; cases hp
      refine q p _ (sm.free (by rw [upd_ne npt.symm] at hp; exact hp)) (sm.trans ((same_new ht).trans (same_new hp))) ?_
      rw [e]
      exact ho t p _ (by rw [upd_ne npt, upd_same]) upd_same
    refine ⟨fun m σ H2 => ∃ (a : Nat) (ts : List (List Nat)) (x5 x6 x7 : Option V), a + m = l.length ∧ σ = [some (.str (S r)), some (.str (S z)), some (.str (S l)), some (.ref L), some (.int (a : Int)), x5, x6, x7] ∧ Same H H2 ∧
      H2 L = some (.lst (txs ts)) ∧ ts.length ≤ a ∧ lr [] none l = (lr [] none (l.drop a)).pre ts a, ⟨l.length, 0, [], none, none, none, by omega, rfl, sm1.trans (same_new hL), upd_same, Nat.zero_le _, by rw [List.drop_zero, Out.pre_nil]⟩, ?_⟩
    rintro m σ H2 ⟨a, ts, x5, x6, x7, em, rfl, sm, hts, hta, elr⟩
    have tsz : (txs ts).length ≤ 100000 := by
      unfold txs
      rw [List.length_map]
      omega
    refine ⟨_, rfl, _, rfl, S l, rfl, sz (by rw [S_len]; omega), _, _, rfl, rfl, _, rfl, ?_⟩
    rw [S_len]
    refine ite2 (fun h => ?_) (fun h => ?_)
    · have h : (a : Int) < (l.length : Int) := of_decide_eq_true h
      refine ⟨fun σ' H' => ∃ m', m' < m ∧ ∃ (a : Nat) (ts : List (List Nat)) (x5 x6 x7 : Option V), a + m' = l.length ∧ σ' = [some (.str (S r)), some (.str (S z)), some (.str (S l)), some (.ref L), some (.int (a : Int)), x5, x6, x7] ∧ Same H H' ∧
        H' L = some (.lst (txs ts)) ∧ ts.length ≤ a ∧ lr [] none l = (lr [] none (l.drop a)).pre ts a, fun σ' H' n => n, ?_⟩
      refine ⟨_, rfl, _, rfl, l, a, rfl, by omega, hll, fun p H3 hp sm3 hnf => ?_⟩
      have hnl := nf_lr (l.drop a)
      have sm' := sm.trans sm3
      have hts3 := sm3 _ _ hts
      cases hn : nf (l.drop a) with
      | part k =>
        rw [hn] at hnf hnl
        refine ⟨p, _, rfl, SqT.of hnf, rfl, _, _, rfl, _, _, rfl, _, _, rfl, rfl, ?_⟩
        refine ⟨_, rfl, rfl, _, rfl, ?_⟩
        rw [pw]
        refine iteF ?_
        refine ⟨_, rfl, rfl, _, rfl, ?_⟩
        rw [pp]
        refine iteT ?_
        -- break: return ("read", tuple(texts), stream[start:])
        obtain ⟨r', e1, e2⟩ := hnl
        refine ⟨_, rfl, L, _, rfl, .inl ⟨SqL.of hts3, fun t ht => ?_⟩⟩
        refine ⟨_, rfl, _, rfl, (a : Int), rfl, S l, rfl, sz (by rw [S_len]; omega), ?_⟩
        rw [cut_from (by omega)]
        refine ⟨s3, fin (.read ts (l.drop a)) ts H3 _ _ sm' ?_ ?_ t ht⟩
        · rw [elr, e1, e2]
          simp [Out.pre]
        · intro t p H4 h1 h2
          exact ⟨t, h1, h2⟩
      | wrong k =>
        rw [hn] at hnf hnl
        refine ⟨p, _, rfl, SqT.of hnf, rfl, _, _, rfl, _, _, rfl, _, _, rfl, rfl, ?_⟩
        refine ⟨_, rfl, rfl, _, rfl, ?_⟩
        rw [ww]
        refine iteT ?_
        refine ⟨_, rfl, L, _, rfl, .inl ⟨SqL.of hts3, fun t ht => ?_⟩⟩
        refine ⟨_, rfl, _, rfl, S r, rfl, sz (by rw [S_len]; omega), _, _, rfl, rfl, ?_⟩
        rw [S_len]
        refine ⟨s3, fin (.wrong ts (a + k)) ts H3 _ _ sm' ?_ ?_ t ht⟩
        · rw [elr, hnl.1]
          simp [Out.pre]
        · intro t p H4 h1 h2
          exact ⟨t, h1, h2⟩
      | whole u k =>
        rw [hn] at hnf hnl
        obtain ⟨e1, e2, e3⟩ := hnl
        refine ⟨p, _, rfl, SqT.of hnf, rfl, _, _, rfl, _, _, rfl, _, _, rfl, rfl, ?_⟩
        refine ⟨_, rfl, rfl, _, rfl, ?_⟩
        rw [hw]
        refine iteF ?_
        refine ⟨_, rfl, rfl, _, rfl, ?_⟩
        rw [hp']
        refine iteF ?_
        refine ⟨_, rfl, .inl ⟨rfl, _, SqL.of hts3⟩, _, rfl, L, _, _, rfl, rfl, hts3, Nat.lt_of_le_of_lt tsz (by decide), ?_⟩
        have dl : (l.drop a).length = l.length - a := List.length_drop ..
        refine ⟨_, rfl, l.length - (a + k), by omega, a + k, ts ++ [u], _, _, _, by omega, rfl, fun b o e => ?_, ?_, ?_, ?_⟩
        · rw [upd_ne (ne_of_none e nL)]
          exact sm' b o e
        · rw [upd_same]
          unfold txs
          rw [List.map_append]
          rfl
        · rw [List.length_append, List.length_singleton]
          omega
        · rw [elr, e1, Out.pre_pre, List.drop_drop]
    · have h : ¬ (a : Int) < (l.length : Int) := fun z => h (decide_eq_true z)
      have ed : l.drop a = [] := List.drop_eq_nil_of_le (by omega)
      refine ⟨_, rfl, L, _, rfl, .inl ⟨SqL.of hts, fun t ht => ?_⟩⟩
      refine ⟨_, rfl, _, rfl, (a : Int), rfl, S l, rfl, sz (by rw [S_len]; omega), ?_⟩
      rw [cut_from (by omega)]
      refine ⟨s3, fin (.read ts (l.drop a)) ts H2 _ _ sm ?_ ?_ t ht⟩
      · rw [elr, ed]
        simp [Out.pre, lr, glue]
      · intro t p H4 h1 h2
        exact ⟨t, h1, h2⟩
end
end Ag

end
/-! ## L1 -/
section
set_option linter.all false
set_option maxRecDepth 100000
namespace Ag
open PySem PySem.Spec PyProof.Rows L2
open SX (S S_len S_cat S_inj)
/-! ### the deck of draws -/
def kC : Key := Sum.inr (Str.ofString "cells")
def kM : Key := Sum.inr (Str.ofString "mixed")
def kT : Key := Sum.inr (Str.ofString "turn")
def dkL (c : Addr) (m t : Int) : List (Key × V) := [(kC, .ref c), (kM, .int m), (kT, .int t)]
theorem nCM : ¬ kC = kM := by decide +kernel
theorem nCT : ¬ kC = kT := by decide +kernel
theorem nMT : ¬ kM = kT := by decide +kernel
section
variable {c : Addr} {m t u : Int}
theorem v_C : valV (dkL c m t) kC = some (.ref c) := valV_pos rfl
theorem v_M : valV (dkL c m t) kM = some (.int m) := (valV_neg nCM).trans (valV_pos rfl)
theorem v_T : valV (dkL c m t) kT = some (.int t) := (valV_neg nCT).trans ((valV_neg nMT).trans (valV_pos rfl))
theorem put_T : putK (dkL c m t) kT (.int u) = dkL c m u := by
  unfold putK dkL
  simp [nCT, nMT]
theorem merge_d : mergeK [] (dkL c m t) = dkL c m t := by
  unfold mergeK dkL putK
  simp [nCM, nCT, nMT]
end
/-- a deck stands at p, its cells at c -/
def Dk (p c : Addr) (H : Hp) : Prop := ∃ (m t : Int) (cs : List Int), H p = some (.dK (dkL c m t)) ∧ H c = some (.lst (cs.map V.int)) ∧ cs.length ≤ 63
/-- all but the deck is as it was, and the deck is one -/
def Gx (p c : Addr) (H H' : Hp) : Prop := (∀ b o, b ≠ p → b ≠ c → H b = some o → H' b = some o) ∧ Dk p c H'
theorem Gx.refl {p c : Addr} {H : Hp} (d : Dk p c H) : Gx p c H H := ⟨fun _ _ _ _ e => e, d⟩
theorem Gx.trans {p c : Addr} {H H1 H2 : Hp} (a : Gx p c H H1) (b : Gx p c H1 H2) : Gx p c H H2 := ⟨fun x o h1 h2 e => b.1 x o h1 h2 (a.1 x o h1 h2 e), b.2⟩
theorem Dk.same {p c : Addr} {H H' : Hp} (d : Dk p c H) (s : Same H H') : Dk p c H' := by
  obtain ⟨m, t, cs, h1, h2, h3⟩ := d
  exact ⟨m, t, cs, s _ _ h1, s _ _ h2, h3⟩
theorem Gx.same {p c : Addr} {H H' : Hp} (d : Dk p c H) (s : Same H H') : Gx p c H H' := ⟨fun b o _ _ e => s b o e, d.same s⟩
theorem Dk.ne {p c q : Addr} {H : Hp} (d : Dk p c H) (h : H q = none) : q ≠ p ∧ q ≠ c := by
  obtain ⟨m, t, cs, h1, h2, _⟩ := d
  exact ⟨(ne_of_none h1 h).symm, (ne_of_none h2 h).symm⟩
theorem Gx.free {p c q : Addr} {H H' : Hp} (g : Gx p c H H') (d : Dk p c H) (h : H' q = none) : H q = none := by
  cases e : H q with
  | none => rfl
  | some o =>
    have n := g.2.ne h
    have := g.1 q o n.1 n.2 e
    rw [h] at this
    cases this
/-- an object that the deck is not -/
def At (p c : Addr) (H : Hp) (a : Addr) (o : HO) : Prop := a ≠ p ∧ a ≠ c ∧ H a = some o
theorem At.gx {p c a : Addr} {H H' : Hp} {o : HO} (h : At p c H a o) (g : Gx p c H H') : At p c H' a o := ⟨h.1, h.2.1, g.1 a o h.1 h.2.1 h.2.2⟩
theorem At.new {p c a : Addr} {H : Hp} {o : HO} (d : Dk p c H) (h : H a = none) : At p c (upd H a o) a o := ⟨(d.ne h).1, (d.ne h).2, upd_same⟩
theorem Gx.new {p c a : Addr} {H : Hp} {o : HO} (d : Dk p c H) (h : H a = none) : Gx p c H (upd H a o) := Gx.same d (same_new h)
/-- a list's own change -/
theorem Gx.put {p c a : Addr} {H H' : Hp} {o : HO} (g : Gx p c H H') (d : Dk p c H) (h : H a = none) (n : a ≠ p ∧ a ≠ c) : Gx p c H (upd H' a o) := by
  refine ⟨fun b u h1 h2 e => ?_, ?_⟩
  · rw [upd_ne (ne_of_none e h)]
    exact g.1 b u h1 h2 e
  · obtain ⟨m, t, cs, h1, h2, h3⟩ := g.2
    exact ⟨m, t, cs, by rw [upd_ne n.1.symm]; exact h1, by rw [upd_ne n.2.symm]; exact h2, h3⟩
theorem cutV63 {ns : List Int} (h : ns.length ≤ 63) : cutV (ns.map V.int) none (some 63) = ns.map V.int := by
  unfold cutV
  rw [HT.sIx_none, show HT.sIx (ns.map V.int).length (ns.map V.int).length (some 63) = min 63 (ns.map V.int).length from HT.sIx_nat _ _ 63, List.drop_zero, List.take_of_length_le]
  rw [List.length_map]
  omega
section
variable {P : Program} {w : World} {K : PySem.W.Frag} {mg : Str → Option Value} {base : Heap} {tm : Tok}
def spDeck (K : PySem.W.Frag) : Sp := fun vs H Q _ => ∃ (a : Addr) (ns : List Int), vs = [.ref a] ∧ SqL K H a (ns.map V.int) ∧ ns.length ≤ 63 ∧ ∀ p c H', H p = none → H c = none → Same H H' → Dk p c H' → Q (.ref p) H'
theorem ints_all {ns : List Int} {xs : List V} (hl : xs.length = ns.length) (h : ∀ (i : Nat) (y : V), xs[i]? = some y → ∃ z, ns[i]? = some z ∧ y = V.int z) : xs = ns.map V.int := by
  refine List.ext_getElem? fun i => ?_
  rw [List.getElem?_map]
  cases e : xs[i]? with
  | none =>
    have h1 := List.getElem?_eq_none_iff.mp e
    have h2 : ns[i]? = none := List.getElem?_eq_none_iff.mpr (by omega)
    rw [h2]
    rfl
  | some y =>
    obtain ⟨z, hz, rfl⟩ := h i y e
    rw [hz]
    rfl
theorem int_at {ns : List Int} {i : Nat} {x : V} (h : (ns.map V.int)[i]? = some x) : ∃ z, ns[i]? = some z ∧ x = V.int z := by
  rw [List.getElem?_map] at h
  cases e : ns[i]? with
  | none => rw [e] at h; cases h
  | some z =>
    rw [e] at h
    exact ⟨z, rfl, (Option.some.inj h).symm⟩
theorem ok_deck {f : Addr} {fd : FuncData} (F : Fn K mg "_law_deck" s__law_deck ["_law_script"] f fd) (B : Blt mg) : FnOk P w K mg base CX0 1 f fd ["_law_script"] (spDeck K) := by
  refine F.F.ok sc__law_deck (fun vs H Q E h => ?_) (fun cdv A outer s H vs Q E hr h => ?_)
  · obtain ⟨a, ns, rfl, _⟩ := h
    rfl
  · obtain ⟨a, ns, rfl, hS, hlen, q⟩ := h
    refine ⟨_, (pss_cons (ps_set (i := 1) sc__law_deck.nd rfl (.inl rfl) pe_int)
      (pss_cons (ps_for PassesOwn.never rfl (pi_list (pe_slice sl_list (pv 0) po_none (po_some pe_int))) (pg_name (i := 2) sc__law_deck.nd rfl (Or.inl rfl))
      (pss_one (ps_set (i := 1) sc__law_deck.nd rfl (.inl rfl) (pe_op op_mod (pe_callTy call_int1 (by rfl) B.n_int (by decide +kernel) (pa_cons (pe_op op_add (pe_op op_add (pe_op op_mul (pv 1) pe_int) (pe_op op_mod (pe_callTy call_int1 (by rfl) B.n_int (by decide +kernel) (pa_cons (pv 2) pa_nil)) pe_int)) pe_int) pa_nil)) pe_int))))
      (pss_one (ps_ret (pe_disp (pps_cons pe_str (pe_revL (pe_lc (own := [("_law_cell", 2)]) rfl sc__law_deck.nd (pi_list (pe_slice sl_list (pv 0) po_none (po_some pe_int))) (blkOk_by (N := N__law_deck) (sc := defScope s__law_deck) (by decide +kernel)) (fun _ _ _ _ _ => (pg_name (i := 2) sc__law_deck.nd rfl (Or.inl rfl))) (fun _ _ _ _ _ => pts_nil) (fun _ _ _ _ _ => (pe_callTy call_int1 (by rfl) B.n_int (by decide +kernel) (pa_cons (pv 2) pa_nil))))) (pps_cons pe_str (pv 1) (pps_cons pe_str pe_int pps_nil))) (by rfl) (by rfl) (fun z => by cases z) (by decide)))))), ?_⟩
    have c63 := cutV63 hlen
    -- the mixed number
    refine ⟨_, rfl, 63, rfl, a, _, rfl, hS, fun u hu => ?_⟩
    rw [c63]
    refine ⟨u, rfl, ⟨_, SqL.of upd_same⟩, ?_⟩
    refine for_list (K := K) (a := u) (xs := ns.map V.int) (fun i σ H2 => ∃ (m : Int) (x : Option V), σ = [some (.ref a), some (.int m), x] ∧ Same H H2 ∧ H2 u = some (.lst (ns.map V.int))) ⟨_, none, rfl, same_new hu, upd_same⟩ (fun i σ H2 _ z => ?_) ?_ ?_
    · obtain ⟨_, _, _, _, e⟩ := z
      exact SqL.of e
    · rintro i x σ H2 hx ⟨m, y, rfl, sm, e⟩
      obtain ⟨z, _, rfl⟩ := int_at hx
      refine ⟨_, rfl, _, _, rfl, rfl, .inr ⟨by decide, by decide⟩, ?_⟩
      refine ⟨_, rfl, .inl ⟨z, rfl, _, _, rfl, rfl, (by show (0 : Int) < 2147483353; decide), _, _, rfl, rfl, _, _, rfl, rfl, .inl ⟨_, rfl, _, _, rfl, rfl, (by show (0 : Int) < 2147483587; decide), ?_⟩⟩⟩
      exact ⟨_, _, rfl, sm, e⟩
    · rintro σ H2 ⟨m, x, rfl, sm, e⟩
      -- the dict
      intro p hp
      have nHp : H p = none := sm.free hp
      have sm2 : Same H (upd H2 p (.dK [])) := sm.trans (same_new hp)
      refine ⟨_, rfl, 63, rfl, a, _, rfl, sm2.seq hS, fun v hv => ?_⟩
      rw [c63]
      have npv : p ≠ v := fun z => by rw [← z, upd_same] at hv; cases hv
      refine ⟨v, rfl, ⟨_, SqL.of upd_same⟩, fun D hD => ?_⟩
      have hvp : v ≠ D := fun z => by rw [← z, upd_same] at hD; cases hD
      have hD' : H D = none := (sm2.trans (same_new hv)).free hD
      have hpD : p ≠ D := fun z => by rw [← z, upd_ne npv, upd_same] at hD; cases hD
      refine lc_all (walk_list (K := K) (a := v) (xs := ns.map V.int)) (fun H' => Same H H' ∧ H' p = some (.dK []) ∧ H' v = some (.lst (ns.map V.int))) (fun i y => ∃ z, ns[i]? = some z ∧ y = .int z) (by rw [List.length_map]; omega) ⟨sm2.trans (same_new hv), by rw [upd_ne npv, upd_same], upd_same⟩ ?_ ?_ ?_ ?_
      · rintro H' o ⟨r1, r2, r3⟩
        exact ⟨fun b o' e => by rw [upd_ne (ne_of_none e hD')]; exact r1 b o' e, by rw [upd_ne hpD]; exact r2, by rw [upd_ne hvp]; exact r3⟩
      · rintro H' ⟨_, _, r3⟩
        exact SqL.of r3
      · rintro i x H1 H2' xs k hi r hxs ⟨rfl, hx⟩ hk
        obtain ⟨z, hz, rfl⟩ := int_at hx
        refine ⟨rfl, _, rfl, .inl ⟨z, rfl, hk _ _ ⟨z, hz, rfl⟩ r hxs⟩⟩
      · rintro H3 xs hl hv' ⟨r1, r2, r3⟩ hxs
        have hxe := ints_all (by rw [hl, List.length_map]) hv'
        refine ⟨D, xs, rfl, SqL.of hxs, fun R hR => ?_⟩
        have hRp : p ≠ R := ne_of_none r2 hR
        refine ⟨_, rfl, ?_⟩
        refine ⟨by rw [upd_ne hRp]; exact r2, dkL R m 0, rfl, by show 3 ≤ 15; decide, ?_⟩
        rw [merge_d]
        have nR : H R = none := r1.free hR
        refine q p R _ nHp nR (fun b o e => ?_) ⟨m, 0, ns.reverse, upd_same, ?_, by rw [List.length_reverse]; exact hlen⟩
        · rw [upd_ne (ne_of_none e nHp), upd_ne (ne_of_none e nR)]
          exact r1 b o e
        · rw [upd_ne hRp.symm, upd_same, hxe, List.map_reverse]
end
end Ag

end
/-! ## L2 -/
section
set_option linter.all false
set_option maxRecDepth 100000
namespace Ag
open PySem PySem.Spec PyProof.Rows L2
open SX (S S_len S_cat S_inj)
theorem dget {H : Hp} {a : Addr} {kvs : List (Key × V)} {k : Key} {v : V} (e : H a = some (.dK kvs)) (h : valV kvs k = some v) : DGet H a (kV k) (some v) := h ▸ DGet.k e
theorem dpInts {K : PySem.W.Frag} {H : Hp} : ∀ cs : List Int, DpAll K H (cs.map V.int) (cs.map PyData.int)
  | [] => .nil
  | c :: cs => .cons (.int c) (dpInts cs)
theorem lay_ints : ∀ cs : List Int, PyData.canLayAll0 (cs.map PyData.int) = true
  | [] => by simp [PyData.canLayAll0]
  | c :: cs => by simp [PyData.canLayAll0, PyData.canLay0, lay_ints cs]
theorem depth_ints : ∀ cs : List Int, PyData.depthAll (cs.map PyData.int) = 0
  | [] => by simp [PyData.depthAll]
  | c :: cs => by simp [PyData.depthAll, PyData.depth, depth_ints cs]
theorem shaped_ints (cs : List Int) : SeqAt.shaped (.list (cs.map PyData.int)) = true := by
  simp [SeqAt.shaped, PyData.canLay0, PyData.depth, lay_ints, depth_ints]
theorem ne_nil_ints (cs : List Int) : (!PyData.eqv (.list (cs.map PyData.int)) (.list [])) = decide (cs ≠ []) := by
  cases cs <;> simp [PyData.eqv, PyData.eqvAll]
section
variable {P : Program} {w : World} {K : PySem.W.Frag} {mg : Str → Option Value} {base : Heap} {tm : Tok}
def spDraw : Sp := fun vs H Q _ => ∃ (p c : Addr) (n : Int), vs = [.ref p, .int n] ∧ Dk p c H ∧ 1 ≤ n ∧ n ≤ 1000000 ∧ ∀ (r : Nat) H', (r : Int) < n → Gx p c H H' → Q (.int (r : Int)) H'
theorem nat_mod {x n : Int} (h : 1 ≤ n) : ∃ r : Nat, x % n = (r : Int) ∧ (r : Int) < n := by
  refine ⟨(x % n).toNat, ?_, ?_⟩
  · have := Int.emod_nonneg x (by omega : n ≠ 0)
    omega
  · have h1 := Int.emod_nonneg x (by omega : n ≠ 0)
    have h2 := Int.emod_lt_of_pos x (by omega : 0 < n)
    omega
theorem ok_draw {f : Addr} {fd : FuncData} (F : Fn K mg "_law_draw" s__law_draw ["_law_deck_here", "_law_below"] f fd) (B : Blt mg) : FnOk P w K mg base CX0 1 f fd ["_law_deck_here", "_law_below"] spDraw := by
  refine F.F.ok sc__law_draw (fun vs H Q E h => ?_) (fun cdv A outer s H vs Q E hr h => ?_)
  · obtain ⟨p, c, n, rfl, _⟩ := h
    rfl
  · obtain ⟨p, c, n, rfl, dk, n1, n2, q⟩ := h
    have hu := hu_of hr
    refine ⟨_, (pss_cons (ps_dput hu (pv 0) pe_str (pe_op op_add (pe_dget hu (pv 0) pe_str (fun _ _ => rfl)) pe_int) rfl)
      (pss_cons (ps_set (i := 2) sc__law_draw.nd rfl (.inl rfl) (pe_op op_add (pe_dget hu (pv 0) pe_str (fun _ _ => rfl)) (pe_op op_mul pe_int (pe_dget hu (pv 0) pe_str (fun _ _ => rfl)))))
      (C8.pss_cut (ps_if (pt_cmpR (op_neD hr.units) (pe_dget hu (pv 0) pe_str (fun _ _ => rfl)) (pe_lst pa_nil) (nomark _))
      (pss_cons (ps_set (i := 3) sc__law_draw.nd rfl (.inl rfl) (pe_bm0 PySem.F.plainAttrs_list PySem.F.slot_list_pop PySem.F.type_list_pop mt_pop (pe_dget hu (pv 0) pe_str (fun _ _ => rfl))))
        (pss_cons (ps_if (pt_cmpR op_ge (pv 3) (pe_op op_pow pe_int pe_int) (nomark _))
        (pss_cons (ps_expr (pe_bm PySem.F.plainAttrs_list PySem.F.slot_list_append PySem.F.type_list_append mt_append (pe_dget hu (pv 0) pe_str (fun _ _ => rfl)) (pa_cons (pe_op op_fdiv (pv 3) (pe_callB (call_max2 rfl) (by rfl) B.n_max (by decide +kernel) (pa_cons pe_int (pa_cons (pv 1) pa_nil)))) pa_nil)))
          (pss_one (ps_ret (pe_op op_mod (pe_callTy call_int1 (by rfl) B.n_int (by decide +kernel) (pa_cons (pv 3) pa_nil)) (pv 1)))))
        pss_nil)
        (pss_one (ps_set (i := 2) sc__law_draw.nd rfl (.inl rfl) (pe_op op_add (pv 2) (pe_op op_mod (pe_callTy call_int1 (by rfl) B.n_int (by decide +kernel) (pa_cons (pv 3) pa_nil)) pe_int))))))
      pss_nil)
      (pss_cons (ps_set (i := 2) sc__law_draw.nd rfl (.inl rfl) (pe_op op_mod (pe_callTy call_int1 (by rfl) B.n_int (by decide +kernel) (pa_cons (pe_op op_add (pe_op op_mul (pv 2) pe_int) pe_int) pa_nil)) pe_int))
      (pss_cons (ps_set (i := 2) sc__law_draw.nd rfl (.inl rfl) (pe_op op_mod (pe_callTy call_int1 (by rfl) B.n_int (by decide +kernel) (pa_cons (pe_op op_add (pe_op op_add (pe_op op_mul (pv 2) (pv 2)) (pe_op op_mul pe_int (pe_dget hu (pv 0) pe_str (fun _ _ => rfl)))) pe_int) pa_nil)) pe_int))
      (pss_cons (ps_set (i := 2) sc__law_draw.nd rfl (.inl rfl) (pe_op op_mod (pe_callTy call_int1 (by rfl) B.n_int (by decide +kernel) (pa_cons (pe_op op_mul (pv 2) pe_int) pa_nil)) pe_int))
      (pss_one (ps_ret (pe_op op_mod (pe_callTy call_int1 (by rfl) B.n_int (by decide +kernel) (pa_cons (pe_op op_fdiv (pv 2) pe_int) pa_nil)) (pv 1)))))))))), ?_⟩
    obtain ⟨m, t, cs, h1, h2, h3⟩ := id dk
    have fin : ∀ (x : Int) (H2 : Hp), Gx p c H H2 → Q (.int (x % n)) H2 := by
      intro x H2 g
      obtain ⟨r, er, hr'⟩ := nat_mod (x := x) n1
      rw [er]
      exact q r H2 hr' g
    have npc : p ≠ c := ne_of h1 h2 (by intro z; cases z)
    -- turn
    refine ⟨_, rfl, p, _, rfl, dget (k := kT) h1 v_T, _, _, rfl, rfl, _, rfl, p, _, rfl, DPut.k (k := kT) h1 (by rw [sizeLine_eq]; show 3 < _; decide), ?_⟩
    rw [put_T]
    have g1 : Gx p c H (upd H p (.dK (dkL c m (t + 1)))) := ⟨fun b o b1 _ e => by rw [upd_ne b1]; exact e, ⟨m, t + 1, cs, upd_same, by rw [upd_ne npc.symm]; exact h2, h3⟩⟩
    generalize upd H p (.dK (dkL c m (t + 1))) = H1 at g1
    obtain ⟨m1, t1, cs1, k1, k2, k3⟩ := g1.2
    -- the figure
    refine ⟨_, rfl, p, _, rfl, dget (k := kM) k1 v_M, _, rfl, p, _, rfl, dget (k := kT) k1 v_T, _, _, rfl, rfl, .inl ⟨by decide, by decide⟩, _, _, rfl, rfl, ?_⟩
    refine ⟨fun σ H' => ∃ (fig : Int) (x3 : Option V), σ = [some (.ref p), some (.int n), some (.int fig), x3] ∧ Gx p c H H', ?_, ?_⟩
    · refine ⟨_, rfl, p, _, rfl, dget (k := kC) k1 v_C, Nat.zero_le _, fun z hz => ?_⟩
      have dk1 : Dk p c H1 := g1.2
      have nz := dk1.ne hz
      have k1' : upd H1 z (.lst []) p = some (.dK (dkL c m1 t1)) := by rw [upd_ne nz.1.symm]; exact k1
      have k2' : upd H1 z (.lst []) c = some (.lst (cs1.map V.int)) := by rw [upd_ne nz.2.symm]; exact k2
      have g2 : Gx p c H (upd H1 z (.lst [])) := g1.trans (Gx.new dk1 hz)
      refine ⟨.list (cs1.map .int), .list [], .lst (SqL.of k2') (dpInts cs1), .lst (SqL.of upd_same) .nil, shaped_ints cs1, shaped_ints [], _, rfl, ?_⟩
      rw [ne_nil_ints]
      refine ite2 (fun h => ?_) (fun h => ?_)
      · have hne : cs1 ≠ [] := of_decide_eq_true h
        obtain ⟨ini, cell, rfl⟩ : ∃ ini cell, cs1 = ini ++ [cell] := ⟨_, _, (List.dropLast_concat_getLast hne).symm⟩
        refine ⟨_, rfl, p, _, rfl, dget (k := kC) k1' v_C, .inl ⟨rfl, _, SqL.of k2'⟩, c, _, .int cell, rfl, rfl, k2', by simp, ?_⟩
        have ed : ((ini ++ [cell]).map V.int).dropLast = ini.map V.int := by simp
        rw [ed]
        rw [List.length_append, List.length_singleton] at k3
        have k1'' : upd (upd H1 z (.lst [])) c (.lst (ini.map V.int)) p = some (.dK (dkL c m1 t1)) := by rw [upd_ne npc]; exact k1'
        have putc : ∀ (xs : List Int) (H2 : Hp), (∀ b, b ≠ c → H2 b = upd H1 z (.lst []) b) → xs.length ≤ 63 → Gx p c H (upd H2 c (.lst (xs.map V.int))) := by
          intro xs H2 hb hx
          refine ⟨fun b o b1 b2 e => ?_, ⟨m1, t1, xs, ?_, upd_same, hx⟩⟩
          · rw [upd_ne b2, hb b b2]
            exact g2.1 b o b1 b2 e
          · rw [upd_ne npc, hb p npc]
            exact k1'
        refine ⟨_, rfl, _, _, rfl, rfl, ⟨by decide, by decide, by decide⟩, _, _, rfl, rfl, _, rfl, ?_⟩
        refine ite2 (fun h => ?_) (fun h => ?_)
        · refine ⟨_, rfl, p, _, rfl, dget (k := kC) k1'' v_C, .inl ⟨rfl, _, SqL.of upd_same⟩, _, rfl, _, rfl, 2, n, rfl, _, _, rfl, rfl, ?_, c, _, _, rfl, rfl, upd_same, ?_, ?_⟩
          · show (0 : Int) < (if n > 2 then n else 2) ∧ (if n > 2 then n else 2) < 1073741824
            split <;> omega
          · rw [List.length_map, sizeLine_eq]; omega
          refine ⟨_, rfl, .inl ⟨_, rfl, _, rfl, _, _, rfl, rfl, (by show (0 : Int) < n; omega), ?_⟩⟩
          refine fin cell _ ?_
          have e2 : ini.map V.int ++ [V.int (cell / (if n > 2 then n else 2))] = (ini ++ [cell / (if n > 2 then n else 2)]).map V.int := by simp
          show Gx p c H (upd _ c (.lst (ini.map V.int ++ [V.int (cell / (if n > 2 then n else 2))])))
          rw [e2]
          exact putc _ _ (fun b hb => by rw [upd_ne hb]) (by simp; omega)
        · refine ⟨_, rfl, _, rfl, .inl ⟨_, rfl, _, _, rfl, rfl, (by show (0 : Int) < 2147483353; decide), _, _, rfl, rfl, _, _, rfl, putc _ _ (fun b hb => rfl) (by omega)⟩⟩
      · exact ⟨_, _, rfl, g2⟩
    · rintro σ H2 ⟨fig, x3, rfl, g2⟩
      obtain ⟨m2, t2, cs2, j1, j2, j3⟩ := g2.2
      refine ⟨_, rfl, _, _, rfl, rfl, .inr ⟨by decide, by decide⟩, _, _, rfl, rfl, .inl ⟨_, rfl, _, _, rfl, rfl, (by show (0 : Int) < 2147483399; decide), ?_⟩⟩
      have b1 := Int.emod_nonneg (fig * 48271 + 83) (by decide : (2147483399 : Int) ≠ 0)
      have b2 := Int.emod_lt_of_pos (fig * 48271 + 83) (by decide : (0 : Int) < 2147483399)
      generalize (fig * 48271 + 83) % 2147483399 = f1 at b1 b2
      refine ⟨_, rfl, _, rfl, _, _, rfl, rfl, .inl ⟨by omega, by omega⟩, _, rfl, p, _, rfl, dget (k := kT) j1 v_T, _, _, rfl, rfl, .inl ⟨by decide, by decide⟩, _, _, rfl, rfl, _, _, rfl, rfl, .inl ⟨_, rfl, _, _, rfl, rfl, (by show (0 : Int) < 2147483587; decide), ?_⟩⟩
      refine ⟨_, rfl, _, _, rfl, rfl, .inr ⟨by decide, by decide⟩, .inl ⟨_, rfl, _, _, rfl, rfl, (by show (0 : Int) < 2147483323; decide), ?_⟩⟩
      refine ⟨_, rfl, _, _, rfl, rfl, ⟨by decide, by decide⟩, .inl ⟨_, rfl, _, rfl, _, _, rfl, rfl, (by show (0 : Int) < n; omega), ?_⟩⟩
      exact fin _ H2 g2
/-- _law_pick: any item of a list that the deck is not, any sign of a text -/
def spPick : Sp := fun vs H Q _ => ∃ (p c : Addr) (v : V), vs = [.ref p, v] ∧ Dk p c H ∧
  ((∃ (a : Addr) (xs : List V), v = .ref a ∧ At p c H a (.lst xs) ∧ 1 ≤ xs.length ∧ xs.length ≤ 100000 ∧ ∀ (r : Nat) x H', xs[r]? = some x → Gx p c H H' → Q x H') ∨
   ∃ z : List Nat, v = .str (S z) ∧ 1 ≤ z.length ∧ z.length ≤ 1000 ∧ ∀ (r : Nat) d H', z[r]? = some d → Gx p c H H' → Q (.str (S [d])) H')
theorem ok_pick {f f1 : Addr} {fd fd1 : FuncData} (F : Fn K mg "_law_pick" s__law_pick ["_law_deck_here", "_law_some"] f fd) (B : Blt mg) (F__law_draw : Fn K mg "_law_draw" s__law_draw ["_law_deck_here", "_law_below"] f1 fd1) :
    FnOk P w K mg base CX0 2 f fd ["_law_deck_here", "_law_some"] spPick := by
  have G__law_draw : FnOk P w K mg base CX0 1 f1 fd1 ["_law_deck_here", "_law_below"] spDraw := ok_draw F__law_draw B
  refine F.F.ok sc__law_pick (fun vs H Q E h => ?_) (fun cdv A outer s H vs Q E hr h => ?_)
  · obtain ⟨p, c, v, rfl, _⟩ := h
    rfl
  · obtain ⟨p, c, v, rfl, dk, h⟩ := h
    refine ⟨_, (pss_one (ps_ret (pe_ix ix_seq (pv 1) (pe_call G__law_draw (hr.mono (by decide)) (by rfl) F__law_draw.g F__law_draw.F.kp F__law_draw.b .nil pass0 (pa_cons (pv 0) (pa_cons (pe_callB call_len (by rfl) B.n_len (by decide +kernel) (pa_cons (pv 1) pa_nil)) pa_nil))) (fun _ _ => rfl)))), ?_⟩
    rcases h with ⟨a, xs, rfl, ha, hl1, hl2, q⟩ | ⟨z, rfl, hl1, hl2, q⟩
    · refine ⟨_, rfl, _, rfl, _, rfl, .ref a, xs.length, rfl, .inl ⟨xs, SqL.of ha.2.2, rfl⟩, p, c, _, rfl, dk, by omega, by omega, fun r H' hr' g => ?_⟩
      have hlt : r < xs.length := by omega
      exact .inl ⟨a, xs, _, _, rfl, rfl, SqL.of (ha.gx g).2.2, atI_nat (List.getElem?_eq_getElem hlt), q r _ H' (List.getElem?_eq_getElem hlt) g⟩
    · refine ⟨_, rfl, _, rfl, _, rfl, .str (S z), z.length, rfl, ⟨sz (by rw [S_len]; omega), by rw [S_len]⟩, p, c, _, rfl, dk, by omega, by omega, fun r H' hr' g => ?_⟩
      have hlt : r < z.length := by omega
      have hz : (S z).cps.toList[r]? = some z[r] := List.getElem?_eq_getElem hlt
      exact .inr (.inr ⟨S z, _, _, rfl, rfl, sz (by rw [S_len]; omega), atI_nat hz, q r _ H' (List.getElem?_eq_getElem hlt) g⟩)
def signs : List Nat := 32 :: 33 :: 34 :: 35 :: 36 :: (List.range 89).map (· + 38)
theorem signs_eq : (Str.ofString " !\"#$&'()*+,-./0123456789:;<=>?@ABCDEFGHIJKLMNOPQRSTUVWXYZ[\\]^_`abcdefghijklmnopqrstuvwxyz{|}~") = S signs := by decide +kernel
theorem signs_plain : plainL signs = true := by decide +kernel
theorem signs_len : signs.length = 94 := by decide +kernel
def spSigns : Sp := fun vs H Q _ => vs = [] ∧ Q (.str (S signs)) H
theorem ok_signs {f : Addr} {fd : FuncData} (F : Fn K mg "_law_signs" s__law_signs [] f fd) : FnOk P w K mg base CX0 1 f fd [] spSigns := by
  refine F.F.ok sc__law_signs (fun vs H Q E h => ?_) (fun cdv A outer s H vs Q E hr h => ?_)
  · obtain ⟨rfl, _⟩ := h
    rfl
  · obtain ⟨rfl, q⟩ := h
    refine ⟨_, (pss_one (ps_ret pe_str)), ?_⟩
    rw [← signs_eq] at q
    exact q
def spSize : Sp := fun vs H Q _ => ∃ (p c : Addr), vs = [.ref p] ∧ Dk p c H ∧ ∀ (r : Nat) H', r ≤ 200 → Gx p c H H' → Q (.int (r : Int)) H'
theorem ok_size {f f1 f2 : Addr} {fd fd1 fd2 : FuncData} (F : Fn K mg "_law_size" s__law_size ["_law_deck_here"] f fd) (F__law_draw : Fn K mg "_law_draw" s__law_draw ["_law_deck_here", "_law_below"] f1 fd1) (G__law_draw : FnOk P w K mg base CX0 1 f1 fd1 ["_law_deck_here", "_law_below"] spDraw)
    (F__law_pick : Fn K mg "_law_pick" s__law_pick ["_law_deck_here", "_law_some"] f2 fd2) (G__law_pick : FnOk P w K mg base CX0 2 f2 fd2 ["_law_deck_here", "_law_some"] spPick) :
    FnOk P w K mg base CX0 3 f fd ["_law_deck_here"] spSize := by
  refine F.F.ok sc__law_size (fun vs H Q E h => ?_) (fun cdv A outer s H vs Q E hr h => ?_)
  · obtain ⟨p, c, rfl, _⟩ := h
    rfl
  · obtain ⟨p, c, rfl, dk, q⟩ := h
    refine ⟨_, (pss_one (ps_ret (pe_call G__law_pick (hr.mono (by decide)) (by rfl) F__law_pick.g F__law_pick.F.kp F__law_pick.b .nil pass0 (pa_cons (pv 0) (pa_cons (pe_lst (pa_cons pe_int (pa_cons pe_int (pa_cons pe_int (pa_cons pe_int (pa_cons pe_int (pa_cons pe_int (pa_cons pe_int (pa_cons pe_int (pa_cons pe_int (pa_cons pe_int (pa_cons pe_int (pa_cons pe_int (pa_cons pe_int (pa_cons pe_int (pa_cons pe_int (pa_cons (pe_call G__law_draw (hr.mono (by decide)) (by rfl) F__law_draw.g F__law_draw.F.kp F__law_draw.b .nil pass0 (pa_cons (pv 0) (pa_cons pe_int pa_nil))) pa_nil))))))))))))))))) pa_nil))))), ?_⟩
    refine ⟨_, rfl, _, rfl, p, c, _, rfl, dk, by decide, by decide, fun r H1 hr1 g1 => ?_⟩
    refine ⟨sz (by show 16 ≤ 16000000; decide), fun a ha => ?_⟩
    refine ⟨p, c, .ref a, rfl, g1.2.same (same_new ha), .inl ⟨a, _, rfl, At.new g1.2 ha, (by show 1 ≤ 16; decide), (by show 16 ≤ 100000; decide), fun k x H2 hx g2 => ?_⟩⟩
    have hx' : ∃ z : Nat, x = .int (z : Int) ∧ z ≤ 200 := by
      have mem := List.mem_of_getElem? hx
      simp only [List.mem_cons, List.not_mem_nil, or_false] at mem
      rcases mem with h | h | h | h | h | h | h | h | h | h | h | h | h | h | h | h
      · exact ⟨4, h, by decide⟩
      · exact ⟨0, h, by decide⟩
      · exact ⟨1, h, by decide⟩
      · exact ⟨9, h, by decide⟩
      · exact ⟨10, h, by decide⟩
      · exact ⟨11, h, by decide⟩
      · exact ⟨2, h, by decide⟩
      · exact ⟨99, h, by decide⟩
      · exact ⟨100, h, by decide⟩
      · exact ⟨101, h, by decide⟩
      · exact ⟨3, h, by decide⟩
      · exact ⟨199, h, by decide⟩
      · exact ⟨200, h, by decide⟩
      · exact ⟨7, h, by decide⟩
      · exact ⟨30, h, by decide⟩
      · exact ⟨r, h, by omega⟩
    obtain ⟨z, rfl, hz⟩ := hx'
    exact q z H2 hz ((g1.trans (Gx.new g1.2 ha)).trans g2)
end
end Ag

end
/-! ## L3 -/
section
set_option linter.all false
set_option maxRecDepth 100000
namespace Ag
open PySem PySem.Spec PyProof.Rows L2
open SX (S S_len S_cat S_inj)
theorem strs_of {P : List Nat → Prop} : ∀ {xs : List V}, (∀ (i : Nat) y, xs[i]? = some y → ∃ z, P z ∧ y = V.str (S z)) → ∃ zs : List (List Nat), xs = (zs.map S).map V.str ∧ ∀ z ∈ zs, P z
  | [], _ => ⟨[], rfl, fun _ h => by cases h⟩
  | x :: xs, h => by
    obtain ⟨z, hz, rfl⟩ := h 0 x rfl
    obtain ⟨zs, rfl, hp⟩ := strs_of (xs := xs) fun i y hy => h (i + 1) y (by simpa using hy)
    refine ⟨z :: zs, rfl, fun u hu => ?_⟩
    rcases List.mem_cons.mp hu with rfl | hu
    · exact hz
    · exact hp u hu
theorem joinL_nil : ∀ zs : List (List Nat), TL.joinL [] zs = zs.flatten
  | [] => rfl
  | [p] => by simp [TL.joinL]
  | p :: q :: r => by
    show p ++ ([] ++ TL.joinL [] (q :: r)) = _
    rw [joinL_nil (q :: r)]
    simp
theorem plain_flat {zs : List (List Nat)} (h : ∀ z ∈ zs, plainL z = true) : plainL zs.flatten = true := by
  unfold plainL at *
  rw [List.all_flatten, List.all_eq_true]
  exact h
theorem plain_take {l : List Nat} (n : Nat) (h : plainL l = true) : plainL (l.take n) = true := by
  unfold plainL at *
  rw [List.all_eq_true] at *
  exact fun c hc => h c (List.mem_of_mem_take hc)
theorem plain_rep {l : List Nat} (n : Nat) (h : plainL l = true) : plainL (List.replicate n l).flatten = true :=
  plain_flat fun z hz => by rw [(List.mem_replicate.mp hz).2]; exact h
theorem signs_at {k : Nat} (h : k < 94) : ∃ d, signs[k]? = some d ∧ plainC d = true := by
  have hl : k < signs.length := by rw [signs_len]; exact h
  refine ⟨signs[k], List.getElem?_eq_getElem hl, ?_⟩
  have := signs_plain
  unfold plainL at this
  rw [List.all_eq_true] at this
  exact this _ (List.getElem_mem hl)
theorem emptyS : (Str.ofString "") = S [] := by decide +kernel
theorem len_sum {zs : List (List Nat)} : ((zs.map S).map (·.length)).sum = zs.flatten.length := by
  rw [SX.lens, List.length_flatten]
theorem flat_le {zs : List (List Nat)} {k : Nat} (h : ∀ z ∈ zs, z.length ≤ k) : zs.flatten.length ≤ zs.length * k := by
  induction zs with
  | nil => simp
  | cons z zs ih =>
    have h1 := h z List.mem_cons_self
    have h2 := ih fun u hu => h u (List.mem_cons_of_mem _ hu)
    simp only [List.flatten_cons, List.length_append, List.length_cons, Nat.add_mul, Nat.one_mul]
    omega
section
variable {P : Program} {w : World} {K : PySem.W.Frag} {mg : Str → Option Value} {base : Heap} {tm : Tok}
def spText : Sp := fun vs H Q _ => ∃ (p c : Addr) (n : Nat), vs = [.ref p, .int (n : Int)] ∧ Dk p c H ∧ n ≤ 200 ∧ ∀ (l : List Nat) H', plainL l = true → l.length ≤ n → Gx p c H H' → Q (.str (S l)) H'
theorem ok_text {f f1 f2 f3 : Addr} {fd fd1 fd2 fd3 : FuncData} (F : Fn K mg "_law_text" s__law_text ["_law_deck_here", "_law_size_here"] f fd) (B : Blt mg) (F__law_draw : Fn K mg "_law_draw" s__law_draw ["_law_deck_here", "_law_below"] f1 fd1)
    (G__law_draw : FnOk P w K mg base CX0 1 f1 fd1 ["_law_deck_here", "_law_below"] spDraw) (F__law_pick : Fn K mg "_law_pick" s__law_pick ["_law_deck_here", "_law_some"] f2 fd2) (G__law_pick : FnOk P w K mg base CX0 2 f2 fd2 ["_law_deck_here", "_law_some"] spPick)
    (F__law_signs : Fn K mg "_law_signs" s__law_signs [] f3 fd3) : FnOk P w K mg base CX0 3 f fd ["_law_deck_here", "_law_size_here"] spText := by
  have G__law_signs : FnOk P w K mg base CX0 1 f3 fd3 [] spSigns := ok_signs F__law_signs
  refine F.F.ok sc__law_text (fun vs H Q E h => ?_) (fun cdv A outer s H vs Q E hr h => ?_)
  · obtain ⟨p, c, n, rfl, _⟩ := h
    rfl
  · obtain ⟨p, c, n, rfl, dk, hn, q⟩ := h
    refine ⟨_, (pss_cons (ps_asg (pe_tup (pa_cons (pe_call G__law_draw (hr.mono (by decide)) (by rfl) F__law_draw.g F__law_draw.F.kp F__law_draw.b .nil pass0 (pa_cons (pv 0) (pa_cons pe_int pa_nil))) (pa_cons (pe_call0 G__law_signs (hr.mono (by decide)) (by rfl) F__law_signs.g F__law_signs.F.kp F__law_signs.b .nil pass0) pa_nil))) (pg_tup rfl (pgs_cons (pg_name (i := 2) sc__law_text.nd rfl (Or.inl rfl)) (pgs_cons (pg_name (i := 3) sc__law_text.nd rfl (Or.inr rfl)) pgs_nil))))
      (pss_cons (ps_asg (pe_tup (pa_cons (pe_call G__law_draw (hr.mono (by decide)) (by rfl) F__law_draw.g F__law_draw.F.kp F__law_draw.b .nil pass0 (pa_cons (pv 0) (pa_cons pe_int pa_nil))) (pa_cons (pe_call G__law_draw (hr.mono (by decide)) (by rfl) F__law_draw.g F__law_draw.F.kp F__law_draw.b .nil pass0 (pa_cons (pv 0) (pa_cons pe_int pa_nil))) pa_nil))) (pg_tup rfl (pgs_cons (pg_name (i := 4) sc__law_text.nd rfl (Or.inr rfl)) (pgs_cons (pg_name (i := 5) sc__law_text.nd rfl (Or.inr rfl)) pgs_nil))))
      (pss_cons (ps_if (pt_cmpR op_eq (pv 2) pe_int (nomark _))
      (pss_one (ps_ret (pe_op op_rep_str (pe_ix ix_str (pv 3) (pv 4) (fun _ _ => rfl)) (pv 1))))
      pss_nil)
      (pss_cons (ps_if (pt_cmpR op_eq (pv 2) pe_int (nomark _))
      (pss_one (ps_ret (pe_join pe_str (pe_lc (own := [("_law_at", 9)]) rfl sc__law_text.nd (pi_range1 (by rfl) B.n_range (pa_cons (pv 1) pa_nil)) (blkOk_by (N := N__law_text) (sc := defScope s__law_text) (by decide +kernel)) (fun _ _ _ _ _ => (pg_name (i := 9) sc__law_text.nd rfl (Or.inl rfl))) (fun _ _ _ _ _ => pts_nil) (fun _ _ _ _ _ => (pe_ix ix_str (pv 3) (pe_op op_mod (pe_callTy call_int1 (by rfl) B.n_int (by decide +kernel) (pa_cons (pe_op op_add (pv 4) (pe_op op_mul (pv 5) (pv 9))) pa_nil)) pe_int) (fun _ _ => rfl)))))))
      pss_nil)
      (pss_cons (ps_set (i := 6) sc__law_text.nd rfl (.inr rfl) (pe_lst (pa_cons pe_str (pa_cons pe_str (pa_cons pe_str (pa_cons pe_str (pa_cons pe_str (pa_cons pe_str (pa_cons pe_str (pa_cons pe_str (pa_cons pe_str (pa_cons pe_str (pa_cons pe_str (pa_cons pe_str (pa_cons pe_str pa_nil)))))))))))))))
      (pss_cons (ps_set (i := 7) sc__law_text.nd rfl (.inl rfl) (pe_join pe_str (pe_lc (own := [("_law_turn", 8)]) rfl sc__law_text.nd (pi_range1 (by rfl) B.n_range (pa_cons (pe_op op_add pe_int (pe_call G__law_draw (hr.mono (by decide)) (by rfl) F__law_draw.g F__law_draw.F.kp F__law_draw.b .nil pass0 (pa_cons (pv 0) (pa_cons pe_int pa_nil)))) pa_nil)) (blkOk_by (N := N__law_text) (sc := defScope s__law_text) (by decide +kernel)) (fun _ _ _ _ _ => (pg_name (i := 8) sc__law_text.nd rfl (Or.inl rfl))) (fun _ _ _ _ _ => pts_nil) (fun _ _ _ _ _ => (pe_call G__law_pick (hr.mono (by decide)) (by rfl) F__law_pick.g F__law_pick.F.kp F__law_pick.b .nil pass0 (pa_cons (pv 0) (pa_cons (pv 6) pa_nil)))))))
      (pss_one (ps_ret (pe_slice sl_str (pe_op op_rep_str (pv 7) (pe_op op_add (pe_op op_fdiv (pv 1) (pe_callB call_len_str (by rfl) B.n_len (by decide +kernel) (pa_cons (pv 7) pa_nil))) pe_int)) po_none (po_some (pv 1))))))))))), ?_⟩
    have s2 : 2 ≤ sizeLine := sz (by decide)
    -- way, signs
    refine ⟨_, rfl, p, c, 4, rfl, dk, by decide, by decide, fun way H1 hway g1 => ?_⟩
    refine ⟨rfl, s2, fun t1 ht1 => ⟨t1, _, rfl, SqT.of upd_same, rfl, _, _, rfl, _, _, rfl, rfl, ?_⟩⟩
    have g2 := g1.trans (Gx.new (o := .tup [.int (way : Int), .str (S signs)]) g1.2 ht1)
    generalize upd H1 t1 _ = H2 at g2
    -- first, step
    refine ⟨_, rfl, p, c, 94, rfl, g2.2, by decide, by decide, fun first H3 hfirst g3 => ?_⟩
    refine ⟨_, rfl, p, c, 94, rfl, g3.2, by decide, by decide, fun step H4 hstep g4 => ?_⟩
    refine ⟨s2, fun t2 ht2 => ⟨t2, _, rfl, SqT.of upd_same, rfl, _, _, rfl, _, _, rfl, rfl, ?_⟩⟩
    have g5 := ((g2.trans g3).trans g4).trans (Gx.new (o := .tup [.int (first : Int), .int (step : Int)]) g4.2 ht2)
    generalize upd H4 t2 _ = H5 at g5
    -- way == 0
    refine ⟨_, rfl, rfl, _, rfl, ?_⟩
    refine ite2 (fun _ => ?_) (fun _ => ?_)
    · obtain ⟨d, hd, hp⟩ := signs_at (k := first) (by omega)
      refine ⟨_, rfl, _, rfl, S signs, _, d, rfl, rfl, sz (by rw [S_len, signs_len]; decide), atI_nat hd, ?_⟩
      refine ⟨_, rfl, [d], n, rfl, rfl, by simp; omega, by omega, by simp, ?_⟩
      refine q _ _ (plain_rep n (by simpa [plainL] using hp)) ?_ g5
      rw [List.length_flatten]
      simp
    refine ⟨_, rfl, rfl, _, rfl, ?_⟩
    refine ite2 (fun _ => ?_) (fun _ => ?_)
    · -- characters in steps
      refine ⟨⟨_, rfl⟩, _, rfl, _, rfl, by omega, by omega, fun D hD => ?_⟩
      have nD := g5.2.ne hD
      have hD0 := g5.free dk hD
      have hnn : ((n : Int)).toNat = n := by simp
      refine lc_all (walk_range (lo := 0) (n := ((n : Int)).toNat)) (fun H' => Gx p c H H') (fun _ y => ∃ z, (plainL z = true ∧ z.length ≤ 1) ∧ y = .str (S z)) (by rw [hnn]; omega) g5 (fun H' o g => g.put dk hD0 nD) (fun _ _ => trivial) ?_ ?_
      · rintro i x Ha Hb xs k hi g hxs ⟨rfl, rfl⟩ hk
        have hx : (first : Int) + (step : Int) * (0 + (i : Int)) = ((first + step * i : Nat) : Int) := by push_cast; rw [Int.zero_add]
        refine ⟨rfl, _, rfl, _, rfl, _, rfl, _, rfl, _, _, rfl, rfl, .inl ⟨by omega, by omega⟩, _, _, rfl, rfl, .inl ⟨_, rfl, _, _, rfl, rfl, (by show (0 : Int) < 94; decide), ?_⟩⟩
        obtain ⟨d, hd, hp⟩ := signs_at (k := (first + step * i) % 94) (Nat.mod_lt _ (by decide))
        refine ⟨S signs, _, d, rfl, ?_, sz (by rw [S_len, signs_len]; decide), atI_nat (j := (first + step * i) % 94) hd, ?_⟩
        · show V.int (((first : Int) + (step : Int) * (0 + (i : Int))) % 94) = _
          rw [hx]
          rfl
        · exact hk _ _ ⟨[d], ⟨by simpa [plainL] using hp, by simp⟩, rfl⟩ g hxs
      · intro H' xs hl hv g hxs
        obtain ⟨zs, rfl, hz⟩ := strs_of (P := fun z => plainL z = true ∧ z.length ≤ 1) (fun i y hy => hv i y hy)
        have hzl : zs.length = n := by rw [← hnn, ← hl]; simp
        have hfl : zs.flatten.length ≤ n := by
          have := flat_le (k := 1) fun z hz' => (hz z hz').2
          omega
        refine ⟨_, D, zs.map S, rfl, rfl, .inl (SqL.of hxs), ?_, ?_⟩
        · rw [len_sum, emptyS, S_len, List.length_nil, Nat.mul_zero]
          omega
        · rw [emptyS, SX.join_S, joinL_nil]
          exact q _ _ (plain_flat fun z hz' => (hz z hz').1) hfl g
    -- like frames and messages
    refine ⟨sz (by show 13 ≤ 16000000; decide), fun a ha => ?_⟩
    have na := g5.2.ne ha
    have ha0 := g5.free dk ha
    have g6 := g5.trans (Gx.new (o := .lst [.str (Str.ofString "4:look,"), .str (Str.ofString "0:,"), .str (Str.ofString "12:ab"), .str (Str.ofString "ask 1 x"), .str (Str.ofString ","), .str (Str.ofString ":"), .str (Str.ofString "7"), .str (Str.ofString " "), .str (Str.ofString "forgot 1"), .str (Str.ofString "5:well!,"), .str (Str.ofString "answer 2 "), .str (Str.ofString "2"), .str (Str.ofString "1")]) g5.2 ha)
    have ha6 := At.new (o := .lst [.str (Str.ofString "4:look,"), .str (Str.ofString "0:,"), .str (Str.ofString "12:ab"), .str (Str.ofString "ask 1 x"), .str (Str.ofString ","), .str (Str.ofString ":"), .str (Str.ofString "7"), .str (Str.ofString " "), .str (Str.ofString "forgot 1"), .str (Str.ofString "5:well!,"), .str (Str.ofString "answer 2 "), .str (Str.ofString "2"), .str (Str.ofString "1")]) g5.2 ha
    generalize upd H5 a _ = H6 at g6 ha6
    have menu : ∀ (r : Nat) x, ([.str (Str.ofString "4:look,"), .str (Str.ofString "0:,"), .str (Str.ofString "12:ab"), .str (Str.ofString "ask 1 x"), .str (Str.ofString ","), .str (Str.ofString ":"), .str (Str.ofString "7"), .str (Str.ofString " "), .str (Str.ofString "forgot 1"), .str (Str.ofString "5:well!,"), .str (Str.ofString "answer 2 "), .str (Str.ofString "2"), .str (Str.ofString "1")] : List V)[r]? = some x →
        ∃ z, (plainL z = true ∧ 1 ≤ z.length ∧ z.length ≤ 9) ∧ x = .str (S z) := by
      intro r x hx
      have mem := List.mem_of_getElem? hx
      have key : ∀ t : Str, (plainL t.cps.toList && decide (1 ≤ t.cps.toList.length) && decide (t.cps.toList.length ≤ 9)) = true → x = .str t → ∃ z, (plainL z = true ∧ 1 ≤ z.length ∧ z.length ≤ 9) ∧ x = .str (S z) := by
        intro t ht e
        rw [Bool.and_eq_true, Bool.and_eq_true, decide_eq_true_eq, decide_eq_true_eq] at ht
        exact ⟨t.cps.toList, ⟨ht.1.1, ht.1.2, ht.2⟩, by rw [e, SX.S_tl]⟩
      simp only [List.mem_cons, List.not_mem_nil, or_false] at mem
      rcases mem with h | h | h | h | h | h | h | h | h | h | h | h | h <;> exact key _ (by decide +kernel) h
    -- the joined text
    refine ⟨⟨_, rfl⟩, _, rfl, p, c, 4, rfl, g6.2, by decide, by decide, fun m H7 hm g7 => ⟨_, _, rfl, rfl, _, rfl, by omega, by omega, fun D hD => ?_⟩⟩
    have g67 := g6.trans g7
    have ha7 := ha6.gx g7
    have nD := g67.2.ne hD
    have hD0 := g67.free dk hD
    have hDa : a ≠ D := ne_of_none ha7.2.2 hD
    have hmm : ((1 : Int) + (m : Int)).toNat = 1 + m := by omega
    refine lc_all (walk_range (lo := 0) (n := ((1 : Int) + (m : Int)).toNat)) (fun H' => Gx p c H H' ∧ At p c H' a _) (fun _ y => ∃ z, (plainL z = true ∧ 1 ≤ z.length ∧ z.length ≤ 9) ∧ y = .str (S z)) (by rw [hmm]; omega) ⟨g67, ha7⟩ (fun H' o r => ⟨r.1.put dk hD0 nD, r.2.1, r.2.2.1, by rw [upd_ne hDa]; exact r.2.2.2⟩) (fun _ _ => trivial) ?_ ?_
    · rintro i x Ha Hb xs k hi ⟨g, hat⟩ hxs ⟨rfl, rfl⟩ hk
      refine ⟨rfl, _, rfl, _, rfl, p, c, .ref a, rfl, g.2, .inl ⟨a, _, rfl, hat, (by show 1 ≤ 13; decide), (by show 13 ≤ 100000; decide), fun r x H8 hx g8 => ?_⟩⟩
      exact hk _ _ (menu r x hx) ⟨g.trans g8, hat.gx g8⟩ (g8.1 D _ nD.1 nD.2 hxs)
    · rintro H' xs hl hv ⟨g, hat⟩ hxs
      obtain ⟨zs, rfl, hz⟩ := strs_of (P := fun z => plainL z = true ∧ 1 ≤ z.length ∧ z.length ≤ 9) (fun i y hy => hv i y hy)
      have hzl : zs.length = 1 + m := by rw [← hmm, ← hl]; simp
      have hfl : zs.flatten.length ≤ 36 := by
        have := flat_le (k := 9) fun z hz' => (hz z hz').2.2
        omega
      have hf1 : 1 ≤ zs.flatten.length := by
        cases zs with
        | nil => simp at hzl; omega
        | cons z zs =>
          have := (hz z List.mem_cons_self).2.1
          simp
          omega
      refine ⟨_, D, zs.map S, rfl, rfl, .inl (SqL.of hxs), ?_, ?_⟩
      · rw [len_sum, emptyS, S_len, List.length_nil, Nat.mul_zero]
        omega
      · rw [emptyS, SX.join_S, joinL_nil]
        have hpl := plain_flat fun z hz' => (hz z hz').1
        generalize zs.flatten = u at hfl hf1 hpl
        -- (text * (size // len(text) + 1))[:size]
        refine ⟨_, rfl, _, rfl, _, rfl, S u, rfl, sz (by rw [S_len]; omega), _, _, rfl, rfl, ⟨by rw [S_len]; omega, by rw [S_len]; omega⟩, _, _, rfl, rfl, ?_⟩
        rw [S_len]
        have e : (n : Int) / (u.length : Int) + 1 = ((n / u.length + 1 : Nat) : Int) := by push_cast; rfl
        have hle : n / u.length ≤ n := Nat.div_le_self _ _
        have hb : u.length * (n / u.length + 1) ≤ 36 * 201 := Nat.mul_le_mul hfl (by omega)
        refine ⟨u, n / u.length + 1, rfl, congrArg V.int e, by omega, by omega, by omega, ?_⟩
        have hr2 : (List.replicate (n / u.length + 1) u).flatten.length ≤ 36 * 201 := by
          rw [List.length_flatten]
          simp
          rw [Nat.mul_comm]
          exact hb
        refine ⟨_, rfl, (n : Int), rfl, S _, rfl, sz (by rw [S_len]; omega), ?_⟩
        rw [cut_to]
        refine q _ _ (plain_take n (plain_rep _ hpl)) ?_ g
        rw [List.length_take]
        omega
end
end Ag

end
/-! ## L4 -/
section
set_option linter.all false
set_option maxRecDepth 100000
namespace Ag
open PySem PySem.Spec PyProof.Rows L2
open SX (S S_len S_cat S_inj)
def tV : Option (List Nat) → V
  | none => .non
  | some t => .str (S t)
theorem lt_sign {c d : Nat} : decide ([c] < [d]) = decide (c < d) := by
  rw [Bool.eq_iff_iff, decide_eq_true_eq, decide_eq_true_eq, List.cons_lt_cons_iff]
  simp
theorem digitsS : (Str.ofString "0123456789").cps.toList = [48, 49, 50, 51, 52, 53, 54, 55, 56, 57] := by decide +kernel
theorem mem_digits {c : Nat} : decide (c ∈ (Str.ofString "0123456789").cps.toList) = digC c := by
  rw [digitsS, Bool.eq_iff_iff, decide_eq_true_eq]
  unfold digC
  simp
  omega
theorem zeroS : Str.ofString "0" = S [48] := by decide +kernel
theorem blankS : Str.ofString " " = S [32] := by decide +kernel
theorem tildeS : Str.ofString "~" = S [126] := by decide +kernel
theorem str_ne {a b : List Nat} {x : Str} (e : x = S b) : (!decide (V.str (S a) = V.str x)) = decide (a ≠ b) := by
  subst e
  rw [Bool.eq_iff_iff, decide_eq_true_eq, Bool.not_eq_true', decide_eq_false_iff_not]
  constructor
  · intro z w
    subst w
    exact z rfl
  · intro z w
    injection w with w
    exact z (S_inj w)
theorem str_eq {a b : List Nat} {x : Str} (e : x = S b) : decide (V.str (S a) = V.str x) = decide (a = b) := by
  subst e
  rw [Bool.eq_iff_iff, decide_eq_true_eq, decide_eq_true_eq]
  constructor
  · intro w
    injection w with w
    exact S_inj w
  · rintro rfl
    rfl
theorem one_eq {c b : Nat} : decide (([c] : List Nat) = [b]) = decide (c = b) := by simp
theorem Vd.slen {s : List Nat} {t : Option (List Nat)} (v : Vd s t) : s.length ≤ 3 := by
  cases t with
  | none =>
    rcases v with rfl | ⟨k, hk, rfl⟩
    · decide
    · exact numL_len3 hk
  | some t =>
    obtain ⟨⟨k, hk, rfl, _⟩, _⟩ := v
    exact numL_len3 hk
theorem Vd.dig {s t : List Nat} (v : Vd s (some t)) : s.all digC = true ∧ s ≠ [] ∧ t.length ≤ 200 := by
  obtain ⟨⟨k, hk, rfl, ht⟩, _⟩ := v
  have h : isDec (numL k) 200 = true := isDec_iff.mpr ⟨k, hk, rfl⟩
  exact ⟨(isDec_digs h).1, (isDec_digs h).2, by omega⟩
theorem Vd.dig0 {s : List Nat} (v : Vd s none) : s.all digC = true := by
  rcases v with rfl | ⟨k, hk, rfl⟩
  · rfl
  · exact (isDec_digs (isDec_iff.mpr ⟨k, hk, rfl⟩)).1
theorem lr_step {s : List Nat} {t : Option (List Nat)} {c : Nat} {cs : List Nat} {o : Option (List Nat)} {s' : List Nat} {t' : Option (List Nat)} (h : stp s t c = some (o, s', t')) : lr s t (c :: cs) = (lr s' t' cs).pre o.toList 1 := by
  simp only [lr, h]
theorem lr_stop {s : List Nat} {t : Option (List Nat)} {c : Nat} {cs : List Nat} (h : stp s t c = none) : lr s t (c :: cs) = .wrong [] 0 := by
  simp only [lr, h]
theorem joinIf {c : Prop} [Decidable c] {F G : VK → Prop} {Q : VK} (I : V → Hp → Prop) (h1 : c → ∀ Q' : VK, (∀ v H, I v H → Q' v H) → F Q') (h2 : ¬ c → ∀ Q' : VK, (∀ v H, I v H → Q' v H) → G Q') (k : ∀ v H, I v H → Q v H) :
    if c then F Q else G Q := by
  by_cases h : c
  · rw [if_pos h]
    exact h1 h Q k
  · rw [if_neg h]
    exact h2 h Q k
section
variable {P : Program} {w : World} {K : PySem.W.Frag} {mg : Str → Option Value} {base : Heap} {tm : Tok}
def spLread : Sp := fun vs H Q _ => ∃ (s z : List Nat) (t : Option (List Nat)), vs = [.str (S (glue s t)), .str (S z)] ∧ Vd s t ∧ z.length ≤ 50000 ∧ ∀ p H', H p = none → Same H H' → OutAt 0 (lr s t z) H' p → Q (.ref p) H'
theorem ok_lread {f : Addr} {fd : FuncData} (F : Fn K mg "_law_read" s__law_read ["_law_rest", "_law_piece"] f fd) (B : Blt mg) : FnOk P w K mg base CX0 1 f fd ["_law_rest", "_law_piece"] spLread := by
  refine F.F.ok sc__law_read (fun vs H Q E h => ?_) (fun cdv A outer s0 H vs Q E hr h => ?_)
  · obtain ⟨s, z, t, rfl, _⟩ := h
    rfl
  · obtain ⟨s, z, t, rfl, v, hz, q⟩ := h
    refine ⟨_, (pss_cons (ps_par3 (i := 2) (j := 3) (l := 4) (by rfl) sc__law_read.nd rfl rfl rfl (by decide) (by decide) (by decide) rfl rfl rfl (pa_cons (pe_lst pa_nil) (pa_cons (pe_ix ix_tup (pe_partition (pv 0) pe_str) pe_int (fun _ _ => rfl)) (pa_cons (pe_ifExp (pt_cmpR op_in_sign pe_str (pv 0) rfl) (pe_ix ix_tup (pe_partition (pv 0) pe_str) pe_int (fun _ _ => rfl)) pe_non) pa_nil))) (by rfl))
      (pss_cons (ps_for PassesOwn.never rfl (pi_enumS (by rfl) B.n_enumerate (pa_cons (pv 1) pa_nil)) (pg_tup rfl (pgs_cons (pg_name (i := 5) sc__law_read.nd rfl (Or.inl rfl)) (pgs_cons (pg_name (i := 6) sc__law_read.nd rfl (Or.inl rfl)) pgs_nil)))
      (pss_one (ps_if (pt_cmpR op_isN (pv 4) pe_non (nomark _))
        (pss_one (ps_if (PW.pt (pw_and (pt_cmpR op_eq (pv 6) pe_str (nomark _)) (pw_and1 (pt_cmpR op_ne (pv 3) pe_str (nomark _)))))
          (pss_one (ps_set (i := 4) sc__law_read.nd rfl (.inl rfl) pe_str))
          (pss_one (ps_if (PW.pt (pw_and (pt_cmpR op_in_sign (pv 6) pe_str rfl) (pw_and (pt_cmpR op_ne (pv 3) pe_str (nomark _)) (pw_and1 (pt_cmpR op_le (pe_callTy call_int_str (by rfl) B.n_int (by decide +kernel) (pa_cons (pe_op op_add_str (pv 3) (pv 6)) pa_nil)) pe_int (nomark _))))))
            (pss_one (ps_set (i := 3) sc__law_read.nd rfl (.inl rfl) (pe_op op_add_str (pv 3) (pv 6))))
            (pss_one (ps_ret (pe_tup (pa_cons pe_str (pa_cons (pe_callTy call_tuple_of (by rfl) B.n_tuple (by decide +kernel) (pa_cons (pv 2) pa_nil)) (pa_cons (pv 5) pa_nil))))))))))
        (pss_one (ps_if (pt_cmpR op_lt (pe_callB call_len_str (by rfl) B.n_len (by decide +kernel) (pa_cons (pv 4) pa_nil)) (pe_callTy call_int_str (by rfl) B.n_int (by decide +kernel) (pa_cons (pv 3) pa_nil)) (nomark _))
          (pss_cons (ps_if (pt_not (pt_chain op_le_str op_le_str pe_str (pv 6) pe_str))
            (pss_one (ps_ret (pe_tup (pa_cons pe_str (pa_cons (pe_callTy call_tuple_of (by rfl) B.n_tuple (by decide +kernel) (pa_cons (pv 2) pa_nil)) (pa_cons (pv 5) pa_nil))))))
            pss_nil)
            (pss_one (ps_set (i := 4) sc__law_read.nd rfl (.inl rfl) (pe_op op_add_str (pv 4) (pv 6)))))
          (pss_one (ps_if (pt_cmpR op_eq (pv 6) pe_str (nomark _))
            (pss_cons (ps_expr (pe_bm PySem.F.plainAttrs_list PySem.F.slot_list_append PySem.F.type_list_append mt_append (pv 2) (pa_cons (pv 4) pa_nil)))
              (pss_one (ps_asg (pe_tup (pa_cons pe_str (pa_cons pe_non pa_nil))) (pg_tup rfl (pgs_cons (pg_name (i := 3) sc__law_read.nd rfl (Or.inl rfl)) (pgs_cons (pg_name (i := 4) sc__law_read.nd rfl (Or.inl rfl)) pgs_nil))))))
            (pss_one (ps_ret (pe_tup (pa_cons pe_str (pa_cons (pe_callTy call_tuple_of (by rfl) B.n_tuple (by decide +kernel) (pa_cons (pv 2) pa_nil)) (pa_cons (pv 5) pa_nil)))))))))))))
      (pss_one (ps_ret (pe_tup (pa_cons pe_str (pa_cons (pe_callTy call_tuple_of (by rfl) B.n_tuple (by decide +kernel) (pa_cons (pv 2) pa_nil)) (pa_cons (pe_ifExp (pt_cmpR op_isN (pv 4) pe_non (nomark _)) (pv 3) (pe_op op_add_str (pe_op op_add_str (pv 3) pe_str) (pv 4))) pa_nil)))))))), ?_⟩
    have s3 : 3 ≤ sizeLine := sz (by decide)
    have hsl := v.slen
    have hrl : (glue s t).length ≤ 300 := by
      cases t with
      | none => simp only [glue]; omega
      | some t =>
        have := v.dig.2.2
        simp only [glue, List.length_append, List.length_cons]
        omega
    obtain ⟨m, em⟩ := part_S (glue s t)
    rw [(sp_glue v).1, (sp_glue v).2] at em
    -- texts, size, text
    refine ⟨Nat.zero_le _, fun L hL => ?_⟩
    refine ⟨_, rfl, ⟨_, rfl⟩, S (glue s t), Str.ofString ":", rfl, rfl, by decide +kernel, sz (by rw [S_len]; omega), fun p1 hp1 => ?_⟩
    rw [colonS, em]
    refine ⟨p1, _, _, _, rfl, rfl, SqT.of upd_same, atI_nat (j := 0) rfl, ?_⟩
    have nL1 : L ≠ p1 := fun e => by rw [← e, upd_same] at hp1; cases hp1
    have sm1 : Same H (upd (upd H L (.lst [])) p1 (.tup [.str (S s), .str m, .str (S (t.getD []))])) := (same_new hL).trans (same_new hp1)
    have hL1 : upd (upd H L (.lst [])) p1 (.tup [.str (S s), .str m, .str (S (t.getD []))]) L = some (.lst []) := by rw [upd_ne nL1, upd_same]
    generalize upd (upd H L (.lst [])) p1 (.tup [.str (S s), .str m, .str (S (t.getD []))]) = H1 at sm1 hL1
    -- the text, by two ways
    refine ⟨_, rfl, 58, _, congrArg V.str colonS, rfl, _, rfl, ?_⟩
    refine joinIf (fun v H2 => v = tV t ∧ Same H H2 ∧ H2 L = some (.lst [])) (fun hc Q' k => ?_) (fun hc Q' k => ?_) ?_
    · refine ⟨_, rfl, ⟨_, rfl⟩, S (glue s t), Str.ofString ":", rfl, rfl, by decide +kernel, sz (by rw [S_len]; omega), fun p2 hp2 => ?_⟩
      rw [colonS, em]
      have nL2 : L ≠ p2 := ne_of_none hL1 hp2
      refine ⟨p2, _, _, _, rfl, rfl, SqT.of upd_same, atI_nat (j := 2) rfl, k _ _ ⟨?_, sm1.trans (same_new hp2), by rw [upd_ne nL2]; exact hL1⟩⟩
      cases t with
      | some t => rfl
      | none =>
        have hc : 58 ∈ glue s none := of_decide_eq_true hc
        exact absurd hc v.free
    · refine k _ _ ⟨?_, sm1, hL1⟩
      cases t with
      | none => rfl
      | some t => exact absurd (decide_eq_true (by simp [glue])) hc
    rintro _ H2 ⟨rfl, sm2, hL2⟩
    -- what a return wants
    have fin : ∀ (o : Out) (ts : List (List Nat)) (H2 : Hp) (v : V) (nm : Str), Same H H2 → lr s t z = o → (∀ t p H3, H3 t = some (.tup (txs ts)) → H3 p = some (.tup [.str nm, .ref t, v]) → OutAt 0 o H3 p) →
        ∀ t, H2 t = none → ∀ p, (upd H2 t (.tup (txs ts))) p = none → Q (.ref p) (upd (upd H2 t (.tup (txs ts))) p (.tup [.str nm, .ref t, v])) := by
      intro o ts H2 v nm sm e ho t ht p hp
      have npt : t ≠ p := fun z => by rw [z, upd_same] at hp; cases hp
      refine q p _ (sm.free (by rw [upd_ne npt.symm] at hp; exact hp)) (sm.trans ((same_new ht).trans (same_new hp))) ?_
      rw [e]
      exact ho t p _ (by rw [upd_ne npt, upd_same]) upd_same
    have nL : H L = none := hL
    have hzs : (S z).cps.size = z.length := by simp
    refine ⟨_, _, _, rfl, ?_⟩
    refine ⟨_, rfl, S z, rfl, ?_⟩
    refine for_it walk_enumS (fun i σ H3 => ∃ (ts : List (List Nat)) (s' : List Nat) (t' : Option (List Nat)) (x5 x6 : Option V), σ = [some (.str (S (glue s t))), some (.str (S z)), some (.ref L), some (.str (S s')), some (tV t'), x5, x6] ∧ Same H H3 ∧
      H3 L = some (.lst (txs ts)) ∧ ts.length ≤ i ∧ Vd s' t' ∧ lr s t z = (lr s' t' (z.drop i)).pre ts i) ⟨[], s, t, none, none, rfl, sm2, hL2, Nat.le_refl _, v, by rw [List.drop_zero, Out.pre_nil]⟩ (fun _ _ _ _ _ => trivial) ?_ ?_
    · rintro i x σ H3 H4 hi ⟨ts, s', t', x5, x6, rfl, sm3, hL3, hts, v', elr⟩ ⟨T, c, rfl, hT, rfl, hc⟩
      have hi : i < z.length := by rw [← hzs]; exact hi
      have hc' : z[i]? = some c := by simpa using hc
      have hdr : z.drop i = c :: z.drop (i + 1) := by
        rw [List.drop_eq_getElem_cons hi]
        congr 1
        rw [List.getElem?_eq_getElem hi] at hc'
        exact Option.some.inj hc'
      have nLT : L ≠ T := ne_of_none hL3 hT
      have sm4 : Same H (upd H3 T (.tup [.int (i : Nat), .str (S [c])])) := sm3.trans (same_new hT)
      have hL4 : upd H3 T (.tup [.int (i : Nat), .str (S [c])]) L = some (.lst (txs ts)) := by rw [upd_ne nLT]; exact hL3
      refine ⟨T, _, rfl, SqT.of upd_same, rfl, _, _, rfl, _, _, rfl, rfl, ?_⟩
      generalize upd H3 T (.tup [.int (i : Nat), .str (S [c])]) = H5 at sm4 hL4
      have tsz : (txs ts).length ≤ 100000 := by
        unfold txs
        rw [List.length_map]
        omega
      have hsl' := v'.slen
      -- a wrong sign
      have bad : stp s' t' c = none → ∀ u, H5 u = none → ∀ p, (upd H5 u (.tup (txs ts))) p = none → Q (.ref p) (upd (upd H5 u (.tup (txs ts))) p (.tup [.str (Str.ofString "wrong"), .ref u, .int ((i : Nat) : Int)])) := by
        intro hs
        refine fin (.wrong ts i) ts H5 _ _ sm4 ?_ ?_
        · rw [elr, hdr, lr_stop hs]
          simp [Out.pre]
        · intro u p H6 h1 h2
          refine ⟨u, h1, ?_⟩
          rw [h2]
          simp
      -- the next state
      have next : ∀ (o : Option (List Nat)) (s2 : List Nat) (t2 : Option (List Nat)), stp s' t' c = some (o, s2, t2) → Vd s2 t2 ∧ lr s t z = (lr s2 t2 (z.drop (i + 1))).pre (ts ++ o.toList) (i + 1) := by
        intro o s2 t2 hs
        refine ⟨v'.step hs, ?_⟩
        rw [elr, hdr, lr_step hs, Out.pre_pre]
      cases t' with
      | none =>
        refine ⟨_, rfl, rfl, _, rfl, ?_⟩
        refine iteT ?_
        -- sign == ":" and size != ""
        refine (ans_and2 (ans_eq (val_var rfl) val_c rfl ((str_eq (a := [c]) rfl).trans one_eq)) (ans_ne (val_var rfl) val_c rfl (str_ne emptyS))) _ ?_
        have vs : s' = [] ∨ ∃ k, s' = numL k := by
          rcases v' with h | ⟨k, _, h⟩
          · exact .inl h
          · exact .inr ⟨k, h⟩
        refine ite2 (fun h1 => ?_) (fun h1 => ?_)
        · rw [Bool.and_eq_true, decide_eq_true_eq, decide_eq_true_eq] at h1
          obtain ⟨n1, n2⟩ := next none s' (some []) (by show (if c = 58 ∧ s' ≠ [] then _ else _) = _; rw [if_pos h1])
          rw [Option.toList, List.append_nil] at n2
          exact ⟨ts, s', some [], _, _, by rw [emptyS]; rfl, sm4, hL4, by omega, n1, n2⟩
        · rw [Bool.and_eq_true, decide_eq_true_eq, decide_eq_true_eq] at h1
          have hst : stp s' none c = if isDec (s' ++ [c]) 200 = true then some (none, s' ++ [c], none) else none := by
            show (if c = 58 ∧ s' ≠ [] then _ else _) = _
            rw [if_neg h1]
          have hsn := isDec_snoc (c := c) (m := 200) vs
          -- sign in digits and size != "0" and int(size + sign) <= 200
          have wrong : isDec (s' ++ [c]) 200 = false → stp s' none c = none := fun h => by rw [hst, h]; rfl
          refine ⟨_, rfl, c, _, rfl, rfl, _, rfl, ?_⟩
          rw [mem_digits]
          cases h2 : digC c with
          | false =>
            refine iteF ?_
            rw [h2, Bool.false_and, Bool.false_and] at hsn
            refine ⟨_, rfl, L, _, rfl, .inl ⟨SqL.of hL4, fun u hu => ?_⟩⟩
            exact ⟨_, rfl, s3, bad (wrong hsn) u hu⟩
          | true =>
            refine iteT ?_
            refine ⟨_, rfl, rfl, _, rfl, ?_⟩
            rw [str_ne zeroS]
            refine ite2 (fun h3 => ?_) (fun h3 => ?_)
            · rw [h2, h3, Bool.true_and, Bool.true_and] at hsn
              have hall : (s' ++ [c]).all digC = true := by rw [List.all_append, v'.dig0]; simpa using h2
              refine ⟨_, rfl, _, rfl, S s', S [c], rfl, rfl, sz (by rw [S_len, S_len]; simp; omega), ?_⟩
              rw [S_cat]
              refine ⟨_, _, rfl, int_S hall (by simp) (by simp; omega), by rw [S_len]; simp; omega, _, _, rfl, rfl, _, rfl, ?_⟩
              have e200 : decide (((digitsVal (s' ++ [c]) : Nat) : Int) ≤ 200) = decide (digitsVal (s' ++ [c]) ≤ 200) := by
                rw [Bool.eq_iff_iff, decide_eq_true_eq, decide_eq_true_eq]
                omega
              rw [e200, ← hsn]
              refine ite2 (fun h4 => ?_) (fun h4 => ?_)
              · obtain ⟨n1, n2⟩ := next none (s' ++ [c]) none (by rw [hst, if_pos h4])
                rw [Option.toList, List.append_nil] at n2
                refine ⟨_, rfl, _, rfl, S s', S [c], rfl, rfl, sz (by rw [S_len, S_len]; simp; omega), ?_⟩
                rw [S_cat]
                exact ⟨ts, s' ++ [c], none, _, _, rfl, sm4, hL4, by omega, n1, n2⟩
              · refine ⟨_, rfl, L, _, rfl, .inl ⟨SqL.of hL4, fun u hu => ?_⟩⟩
                exact ⟨_, rfl, s3, bad (wrong (Bool.eq_false_iff.mpr h4)) u hu⟩
            · have h3' : decide (s' ≠ [48]) = false := Bool.eq_false_iff.mpr h3
              rw [h3', Bool.and_false, Bool.false_and] at hsn
              refine ⟨_, rfl, L, _, rfl, .inl ⟨SqL.of hL4, fun u hu => ?_⟩⟩
              exact ⟨_, rfl, s3, bad (wrong hsn) u hu⟩
      | some t' =>
        refine ⟨_, rfl, rfl, _, rfl, ?_⟩
        refine iteF ?_
        obtain ⟨d1, d2, d3⟩ := v'.dig
        refine ⟨_, rfl, S t', rfl, sz (by rw [S_len]; omega), _, rfl, S s', _, rfl, int_S d1 d2 (by omega), by rw [S_len]; omega, _, _, rfl, rfl, _, rfl, ?_⟩
        rw [S_len]
        have hst : stp s' (some t') c = if t'.length < digitsVal s' then (if plainC c = true then some (none, s', some (t' ++ [c])) else none) else if c = 44 then some (some t', [], none) else none := rfl
        refine ite2 (fun h1 => ?_) (fun h1 => ?_)
        · have h1 : t'.length < digitsVal s' := by
            have := of_decide_eq_true h1
            omega
          rw [if_pos h1] at hst
          -- " " <= sign <= "~"
          have ep : plainC c = (!decide (c < 32) && !decide (126 < c)) := by
            unfold plainC
            rw [Bool.eq_iff_iff]
            simp
          refine ⟨_, rfl, _, S [c], rfl, rfl, _, rfl, ?_⟩
          rw [blankS, show (S [c]).cps.toList = [c] from rfl, show (S [32]).cps.toList = [32] from rfl, lt_sign]
          have wrong : plainC c = false → stp s' (some t') c = none := fun h => by rw [hst, h]; rfl
          cases h2 : decide (c < 32) with
          | true =>
            rw [h2] at ep
            refine iteF ?_
            refine ⟨_, rfl, iteT ?_⟩
            refine ⟨_, rfl, L, _, rfl, .inl ⟨SqL.of hL4, fun u hu => ?_⟩⟩
            exact ⟨_, rfl, s3, bad (wrong (by rw [ep]; rfl)) u hu⟩
          | false =>
            rw [h2] at ep
            refine iteT ?_
            refine ⟨_, S _, rfl, congrArg V.str tildeS, _, rfl, ?_⟩
            rw [show (S [126]).cps.toList = [126] from rfl, lt_sign]
            cases h3 : decide (126 < c) with
            | true =>
              rw [h3] at ep
              refine iteT ?_
              refine ⟨_, rfl, L, _, rfl, .inl ⟨SqL.of hL4, fun u hu => ?_⟩⟩
              exact ⟨_, rfl, s3, bad (wrong (by rw [ep]; rfl)) u hu⟩
            | false =>
              rw [h3] at ep
              refine iteF ?_
              obtain ⟨n1, n2⟩ := next none s' (some (t' ++ [c])) (by rw [hst, ep]; rfl)
              rw [Option.toList, List.append_nil] at n2
              refine ⟨_, rfl, _, rfl, S t', S [c], rfl, rfl, sz (by rw [S_len, S_len]; simp; omega), ?_⟩
              rw [S_cat]
              exact ⟨ts, s', some (t' ++ [c]), _, _, rfl, sm4, hL4, by omega, n1, n2⟩
        · have h1 : ¬ t'.length < digitsVal s' := fun z => h1 (decide_eq_true (by omega))
          rw [if_neg h1] at hst
          refine ⟨_, rfl, rfl, _, rfl, ?_⟩
          rw [show decide (V.str ⟨#[c]⟩ = V.str (Str.ofString ",")) = decide (c = 44) from (str_eq (a := [c]) commaS).trans one_eq]
          refine ite2 (fun h2 => ?_) (fun h2 => ?_)
          · have h2 : c = 44 := of_decide_eq_true h2
            obtain ⟨n1, n2⟩ := next (some t') [] none (by rw [hst, if_pos h2])
            refine ⟨_, rfl, .inl ⟨rfl, _, SqL.of hL4⟩, _, rfl, L, _, _, rfl, rfl, hL4, Nat.lt_of_le_of_lt tsz (by decide), ?_⟩
            refine ⟨by show 2 ≤ sizeLine; decide, fun q1 hq1 => ⟨q1, _, rfl, SqT.of upd_same, rfl, _, _, rfl, _, _, rfl, rfl, ?_⟩⟩
            have nLq : L ≠ q1 := fun e => by rw [← e, upd_same] at hq1; cases hq1
            refine ⟨ts ++ [t'], [], none, _, _, by rw [emptyS]; rfl, fun b o e => ?_, ?_, by simp; omega, n1, n2⟩
            · have nq : H q1 = none := by
                cases e' : H q1 with
                | none => rfl
                | some o' =>
                  have := sm4 _ _ e'
                  rw [upd_ne nLq.symm, this] at hq1
                  cases hq1
              rw [upd_ne (ne_of_none e nq), upd_ne (ne_of_none e nL)]
              exact sm4 b o e
            · rw [upd_ne nLq, upd_same]
              unfold txs
              rw [List.map_append]
              rfl
          · refine ⟨_, rfl, L, _, rfl, .inl ⟨SqL.of hL4, fun u hu => ?_⟩⟩
            exact ⟨_, rfl, s3, bad (by rw [hst, if_neg (fun z => h2 (decide_eq_true z))]) u hu⟩
    · rintro σ H3 ⟨ts, s', t', x5, x6, rfl, sm3, hL3, hts, v', elr⟩
      rw [hzs] at hts elr
      rw [List.drop_length] at elr
      have hsl' := v'.slen
      refine ⟨_, rfl, L, _, rfl, .inl ⟨SqL.of hL3, fun u hu => ?_⟩⟩
      have done : ∀ p, (upd H3 u (.tup (txs ts))) p = none → Q (.ref p) (upd (upd H3 u (.tup (txs ts))) p (.tup [.str (Str.ofString "read"), .ref u, .str (S (glue s' t'))])) := by
        refine fin (.read ts (glue s' t')) ts H3 _ _ sm3 ?_ ?_ u hu
        · rw [elr]
          simp [lr, Out.pre]
        · intro u p H6 h1 h2
          exact ⟨u, h1, h2⟩
      cases t' with
      | none =>
        refine ⟨_, rfl, rfl, _, rfl, ?_⟩
        exact iteT ⟨_, rfl, s3, done⟩
      | some t' =>
        have d3 := v'.dig.2.2
        refine ⟨_, rfl, rfl, _, rfl, ?_⟩
        refine iteF ?_
        refine ⟨_, rfl, _, _, rfl, rfl, sz (by rw [S_len, S_len]; simp; omega), ?_⟩
        rw [S_cat]
        refine ⟨_, rfl, _, _, rfl, rfl, sz (by rw [S_len, S_len]; simp; omega), ?_⟩
        rw [S_cat, List.append_assoc]
        exact ⟨s3, done⟩
end
end Ag

end
/-! ## L5 -/
section
set_option linter.all false
set_option maxRecDepth 100000
namespace Ag
open PySem PySem.Spec PyProof.Rows L2
open SX (S S_len S_cat S_inj)
theorem chars_txs (z : List Nat) : chars z = txs (z.map fun c => [c]) := by
  unfold chars txs
  rw [List.map_map]
  rfl
theorem flat_ones (z : List Nat) : (z.map fun c => [c]).flatten = z := by
  induction z with
  | nil => rfl
  | cons c z ih =>
    rw [List.map_cons, List.flatten_cons, ih]
    rfl
theorem take_cut {z : List Nat} {a b : Nat} (h : a ≤ b) : z.take a ++ (z.drop a).take (b - a) = z.take b := by
  conv => rhs; rw [show b = a + (b - a) by omega]
  rw [List.take_add]
theorem testIf {t : TT} {σ : L2.St} {H : Hp} {Q : Bool → Hp → Prop} (I : Bool → Hp → Prop) (h : ∀ Q' : Bool → Hp → Prop, (∀ b H', I b H' → Q' b H') → t σ H Q') (k : ∀ b H', I b H' → Q b H') : t σ H Q := h Q k
theorem ite3 {b : Bool} {A B : Prop} (h1 : A) (h2 : B) : if b = true then A else B := by
  cases b
  · exact iteF h2
  · exact iteT h1
section
variable {P : Program} {w : World} {K : PySem.W.Frag} {mg : Str → Option Value} {base : Heap} {tm : Tok}
def spPieces : Sp := fun vs H Q _ => ∃ (p c : Addr) (z : List Nat), vs = [.ref p, .str (S z)] ∧ Dk p c H ∧ z.length ≤ 40000 ∧ ∀ (a : Addr) (ps : List (List Nat)) H', H a = none → H' a = some (.lst (txs ps)) → ps.flatten = z → ps.length ≤ 40000 → Gx p c H H' → Q (.ref a) H'
theorem ok_pieces {f f1 : Addr} {fd fd1 : FuncData} (F : Fn K mg "_law_pieces" s__law_pieces ["_law_deck_here", "_law_stream"] f fd) (B : Blt mg) (F__law_draw : Fn K mg "_law_draw" s__law_draw ["_law_deck_here", "_law_below"] f1 fd1)
    (G__law_draw : FnOk P w K mg base CX0 1 f1 fd1 ["_law_deck_here", "_law_below"] spDraw) : FnOk P w K mg base CX0 2 f fd ["_law_deck_here", "_law_stream"] spPieces := by
  refine F.F.ok sc__law_pieces (fun vs H Q E h => ?_) (fun cdv A outer s0 H vs Q E hr h => ?_)
  · obtain ⟨p, c, z, rfl, _⟩ := h
    rfl
  · obtain ⟨p, c, z, rfl, dk, hz, q⟩ := h
    refine ⟨_, (pss_cons (ps_if (PW.pt (pw_and (pt_cmpR op_lt (pe_callB call_len_str (by rfl) B.n_len (by decide +kernel) (pa_cons (pv 1) pa_nil)) pe_int (nomark _)) (pw_and1 (pt_cmpR op_eq (pe_call G__law_draw (hr.mono (by decide)) (by rfl) F__law_draw.g F__law_draw.F.kp F__law_draw.b .nil pass0 (pa_cons (pv 0) (pa_cons pe_int pa_nil))) pe_int (nomark _)))))
      (pss_one (ps_ret (pe_callTy (call_list_S rfl) (by rfl) B.n_list (by decide +kernel) (pa_cons (pv 1) pa_nil))))
      pss_nil)
      (pss_cons (ps_par (i := 2) (j := 3) (by rfl) sc__law_pieces.nd rfl rfl (by decide) rfl rfl (pa_cons (pe_lst pa_nil) (pa_cons pe_int pa_nil)) (by rfl))
      (pss_cons (ps_for PassesOwn.never rfl (pi_list (pe_callB cr_sortedI (by rfl) B.n_sorted (by decide +kernel) (pa_cons (pe_lc (own := [("_law_go", 5)]) rfl sc__law_pieces.nd (pi_range1 (by rfl) B.n_range (pa_cons (pe_call G__law_draw (hr.mono (by decide)) (by rfl) F__law_draw.g F__law_draw.F.kp F__law_draw.b .nil pass0 (pa_cons (pv 0) (pa_cons pe_int pa_nil))) pa_nil)) (blkOk_by (N := N__law_pieces) (sc := defScope s__law_pieces) (by decide +kernel)) (fun _ _ _ _ _ => (pg_name (i := 5) sc__law_pieces.nd rfl (Or.inl rfl))) (fun _ _ _ _ _ => pts_nil) (fun _ _ _ _ _ => (pe_call G__law_draw (hr.mono (by decide)) (by rfl) F__law_draw.g F__law_draw.F.kp F__law_draw.b .nil pass0 (pa_cons (pv 0) (pa_cons (pe_op op_add (pe_callB call_len_str (by rfl) B.n_len (by decide +kernel) (pa_cons (pv 1) pa_nil)) pe_int) pa_nil))))) pa_nil))) (pg_name (i := 4) sc__law_pieces.nd rfl (Or.inl rfl))
      (pss_cons (ps_expr (pe_bm PySem.F.plainAttrs_list PySem.F.slot_list_append PySem.F.type_list_append mt_append (pv 2) (pa_cons (pe_slice sl_str (pv 1) (po_some (pv 3)) (po_some (pv 4))) pa_nil)))
        (pss_one (ps_set (i := 3) sc__law_pieces.nd rfl (.inl rfl) (pv 4)))))
      (pss_one (ps_ret (pe_op op_cat (pv 2) (pe_lst (pa_cons (pe_slice sl_str (pv 1) (po_some (pv 3)) po_none) pa_nil)))))))), ?_⟩
    show tAnd (tTest _) (tTest _) _ _ _
    refine testIf (fun _ H1 => Gx p c H H1) (fun Q' k => ?_) (fun b H1 g1 => ?_)
    · refine ⟨_, rfl, S z, rfl, sz (by rw [S_len]; omega), _, _, rfl, rfl, _, rfl, ?_⟩
      refine ite3 ?_ (k _ _ (Gx.refl dk))
      refine ⟨_, rfl, p, c, 4, rfl, dk, by decide, by decide, fun r H2 _ g2 => ?_⟩
      exact ⟨rfl, _, rfl, k _ _ g2⟩
    refine ite3 ?_ ?_
    · refine ⟨_, rfl, z, rfl, by omega, fun a ha => ?_⟩
      rw [chars_txs]
      exact q a _ _ (g1.free dk ha) upd_same (flat_ones z) (by rw [List.length_map]; exact hz) (g1.trans (Gx.new g1.2 ha))
    -- found, last
    refine ⟨Nat.zero_le _, fun F1 hF1 => ?_⟩
    refine ⟨_, _, rfl, ?_⟩
    have nF := g1.2.ne hF1
    have hF0 := g1.free dk hF1
    have g2 := g1.trans (Gx.new (o := .lst []) g1.2 hF1)
    have hF2 : upd H1 F1 (.lst []) F1 = some (.lst (txs [])) := upd_same
    generalize upd H1 F1 (.lst []) = H2 at g2 hF2
    -- the drawn cuts
    refine ⟨_, rfl, p, c, 7, rfl, g2.2, by decide, by decide, fun m H3 hm g3 => ?_⟩
    refine ⟨_, rfl, by omega, by omega, fun D hD => ?_⟩
    have g23 := g2.trans g3
    have nD := g23.2.ne hD
    have hD0 := g23.free dk hD
    have hF3 := g3.1 F1 _ nF.1 nF.2 hF2
    have nFD : F1 ≠ D := ne_of_none hF3 hD
    refine lc_all (walk_range (lo := 0) (n := (m : Int).toNat)) (fun H' => Gx p c H H' ∧ H' F1 = some (.lst (txs []))) (fun _ y => ∃ r : Nat, r ≤ z.length ∧ y = .int (r : Int)) (by omega) ⟨g23, hF3⟩ (fun H' o g => ⟨g.1.put dk hD0 nD, by rw [upd_ne nFD]; exact g.2⟩) (fun _ _ => trivial) ?_ ?_
    · rintro i x Ha Hb xs k hi ⟨g, hF⟩ hxs ⟨rfl, rfl⟩ hk
      refine ⟨rfl, _, rfl, _, rfl, S z, rfl, sz (by rw [S_len]; omega), _, _, rfl, rfl, p, c, _, rfl, g.2, by rw [S_len]; omega, by rw [S_len]; omega, fun r H8 hr8 g8 => ?_⟩
      rw [S_len] at hr8
      exact hk _ _ ⟨r, by omega, rfl⟩ ⟨g.trans g8, g8.1 F1 _ nF.1 nF.2 hF⟩ (g8.1 D _ nD.1 nD.2 hxs)
    · intro H' xs hl hv ⟨g, hF⟩ hxs
      -- the list of the cuts, as ints
      obtain ⟨rs, rfl, hrs⟩ : ∃ rs : List Nat, xs = (rs.map (fun r : Nat => (r : Int))).map V.int ∧ ∀ r ∈ rs, r ≤ z.length := by
        clear hl hxs
        induction xs with
        | nil => exact ⟨[], rfl, fun _ h => by cases h⟩
        | cons x xs ih =>
          obtain ⟨r, hr, rfl⟩ := hv 0 x rfl
          obtain ⟨rs, rfl, hp⟩ := ih fun i y hy => hv (i + 1) y (by simpa using hy)
          refine ⟨r :: rs, rfl, fun u hu => ?_⟩
          rcases List.mem_cons.mp hu with rfl | hu
          · exact hr
          · exact hp u hu
      have hrl : rs.length ≤ 7 := by
        simp at hl
        omega
      refine ⟨D, _, rfl, SqL.of hxs, fun ns' u perm rising hu => ?_⟩
      have nu := g.2.ne hu
      have nuF : F1 ≠ u := ne_of_none hF hu
      have hln : ns'.length ≤ 7 := by rw [perm.length_eq, List.length_map]; exact hrl
      have hns : ∀ n ∈ ns', ∃ r : Nat, n = (r : Int) ∧ r ≤ z.length := fun n hn => by
        obtain ⟨r, hr, rfl⟩ := List.mem_map.mp (perm.mem_iff.mp hn)
        exact ⟨r, rfl, hrs r hr⟩
      refine ⟨u, rfl, ⟨_, SqL.of upd_same⟩, ?_⟩
      refine for_list (K := K) (a := u) (xs := ns'.map V.int) (fun i σ H9 => ∃ (last : Nat) (fs : List (List Nat)) (x4 : Option V), σ = [some (.ref p), some (.str (S z)), some (.ref F1), some (.int (last : Int)), x4, none] ∧ Gx p c H H9 ∧ H9 u = some (.lst (ns'.map V.int)) ∧
        H9 F1 = some (.lst (txs fs)) ∧ fs.length = i ∧ last ≤ z.length ∧ fs.flatten = z.take last ∧ ∀ n ∈ ns'.drop i, (last : Int) ≤ n)
        ⟨0, [], none, rfl, g.trans (Gx.new g.2 hu), upd_same, by rw [upd_ne nuF]; exact hF, rfl, Nat.zero_le _, rfl, fun n hn => ?_⟩ (fun i σ H9 _ z => ?_) ?_ ?_
      · obtain ⟨r, rfl, _⟩ := hns n hn
        omega
      · obtain ⟨_, _, _, _, _, e, _⟩ := z
        exact SqL.of e
      · rintro i x σ H9 hx ⟨last, fs, x4, rfl, g9, hu9, hF9, hfl, hlast, hflat, hmin⟩
        obtain ⟨n, hn, rfl⟩ := int_at hx
        have hi : i < ns'.length := (List.getElem?_eq_some_iff.mp hn).1
        obtain ⟨r, rfl, hr⟩ := hns n (List.mem_of_getElem? hn)
        have hdr : ns'.drop i = (r : Int) :: ns'.drop (i + 1) := by
          rw [List.drop_eq_getElem_cons hi]
          congr 1
          rw [List.getElem?_eq_getElem hi] at hn
          exact Option.some.inj hn
        have hle : last ≤ r := by
          have := hmin r (by rw [hdr]; exact List.mem_cons_self)
          omega
        refine ⟨_, rfl, .inl ⟨rfl, _, SqL.of hF9⟩, _, rfl, _, rfl, (last : Int), rfl, _, rfl, (r : Int), rfl, S z, rfl, sz (by rw [S_len]; omega), ?_⟩
        rw [cut_S hlast]
        refine ⟨F1, _, _, rfl, rfl, hF9, ?_, ?_⟩
        · unfold txs
          rw [List.length_map, sizeLine_eq]
          omega
        refine ⟨_, rfl, r, fs ++ [(z.drop last).take (r - last)], _, rfl, g9.put dk hF0 nF, ?_, ?_, by simp; omega, hr, ?_, ?_⟩
        · rw [upd_ne nuF.symm]
          exact hu9
        · rw [upd_same]
          unfold txs
          rw [List.map_append]
          rfl
        · rw [List.flatten_append, hflat, List.flatten_singleton, take_cut hle]
        · intro n hn'
          have hp : (ns'.drop i).Pairwise (· ≤ ·) := rising.sublist (List.drop_sublist i ns')
          rw [hdr, List.pairwise_cons] at hp
          exact hp.1 n hn'
      · rintro σ H9 ⟨last, fs, x4, rfl, g9, hu9, hF9, hfl, hlast, hflat, _⟩
        rw [List.length_map] at hfl
        refine ⟨_, rfl, _, rfl, _, rfl, (last : Int), rfl, S z, rfl, sz (by rw [S_len]; omega), ?_⟩
        rw [cut_from hlast]
        refine ⟨by show 1 ≤ sizeLine; decide, fun b hb => ?_⟩
        have nFb : F1 ≠ b := ne_of_none hF9 hb
        have gb := g9.trans (Gx.new (o := .lst [.str (S (z.drop last))]) g9.2 hb)
        refine ⟨F1, b, txs fs, [.str (S (z.drop last))], rfl, rfl, ?_, upd_same, ?_, fun a ha => ?_⟩
        · rw [upd_ne nFb]
          exact hF9
        · unfold txs
          rw [List.length_map, sizeLine_eq]
          show fs.length + 1 ≤ _
          omega
        · have ha0 := gb.free dk ha
          refine q a (fs ++ [z.drop last]) _ ha0 ?_ ?_ (by simp; omega) (gb.trans (Gx.new gb.2 ha))
          · rw [upd_same]
            unfold txs
            rw [List.map_append]
            rfl
          · rw [List.flatten_append, hflat, List.flatten_singleton, List.take_append_drop]
end
end Ag

end
/-! ## L6 -/
section
set_option linter.all false
set_option maxRecDepth 100000
namespace Ag
open PySem PySem.Spec PyProof.Rows L2
open SX (S S_len S_cat S_inj)
/-- a comprehension with a test: R stays, each item is as v says -/
theorem lc_some {J : It} {n : Nat} {G : Hp → Prop} {Y : Nat → Hp → V → Hp → Prop} (w : Walk J n G Y) {g : TG} {tt : TT} {te : TE} {vs : List Nat} {σ : L2.St} {H1 : Hp} {D : Addr} {Qd : Hp → Prop} (R : Hp → Prop) (v : V → Prop) (hn : n ≤ 16000000) (r0 : R H1) (rD : ∀ H o, R H → R (upd H D o)) (hG : ∀ H, R H → G H)
    (hs : ∀ i x H H' xs (k : VK) (k0 : Hp → Prop), i < n → R H → H D = some (.lst xs) → Y i H x H' → (∀ y H4, v y → R H4 → H4 D = some (.lst xs) → k y H4) → (∀ H4, R H4 → H4 D = some (.lst xs) → k0 H4) →
      g x (wipe σ vs) H' fun σ2 H2 => wipe σ2 vs = wipe σ vs ∧ tt σ2 H2 fun b H3 => if b = true then te σ2 H3 k else k0 H3)
    (hd : ∀ H xs, xs.length ≤ n → (∀ y ∈ xs, v y) → R H → H D = some (.lst xs) → Qd H) :
    ∃ W : Nat → Nat → Hp → Prop, (∃ m, W 0 m (upd H1 D (.lst []))) ∧ ∀ i m H, W i m H →
      (J.stop i H ∧ Qd H) ∨ (J.go i H ∧ ∃ Nx : Hp → Prop, (∀ H', Nx H' → ∃ m', m' < m ∧ W (i + 1) m' H') ∧ ∀ x H', J.yld i H x H' → g x (wipe σ vs) H' fun σ2 H2 => wipe σ2 vs = wipe σ vs ∧ tt σ2 H2 fun b H3 =>
        if b = true then te σ2 H3 fun y H4 => ∃ acc, H4 D = some (.lst acc) ∧ acc.length < sizeLine ∧ Nx (upd H4 D (.lst (acc ++ [y]))) else Nx H3) := by
  refine lc_it (g := g) (tt := tt) (te := te) (vs := vs) (σ := σ) w (fun i H => ∃ xs : List V, xs.length ≤ i ∧ (∀ y ∈ xs, v y) ∧ R H ∧ H D = some (.lst xs)) ⟨[], Nat.le_refl _, fun y h => by simp at h, rD _ _ r0, upd_same⟩ (fun i H hi p => ?_) (fun i x H H' hi p hy => ?_) (fun H p => ?_)
  · obtain ⟨xs, _, _, r, _⟩ := p
    exact hG H r
  · obtain ⟨xs, hl, hv, r, hD⟩ := p
    refine hs i x H H' xs _ _ hi r hD hy ?_ ?_
    · rintro y H4 hvy r4 h4
      refine ⟨xs, h4, ?_, xs ++ [y], by simp; omega, fun z hz => ?_, rD _ _ r4, upd_same⟩
      · rw [sizeLine_eq]; omega
      · rcases List.mem_append.mp hz with hz | hz
        · exact hv z hz
        · rw [List.mem_singleton.mp hz]
          exact hvy
    · rintro H4 r4 h4
      exact ⟨xs, by omega, hv, r4, h4⟩
  · obtain ⟨xs, hl, hv, r, hD⟩ := p
    exact hd H xs hl hv r hD
theorem ints_mem : ∀ {xs : List V}, (∀ y ∈ xs, ∃ r : Nat, y = V.int (r : Int)) → ∃ rs : List Int, xs = rs.map V.int ∧ ∀ r ∈ rs, 0 ≤ r
  | [], _ => ⟨[], rfl, fun _ h => by cases h⟩
  | x :: xs, h => by
    obtain ⟨r, rfl⟩ := h x List.mem_cons_self
    obtain ⟨rs, rfl, hp⟩ := ints_mem (xs := xs) fun y hy => h y (List.mem_cons_of_mem _ hy)
    refine ⟨(r : Int) :: rs, rfl, fun u hu => ?_⟩
    rcases List.mem_cons.mp hu with rfl | hu
    · omega
    · exact hp u hu
def asc (l : List Nat) : Prop := ∀ c ∈ l, c < 128
theorem asc_app {a b : List Nat} (h : asc a) (k : asc b) : asc (a ++ b) := fun c hc => (List.mem_append.mp hc).elim (h c) (k c)
theorem asc_plain {l : List Nat} (h : plainL l = true) : asc l := fun c hc => by
  unfold plainL at h
  rw [List.all_eq_true] at h
  have := h c hc
  simp [plainC] at this
  omega
theorem cut_any {z : List Nat} (h : asc z) (lo hi : Option Int) : ∃ l, cutS (S z) lo hi = S l ∧ asc l ∧ l.length ≤ z.length := by
  refine ⟨_, rfl, fun c hc => h c (List.mem_of_mem_drop (List.mem_of_mem_take hc)), ?_⟩
  rw [List.length_take, List.length_drop]
  have : (S z).cps.toList.length = z.length := rfl
  omega
theorem lf10 : (Str.ofString "\n") = S [10] := by decide +kernel
section
variable {P : Program} {w : World} {K : PySem.W.Frag} {mg : Str → Option Value} {base : Heap} {tm : Tok}
def spSpoiled : Sp := fun vs H Q _ => ∃ (p c : Addr) (z : List Nat), vs = [.ref p, .str (S z)] ∧ Dk p c H ∧ asc z ∧ z.length ≤ 20000 ∧ ∀ (l : List Nat) H', asc l → l.length ≤ 4 * z.length + 1 → Gx p c H H' → Q (.str (S l)) H'
theorem ok_spoiled {f f1 f2 f3 : Addr} {fd fd1 fd2 fd3 : FuncData} (F : Fn K mg "_law_spoiled" s__law_spoiled ["_law_deck_here", "_law_stream"] f fd) (B : Blt mg) (F__law_draw : Fn K mg "_law_draw" s__law_draw ["_law_deck_here", "_law_below"] f1 fd1)
    (G__law_draw : FnOk P w K mg base CX0 1 f1 fd1 ["_law_deck_here", "_law_below"] spDraw) (F__law_pick : Fn K mg "_law_pick" s__law_pick ["_law_deck_here", "_law_some"] f2 fd2) (G__law_pick : FnOk P w K mg base CX0 2 f2 fd2 ["_law_deck_here", "_law_some"] spPick)
    (F__law_signs : Fn K mg "_law_signs" s__law_signs [] f3 fd3) : FnOk P w K mg base CX0 3 f fd ["_law_deck_here", "_law_stream"] spSpoiled := by
  have G__law_signs : FnOk P w K mg base CX0 1 f3 fd3 [] spSigns := ok_signs F__law_signs
  refine F.F.ok sc__law_spoiled (fun vs H Q E h => ?_) (fun cdv A outer s0 H vs Q E hr h => ?_)
  · obtain ⟨p, c, z, rfl, _⟩ := h
    rfl
  · obtain ⟨p, c, z, rfl, dk, hasc, hz, q⟩ := h
    refine ⟨_, (pss_cons (ps_par3 (i := 2) (j := 3) (l := 4) (by rfl) sc__law_spoiled.nd rfl rfl rfl (by decide) (by decide) (by decide) rfl rfl rfl (pa_cons (pe_call G__law_draw (hr.mono (by decide)) (by rfl) F__law_draw.g F__law_draw.F.kp F__law_draw.b .nil pass0 (pa_cons (pv 0) (pa_cons pe_int pa_nil))) (pa_cons (pe_call G__law_draw (hr.mono (by decide)) (by rfl) F__law_draw.g F__law_draw.F.kp F__law_draw.b .nil pass0 (pa_cons (pv 0) (pa_cons (pe_op op_add (pe_callB call_len_str (by rfl) B.n_len (by decide +kernel) (pa_cons (pv 1) pa_nil)) pe_int) pa_nil))) (pa_cons (pe_call G__law_draw (hr.mono (by decide)) (by rfl) F__law_draw.g F__law_draw.F.kp F__law_draw.b .nil pass0 (pa_cons (pv 0) (pa_cons (pe_op op_add (pe_callB call_len_str (by rfl) B.n_len (by decide +kernel) (pa_cons (pv 1) pa_nil)) pe_int) pa_nil))) pa_nil))) (by rfl))
      (pss_cons (ps_setLc (i := 5) (own := [("_law_spot", 7), ("_law_sign", 6)]) rfl sc__law_spoiled.nd rfl rfl (sw_true rfl rfl rfl (by decide +kernel)) (pi_enumS (by rfl) B.n_enumerate (pa_cons (pv 1) pa_nil)) (blkOk_by (N := N__law_spoiled) (sc := defScope s__law_spoiled) (by decide +kernel)) (fun _ _ _ _ _ => pg_two (i := 7) (j := 6) K rfl sc__law_spoiled.nd rfl rfl rfl rfl rfl) (fun _ _ _ _ _ => (pts_one (pt_cmpR op_in_sign (pv 6) pe_str rfl))) (fun _ _ _ _ _ => (pv 7)))
      (C8.pss_cut (ps_if (PW.pt (pw_and (pt_cmpR op_gt (pv 2) pe_int (nomark _)) (pw_and1 (pt_cmpR (op_neD hr.units) (pv 5) (pe_lst pa_nil) (nomark _)))))
      (pss_one (ps_set (i := 3) sc__law_spoiled.nd rfl (.inl rfl) (pe_callB (call_max2 rfl) (by rfl) B.n_max (by decide +kernel) (pa_cons pe_int (pa_cons (pe_op op_sub (pe_call G__law_pick (hr.mono (by decide)) (by rfl) F__law_pick.g F__law_pick.F.kp F__law_pick.b .nil pass0 (pa_cons (pv 0) (pa_cons (pv 5) pa_nil))) (pe_call G__law_draw (hr.mono (by decide)) (by rfl) F__law_draw.g F__law_draw.F.kp F__law_draw.b .nil pass0 (pa_cons (pv 0) (pa_cons pe_int pa_nil)))) pa_nil)))))
      pss_nil)
      (pss_cons (ps_set (i := 6) sc__law_spoiled.nd rfl (.inl rfl) (pe_call G__law_pick (hr.mono (by decide)) (by rfl) F__law_pick.g F__law_pick.F.kp F__law_pick.b .nil pass0 (pa_cons (pv 0) (pa_cons (pe_lst (pa_cons pe_str (pa_cons pe_str (pa_cons pe_str (pa_cons pe_str (pa_cons pe_str (pa_cons pe_str (pa_cons pe_str (pa_cons pe_str (pa_cons pe_str (pa_cons pe_str (pa_cons (pe_call G__law_pick (hr.mono (by decide)) (by rfl) F__law_pick.g F__law_pick.F.kp F__law_pick.b .nil pass0 (pa_cons (pv 0) (pa_cons (pe_call0 G__law_signs (hr.mono (by decide)) (by rfl) F__law_signs.g F__law_signs.F.kp F__law_signs.b .nil pass0) pa_nil))) pa_nil)))))))))))) pa_nil))))
      (pss_cons (ps_if (pt_cmpR op_in_seq (pv 2) (pe_tup (pa_cons pe_int (pa_cons pe_int pa_nil))) rfl)
      (pss_one (ps_ret (pe_op op_add_str (pe_op op_add_str (pe_slice sl_str (pv 1) po_none (po_some (pv 3))) (pv 6)) (pe_slice sl_str (pv 1) (po_some (pv 3)) po_none))))
      pss_nil)
      (pss_cons (ps_if (pt_cmpR op_in_seq (pv 2) (pe_tup (pa_cons pe_int (pa_cons pe_int pa_nil))) rfl)
      (pss_one (ps_ret (pe_op op_add_str (pe_slice sl_str (pv 1) po_none (po_some (pv 3))) (pe_slice sl_str (pv 1) (po_some (pe_op op_add (pv 3) pe_int)) po_none))))
      pss_nil)
      (pss_cons (ps_if (pt_cmpR op_in_seq (pv 2) (pe_tup (pa_cons pe_int (pa_cons pe_int pa_nil))) rfl)
      (pss_one (ps_ret (pe_op op_add_str (pe_op op_add_str (pe_slice sl_str (pv 1) po_none (po_some (pv 3))) (pv 6)) (pe_slice sl_str (pv 1) (po_some (pe_op op_add (pv 3) pe_int)) po_none))))
      pss_nil)
      (pss_cons (ps_if (pt_cmpR op_eq (pv 2) pe_int (nomark _))
      (pss_one (ps_ret (pe_op op_add_str (pe_op op_add_str (pe_slice sl_str (pv 1) po_none (po_some (pv 3))) (pe_slice sl_str (pe_slice sl_str (pv 1) (po_some (pe_callB (call_min2 rfl) (by rfl) B.n_min (by decide +kernel) (pa_cons (pv 3) (pa_cons (pv 4) pa_nil)))) (po_some (pe_callB (call_max2 rfl) (by rfl) B.n_max (by decide +kernel) (pa_cons (pv 3) (pa_cons (pv 4) pa_nil))))) po_none (po_some pe_int))) (pe_slice sl_str (pv 1) (po_some (pv 3)) po_none))))
      pss_nil)
      (pss_one (ps_ret (pe_op op_add_str (pe_op op_add_str (pe_op op_add_str (pe_slice sl_str (pv 1) po_none (po_some (pv 3))) (pe_slice sl_str (pv 1) (po_some (pe_op op_add (pv 3) pe_int)) (po_some (pe_op op_add (pv 3) pe_int)))) (pe_slice sl_str (pv 1) (po_some (pv 3)) (po_some (pe_op op_add (pv 3) pe_int)))) (pe_slice sl_str (pv 1) (po_some (pe_op op_add (pv 3) pe_int)) po_none)))))))))))), ?_⟩
    have zl : (S z).length = z.length := S_len z
    -- way, at, other
    refine ⟨_, rfl, p, c, 8, rfl, dk, by decide, by decide, fun way H1 hway g1 => ?_⟩
    refine ⟨_, rfl, _, rfl, S z, rfl, sz (by rw [zl]; omega), _, _, rfl, rfl, p, c, _, rfl, g1.2, by rw [zl]; omega, by rw [zl]; omega, fun at0 H2 hat g2 => ?_⟩
    refine ⟨_, rfl, _, rfl, S z, rfl, sz (by rw [zl]; omega), _, _, rfl, rfl, p, c, _, rfl, g2.2, by rw [zl]; omega, by rw [zl]; omega, fun oth H3 hoth g3 => ?_⟩
    have g := (g1.trans g2).trans g3
    refine ⟨_, _, _, rfl, ?_⟩
    -- spots
    refine ⟨_, rfl, S z, rfl, fun D hD => ?_⟩
    have nD := g.2.ne hD
    have hD0 := g.free dk hD
    have hzs : (S z).cps.size = z.length := by simp
    refine lc_some walk_enumS (fun H' => Gx p c H H') (fun y => ∃ r : Nat, y = .int (r : Int)) (by rw [hzs]; omega) g (fun H' o g => g.put dk hD0 nD) (fun _ _ => trivial) ?_ ?_
    · rintro i x Ha Hb xs k k0 hi g hxs ⟨T, d, rfl, hT, rfl, hd⟩ hk hk0
      have nT := g.2.ne hT
      have nDT : D ≠ T := ne_of_none hxs hT
      have gT := g.trans (Gx.new (o := .tup [.int (i : Nat), .str ⟨#[d]⟩]) g.2 hT)
      refine ⟨T, _, rfl, SqT.of upd_same, rfl, _, _, rfl, _, _, rfl, rfl, rfl, ?_⟩
      refine ⟨_, rfl, d, _, rfl, rfl, _, rfl, ?_⟩
      refine ite3 ?_ (hk0 _ gT (by rw [upd_ne nDT]; exact hxs))
      exact ⟨_, rfl, hk _ _ ⟨i, rfl⟩ gT (by rw [upd_ne nDT]; exact hxs)⟩
    · intro H4 spots hsl hsv g4 hspots
      have aspots : At p c H4 D (.lst spots) := ⟨nD.1, nD.2, hspots⟩
      -- at
      refine ⟨fun σ H' => ∃ a : Int, 0 ≤ a ∧ σ = [some (.ref p), some (.str (S z)), some (.int (way : Int)), some (.int a), some (.int (oth : Int)), some (.ref D), none, none] ∧ Gx p c H H', ?_, ?_⟩
      · show tAnd (tTest _) (tTest _) _ _ _
        refine testIf (fun b H5 => (b = true → spots ≠ []) ∧ Gx p c H H5 ∧ At p c H5 D (.lst spots)) (fun Q' k => ?_) (fun b H5 i5 => ?_)
        · refine ⟨_, rfl, _, _, rfl, rfl, _, rfl, ?_⟩
          refine ite3 ?_ (k _ _ ⟨(fun e => by cases e), g4, aspots⟩)
          refine ⟨_, rfl, Nat.zero_le _, fun t ht => ?_⟩
          have gt := g4.trans (Gx.new (o := .lst []) g4.2 ht)
          have at' := aspots.gx (Gx.new (o := .lst []) g4.2 ht)
          obtain ⟨rs, rfl, hrs⟩ := ints_mem hsv
          refine ⟨.list (rs.map .int), .list [], .lst (SqL.of at'.2.2) (dpInts rs), .lst (SqL.of upd_same) .nil, shaped_ints rs, shaped_ints [], _, rfl, ?_⟩
          rw [ne_nil_ints]
          refine k _ _ ⟨fun e => ?_, gt, at'⟩
          have := of_decide_eq_true e
          intro z
          exact this (List.map_eq_nil_iff.mp z)
        · obtain ⟨hne, g5, a5⟩ := i5
          cases b with
          | false => exact iteF ⟨(at0 : Int), by omega, rfl, g5⟩
          | true =>
            refine iteT ?_
            have hn1 : 1 ≤ spots.length := by
              cases spots with
              | nil => exact absurd rfl (hne rfl)
              | cons _ _ => simp
            refine ⟨_, rfl, _, rfl, p, c, .ref D, rfl, g5.2, .inl ⟨D, spots, rfl, a5, hn1, by rw [hzs] at hsl; omega, fun r x H6 hx g6 => ?_⟩⟩
            obtain ⟨v, rfl⟩ := hsv x (List.mem_of_getElem? hx)
            refine ⟨_, rfl, p, c, 3, rfl, g6.2, by decide, by decide, fun r2 H7 hr2 g7 => ?_⟩
            refine ⟨_, _, rfl, rfl, 0, _, rfl, ?_⟩
            refine ⟨if ((v : Int) - (r2 : Int)) > 0 then ((v : Int) - (r2 : Int)) else 0, by split <;> omega, rfl, (g5.trans g6).trans g7⟩
      · rintro σ H5 ⟨a, ha0, rfl, g5⟩
        -- the sign
        refine ⟨_, rfl, _, rfl, rfl, p, c, .str (S signs), rfl, g5.2, .inr ⟨signs, rfl, by rw [signs_len]; decide, by rw [signs_len]; decide, fun r d H6 hd g6 => ?_⟩⟩
        have dlt : d < 128 := asc_plain signs_plain d (List.mem_of_getElem? hd)
        refine ⟨sz (by show 11 ≤ 16000000; decide), fun b hb => ?_⟩
        have g56 := g5.trans g6
        refine ⟨p, c, .ref b, rfl, g56.2.same (same_new hb), .inl ⟨b, _, rfl, At.new g56.2 hb, (by show 1 ≤ 11; decide), (by show 11 ≤ 100000; decide), fun r2 x H7 hx g7 => ?_⟩⟩
        have g7' := (g56.trans (Gx.new (o := .lst [.str (Str.ofString "0"), .str (Str.ofString "1"), .str (Str.ofString "2"), .str (Str.ofString "9"), .str (Str.ofString ":"), .str (Str.ofString ","), .str (Str.ofString " "), .str (Str.ofString "-"), .str (Str.ofString "a"), .str (Str.ofString "\n"), .str (S [d])]) g56.2 hb)).trans g7
        obtain ⟨e, rfl, he⟩ : ∃ e, x = .str (S [e]) ∧ e < 128 := by
          have mem := List.mem_of_getElem? hx
          have key : ∀ t : Str, (match t.cps.toList with | [e] => decide (e < 128) | _ => false) = true → x = .str t → ∃ e, x = .str (S [e]) ∧ e < 128 := by
            intro t ht ex
            cases hq : t.cps.toList with
            | nil => rw [hq] at ht; cases ht
            | cons e r =>
              rw [hq] at ht
              cases r with
              | cons _ _ => cases ht
              | nil => exact ⟨e, by rw [ex, ← SX.S_tl t, hq], of_decide_eq_true ht⟩
          simp only [List.mem_cons, List.not_mem_nil, or_false] at mem
          rcases mem with h | h | h | h | h | h | h | h | h | h | h
          all_goals first
            | exact key _ (by decide +kernel) h
            | exact ⟨d, h, dlt⟩
        have ase : asc [e] := fun u hu => by rw [List.mem_singleton.mp hu]; exact he
        generalize H7 = H8 at g7'
        have ten : ∀ lo hi, ∃ l, cutS (S z) lo hi = S l ∧ asc l ∧ l.length ≤ z.length := cut_any hasc
        have fits : ∀ {l : List Nat} {m : Nat}, l.length ≤ m → m ≤ 4 * z.length + 1 → (S l).length ≤ 100000 := fun h1 h2 => by rw [S_len]; omega
        -- way in (0, 4)
        refine ⟨_, rfl, by show 2 ≤ sizeLine; decide, fun t ht => ⟨t, _, rfl, .inr (SqT.of upd_same), rfl, rfl, _, rfl, ?_⟩⟩
        have g9 := g7'.trans (Gx.new (o := .tup [.int 0, .int 4]) g7'.2 ht)
        generalize upd H8 t _ = H9 at g9
        refine ite3 ?_ ?_
        · obtain ⟨l1, e1, a1, n1⟩ := ten none (some a)
          obtain ⟨l2, e2, a2, n2⟩ := ten (some a) none
          refine ⟨_, rfl, _, rfl, a, rfl, S z, rfl, sz (by rw [zl]; omega), ?_⟩
          rw [e1]
          refine ⟨_, rfl, _, _, rfl, rfl, sz (by rw [S_len, S_len]; simp; omega), _, rfl, _, rfl, a, rfl, S z, rfl, sz (by rw [zl]; omega), ?_⟩
          rw [e2, S_cat]
          refine ⟨_, _, rfl, rfl, sz (by rw [S_len, S_len]; simp; omega), ?_⟩
          rw [S_cat]
          exact q _ _ (asc_app (asc_app a1 ase) a2) (by simp; omega) g9
        refine ⟨_, rfl, by show 2 ≤ sizeLine; decide, fun t ht => ⟨t, _, rfl, .inr (SqT.of upd_same), rfl, rfl, _, rfl, ?_⟩⟩
        have g10 := g9.trans (Gx.new (o := .tup [.int 1, .int 5]) g9.2 ht)
        generalize upd H9 t _ = H10 at g10
        refine ite3 ?_ ?_
        · obtain ⟨l1, e1, a1, n1⟩ := ten none (some a)
          obtain ⟨l2, e2, a2, n2⟩ := ten (some (a + 1)) none
          refine ⟨_, rfl, _, rfl, a, rfl, S z, rfl, sz (by rw [zl]; omega), ?_⟩
          rw [e1]
          refine ⟨_, rfl, _, rfl, _, _, rfl, rfl, a + 1, rfl, S z, rfl, sz (by rw [zl]; omega), ?_⟩
          rw [e2]
          refine ⟨_, _, rfl, rfl, sz (by rw [S_len, S_len]; omega), ?_⟩
          rw [S_cat]
          exact q _ _ (asc_app a1 a2) (by simp; omega) g10
        refine ⟨_, rfl, by show 2 ≤ sizeLine; decide, fun t ht => ⟨t, _, rfl, .inr (SqT.of upd_same), rfl, rfl, _, rfl, ?_⟩⟩
        have g11 := g10.trans (Gx.new (o := .tup [.int 2, .int 6]) g10.2 ht)
        generalize upd H10 t _ = H11 at g11
        refine ite3 ?_ ?_
        · obtain ⟨l1, e1, a1, n1⟩ := ten none (some a)
          obtain ⟨l2, e2, a2, n2⟩ := ten (some (a + 1)) none
          refine ⟨_, rfl, _, rfl, a, rfl, S z, rfl, sz (by rw [zl]; omega), ?_⟩
          rw [e1]
          refine ⟨_, rfl, _, _, rfl, rfl, sz (by rw [S_len, S_len]; simp; omega), _, rfl, _, rfl, _, _, rfl, rfl, a + 1, rfl, S z, rfl, sz (by rw [zl]; omega), ?_⟩
          rw [e2, S_cat]
          refine ⟨_, _, rfl, rfl, sz (by rw [S_len, S_len]; simp; omega), ?_⟩
          rw [S_cat]
          exact q _ _ (asc_app (asc_app a1 ase) a2) (by simp; omega) g11
        -- way == 3
        refine ⟨_, rfl, rfl, _, rfl, ?_⟩
        refine ite3 ?_ ?_
        · obtain ⟨l1, e1, a1, n1⟩ := ten none (some a)
          obtain ⟨l2, e2, a2, n2⟩ := ten (some (if (oth : Int) < a then (oth : Int) else a)) (some (if (oth : Int) > a then (oth : Int) else a))
          obtain ⟨l3, e3, a3, n3⟩ := cut_any a2 none (some 20)
          obtain ⟨l4, e4, a4, n4⟩ := ten (some a) none
          refine ⟨_, rfl, _, rfl, a, rfl, S z, rfl, sz (by rw [zl]; omega), ?_⟩
          rw [e1]
          refine ⟨_, rfl, _, rfl, _, rfl, a, (oth : Int), rfl, _, rfl, _, rfl, _, rfl, a, (oth : Int), rfl, _, rfl, S z, rfl, sz (by rw [zl]; omega), ?_⟩
          rw [e2]
          refine ⟨20, rfl, S l2, rfl, sz (by rw [S_len]; omega), ?_⟩
          rw [e3]
          refine ⟨_, _, rfl, rfl, sz (by rw [S_len, S_len]; omega), _, rfl, _, rfl, a, rfl, S z, rfl, sz (by rw [zl]; omega), ?_⟩
          rw [e4, S_cat]
          refine ⟨_, _, rfl, rfl, sz (by rw [S_len, S_len]; simp; omega), ?_⟩
          rw [S_cat]
          exact q _ _ (asc_app (asc_app a1 a3) a4) (by simp; omega) g11
        · obtain ⟨l1, e1, a1, n1⟩ := ten none (some a)
          obtain ⟨l2, e2, a2, n2⟩ := ten (some (a + 1)) (some (a + 2))
          obtain ⟨l3, e3, a3, n3⟩ := ten (some a) (some (a + 1))
          obtain ⟨l4, e4, a4, n4⟩ := ten (some (a + 2)) none
          refine ⟨_, rfl, _, rfl, a, rfl, S z, rfl, sz (by rw [zl]; omega), ?_⟩
          rw [e1]
          refine ⟨_, rfl, _, rfl, _, _, rfl, rfl, a + 1, rfl, _, rfl, _, _, rfl, rfl, a + 2, rfl, S z, rfl, sz (by rw [zl]; omega), ?_⟩
          rw [e2]
          refine ⟨_, _, rfl, rfl, sz (by rw [S_len, S_len]; omega), _, rfl, _, rfl, a, rfl, _, rfl, _, _, rfl, rfl, a + 1, rfl, S z, rfl, sz (by rw [zl]; omega), ?_⟩
          rw [e3, S_cat]
          refine ⟨_, _, rfl, rfl, sz (by rw [S_len, S_len]; simp; omega), _, rfl, _, rfl, _, _, rfl, rfl, a + 2, rfl, S z, rfl, sz (by rw [zl]; omega), ?_⟩
          rw [e4, S_cat]
          refine ⟨_, _, rfl, rfl, sz (by rw [S_len, S_len]; simp; omega), ?_⟩
          rw [S_cat]
          exact q _ _ (asc_app (asc_app (asc_app a1 a2) a3) a4) (by simp; omega) g11
end
end Ag

end
/-! ## Math2 -/
section
set_option linter.all false
namespace Ag
open PySem
/-! ### what readings lead to -/
theorem lr_nil (s : List Nat) (t : Option (List Nat)) : lr s t [] = .read [] (glue s t) := rfl
theorem lr_cons (s : List Nat) (t : Option (List Nat)) (c : Nat) (cs : List Nat) : lr s t (c :: cs) = match stp s t c with
    | none => .wrong [] 0
    | some (o, s', t') => (lr s' t' cs).pre o.toList 1 := rfl
theorem stp_glue {s : List Nat} {t : Option (List Nat)} {c : Nat} {s' : List Nat} {t' : Option (List Nat)} (h : stp s t c = some (none, s', t')) : glue s' t' = glue s t ++ [c] := by
  cases t with
  | none =>
    simp only [stp] at h
    split at h
    · rename_i q
      cases h
      simp [glue, q.1]
    · split at h
      · cases h
        rfl
      · cases h
  | some t =>
    simp only [stp] at h
    split at h
    · split at h
      · cases h
        simp [glue]
      · cases h
    · split at h
      · cases h
      · cases h
theorem stp_done {s : List Nat} {t : Option (List Nat)} {c : Nat} {u : List Nat} {s' : List Nat} {t' : Option (List Nat)} (h : stp s t c = some (some u, s', t')) : t = some u ∧ s' = [] ∧ t' = none := by
  cases t with
  | none =>
    simp only [stp] at h
    split at h
    · cases h
    · split at h <;> cases h
  | some t =>
    simp only [stp] at h
    split at h
    · split at h <;> cases h
    · split at h
      · cases h
        exact ⟨rfl, rfl, rfl⟩
      · cases h
theorem lr_id : ∀ (l : List Nat) {s : List Nat} {t : Option (List Nat)} {r : List Nat}, lr s t l = .read [] r → r = glue s t ++ l
  | [], s, t, r, h => by
    rw [lr_nil] at h
    cases h
    simp
  | c :: cs, s, t, r, h => by
    rw [lr_cons] at h
    cases hs : stp s t c with
    | none => rw [hs] at h; cases h
    | some p =>
      obtain ⟨o, s', t'⟩ := p
      rw [hs] at h
      simp only at h
      cases hl : lr s' t' cs with
      | wrong us k => rw [hl] at h; cases h
      | read us r' =>
        rw [hl] at h
        simp only [Out.pre] at h
        injection h with h1 h2
        cases o with
        | some u => simp at h1
        | none =>
          simp at h1
          subst h1
          subst h2
          rw [lr_id cs hl, stp_glue hs]
          simp
/-- the texts that are told are texts; their signs, and those of the rest, are at most those that were there -/
def osz : Out → Nat
  | .read ts r => ts.flatten.length + ts.length + r.length
  | .wrong ts k => ts.flatten.length + ts.length
def Out.texts : Out → List (List Nat)
  | .read ts _ => ts
  | .wrong ts _ => ts
theorem lr_osz : ∀ (l : List Nat) (s : List Nat) (t : Option (List Nat)), osz (lr s t l) ≤ (glue s t).length + l.length
  | [], s, t => by simp [lr_nil, osz]
  | c :: cs, s, t => by
    rw [lr_cons]
    cases hs : stp s t c with
    | none => simp [osz]
    | some p =>
      obtain ⟨o, s', t'⟩ := p
      have ih := lr_osz cs s' t'
      cases o with
      | none =>
        have hg := congrArg List.length (stp_glue hs)
        rw [List.length_append, List.length_singleton] at hg
        show osz ((lr s' t' cs).pre [] 1) ≤ _
        cases hl : lr s' t' cs with
        | read us r => rw [hl] at ih; simp only [osz, Out.pre, List.nil_append, List.length_cons] at ih ⊢; omega
        | wrong us k => rw [hl] at ih; simp only [osz, Out.pre, List.nil_append, List.length_cons] at ih ⊢; omega
      | some u =>
        obtain ⟨rfl, rfl, rfl⟩ := stp_done hs
        show osz ((lr [] none cs).pre [u] 1) ≤ _
        cases hl : lr [] none cs with
        | read us r =>
          rw [hl] at ih
          simp only [osz, Out.pre, Option.toList, List.length_cons, List.singleton_append, List.flatten_cons, List.length_append, glue, List.length_nil] at ih ⊢
          omega
        | wrong us k =>
          rw [hl] at ih
          simp only [osz, Out.pre, Option.toList, List.length_cons, List.singleton_append, List.flatten_cons, List.length_append, glue, List.length_nil] at ih ⊢
          omega
theorem lr_at : ∀ (l : List Nat) (s : List Nat) (t : Option (List Nat)) (ts : List (List Nat)) (k : Nat), lr s t l = .wrong ts k → k ≤ l.length
  | [], s, t, ts, k, h => by rw [lr_nil] at h; cases h
  | c :: cs, s, t, ts, k, h => by
    rw [lr_cons] at h
    cases hs : stp s t c with
    | none => rw [hs] at h; cases h; exact Nat.zero_le _
    | some p =>
      obtain ⟨o, s', t'⟩ := p
      rw [hs] at h
      simp only at h
      cases hl : lr s' t' cs with
      | read us r => rw [hl] at h; cases h
      | wrong us j =>
        have := lr_at cs s' t' us j hl
        rw [hl] at h
        cases h
        simp
        omega
theorem lr_texts : ∀ (l : List Nat) {s : List Nat} {t : Option (List Nat)}, Vd s t → ∀ x ∈ (lr s t l).texts, plainL x = true
  | [], s, t, v, x, h => by simp [lr_nil, Out.texts] at h
  | c :: cs, s, t, v, x, h => by
    rw [lr_cons] at h
    cases hs : stp s t c with
    | none => rw [hs] at h; simp [Out.texts] at h
    | some p =>
      obtain ⟨o, s', t'⟩ := p
      rw [hs] at h
      simp only at h
      have ih := lr_texts cs (v.step hs)
      have hh : x ∈ o.toList ∨ x ∈ (lr s' t' cs).texts := by
        cases hl : lr s' t' cs with
        | read us r => rw [hl] at h; simpa [Out.pre, Out.texts] using h
        | wrong us r => rw [hl] at h; simpa [Out.pre, Out.texts] using h
      rcases hh with hh | hh
      · cases o with
        | none => simp at hh
        | some u =>
          simp at hh
          subst hh
          obtain ⟨rfl, _, _⟩ := stp_done hs
          exact v.2
      · exact ih x hh
/-! ### frames -/
theorem lr_numL : ∀ (k : Nat), k ≤ 200 → ∀ l, lr [] none (numL k ++ l) = (lr (numL k) none l).pre [] (numL k).length := by
  intro k
  induction k using Nat.strongRecOn with
  | ind k ih =>
    intro hk l
    have hdec : isDec (numL k) 200 = true := isDec_iff.mpr ⟨k, hk, rfl⟩
    by_cases h : k < 10
    · have e : numL k = [48 + k] := TL.numL_lt h
      have hs : stp [] none (48 + k) = some (none, numL k, none) := by
        show (if 48 + k = 58 ∧ ([] : List Nat) ≠ [] then _ else if isDec ([] ++ [48 + k]) 200 = true then _ else _) = _
        rw [if_neg (fun z => z.2 rfl), List.nil_append, ← e, if_pos hdec]
      conv => lhs; rw [e]
      rw [List.singleton_append, lr_cons, hs, e]
      rfl
    · have e : numL k = numL (k / 10) ++ [48 + k % 10] := TL.numL_step (by omega)
      have hs : stp (numL (k / 10)) none (48 + k % 10) = some (none, numL k, none) := by
        show (if 48 + k % 10 = 58 ∧ numL (k / 10) ≠ [] then _ else if isDec (numL (k / 10) ++ [48 + k % 10]) 200 = true then _ else _) = _
        rw [if_neg (fun z => by have := z.1; omega), ← e, if_pos hdec]
      conv => lhs; rw [e, List.append_assoc]
      rw [ih (k / 10) (by omega) (by omega), List.singleton_append, lr_cons, hs]
      simp only [Option.toList]
      rw [Out.pre_pre, e, List.length_append, List.length_singleton]
      rfl
theorem lr_frm {t : List Nat} (h : isTextB t = true) (l : List Nat) : lr [] none (frm t ++ l) = (lr [] none l).pre [t] (frm t).length := by
  unfold isTextB at h
  rw [Bool.and_eq_true, decide_eq_true_eq] at h
  have e : frm t ++ l = numL t.length ++ (58 :: (t ++ (44 :: l))) := by simp [frm]
  have hs1 : stp (numL t.length) none 58 = some (none, numL t.length, some []) := by
    show (if 58 = 58 ∧ numL t.length ≠ [] then _ else _) = _
    rw [if_pos ⟨rfl, numL_ne _⟩]
  have hs2 : stp (numL t.length) (some t) 44 = some (some t, [], none) := by
    show (if t.length < digitsVal (numL t.length) then _ else _) = _
    rw [numL_val, if_neg (Nat.lt_irrefl _)]
    rfl
  rw [e, lr_numL _ h.1, lr_cons, hs1]
  simp only [Option.toList]
  rw [lr_text t _ h.2 (by rw [numL_val]; simp), lr_cons, List.nil_append, hs2]
  simp only [Option.toList]
  rw [Out.pre_pre, Out.pre_pre, Out.pre_pre]
  congr 1
  simp [frm]
  omega
theorem lr_frms : ∀ (ts : List (List Nat)), (∀ t ∈ ts, isTextB t = true) → ∀ l, lr [] none ((ts.map frm).flatten ++ l) = (lr [] none l).pre ts (ts.map frm).flatten.length
  | [], _, l => by simp [Out.pre_nil]
  | t :: ts, h, l => by
    rw [List.map_cons, List.flatten_cons, List.append_assoc, lr_frm (h t List.mem_cons_self), lr_frms ts (fun u hu => h u (List.mem_cons_of_mem _ hu)), Out.pre_pre]
    simp
/-- a frame's proper prefix is a rest -/
theorem prefix_rest {t : List Nat} (h : isTextB t = true) {m : Nat} (hm : m < (frm t).length) : ∃ s' t', Vd s' t' ∧ (frm t).take m = glue s' t' := by
  have v0 : Vd [] none := .inl rfl
  have e := lr_frm h []
  rw [List.append_nil, lr_nil] at e
  have e2 := lr_app ((frm t).take m) ((frm t).drop m) v0
  rw [List.take_append_drop, e] at e2
  cases hl : lr [] none ((frm t).take m) with
  | wrong us k =>
    rw [hl] at e2
    cases e2
  | read us r =>
    rw [hl] at e2
    obtain ⟨s', t', v', hr⟩ := lr_rest _ v0 hl
    have hb : (frm t).drop m ≠ [] := by
      intro z
      have := congrArg List.length z
      rw [List.length_drop, List.length_nil] at this
      omega
    simp only [Out.thn, Out.pre] at e2
    cases hl2 : lr (spS r) (spT r) ((frm t).drop m) with
    | wrong ws k => rw [hl2] at e2; cases e2
    | read ws q =>
      rw [hl2] at e2
      injection e2 with e3 e4
      have hus : us = [] := by
        cases us with
        | nil => rfl
        | cons u us =>
          simp at e3
          obtain ⟨_, rfl, rfl⟩ := e3
          have := lr_id _ hl2
          rw [← e4] at this
          have := congrArg List.length this
          rw [List.length_append, List.length_drop] at this
          have e0 : (glue [] none).length = 0 := rfl
          omega
      subst hus
      have := lr_id _ hl
      simp [glue] at this
      exact ⟨s', t', v', by rw [← hr]; exact this.symm⟩
theorem isRestB_glue {s : List Nat} {t : Option (List Nat)} (v : Vd s t) : isRestB (glue s t) = true := by
  unfold isRestB
  rw [(sp_glue v).1, (sp_glue v).2]
  cases t with
  | none =>
    rcases v with rfl | ⟨k, hk, rfl⟩
    · rw [if_neg (by rw [isDec_nil]; decide)]
      rfl
    · rw [if_pos (isDec_iff.mpr ⟨k, hk, rfl⟩)]
      rfl
  | some t =>
    obtain ⟨⟨k, hk, rfl, ht⟩, hp⟩ := v
    rw [if_pos (isDec_iff.mpr ⟨k, hk, rfl⟩), numL_val]
    show (decide (t.length ≤ k) && plainL t) = true
    rw [hp, decide_eq_true ht]
    rfl
theorem lr_start {s : List Nat} {t : Option (List Nat)} (v : Vd s t) (z : List Nat) : lr [] none (glue s t ++ z) = (lr s t z).pre [] (glue s t).length := by
  have v0 : Vd [] none := .inl rfl
  have key : lr [] none (glue s t) = .read [] (glue s t) := by
    cases t with
    | none =>
      rcases v with rfl | ⟨k, hk, rfl⟩
      · rfl
      · have := lr_numL k hk []
        rw [List.append_nil, lr_nil] at this
        simpa [glue, Out.pre] using this
    | some t =>
      obtain ⟨⟨k, hk, rfl, ht⟩, hp⟩ := v
      have hs1 : stp (numL k) none 58 = some (none, numL k, some []) := by
        show (if 58 = 58 ∧ numL k ≠ [] then _ else _) = _
        rw [if_pos ⟨rfl, numL_ne _⟩]
      have e : lr [] none (numL k ++ 58 :: t) = .read [] (numL k ++ 58 :: t) := by
        rw [lr_numL _ hk, lr_cons, hs1]
        simp only [Option.toList]
        have := lr_text t [] (s := numL k) (t := []) hp (by rw [numL_val]; simp; exact ht)
        rw [List.append_nil, List.nil_append] at this
        rw [this, lr_nil]
        simp [Out.pre, glue]
      exact e
  rw [lr_app _ _ v0, key]
  simp only [Out.thn]
  rw [(sp_glue v).1, (sp_glue v).2]
end Ag

end
/-! ## L7 -/
section
set_option linter.all false
set_option maxRecDepth 100000
namespace Ag
open PySem PySem.Spec PyProof.Rows L2
open SX (S S_len S_cat S_inj)
theorem hu66 {k : Nat} {A : Around} (hr : Room k A) : A.units + 66 < cLine := by have := hr.un; omega
/-! ### data of results -/
def txD (ts : List (List Nat)) : PyData := .tuple (ts.map fun x => .str (S x))
def outD : Out → PyData
  | .read ts r => .tuple [.str (Str.ofString "read"), txD ts, .str (S r)]
  | .wrong ts k => .tuple [.str (Str.ofString "wrong"), txD ts, .int (k : Int)]
theorem dp_txs {K : PySem.W.Frag} {H : Hp} : ∀ ts : List (List Nat), DpAll K H (txs ts) (ts.map fun x => PyData.str (S x))
  | [] => .nil
  | t :: ts => .cons (.str (S t)) (dp_txs ts)
theorem dp_tx {K : PySem.W.Frag} {H : Hp} {a : Addr} {ts : List (List Nat)} (h : H a = some (.tup (txs ts))) : Dp K H (.ref a) (txD ts) := .tup (SqT.of h) (dp_txs ts)
theorem dp_out {K : PySem.W.Frag} {H : Hp} {p : Addr} {o : Out} (h : OutAt 0 o H p) : Dp K H (.ref p) (outD o) := by
  cases o with
  | read ts r =>
    obtain ⟨t, h1, h2⟩ := h
    exact .tup (SqT.of h2) (.cons (.str _) (.cons (dp_tx h1) (.cons (.str _) .nil)))
  | wrong ts k =>
    obtain ⟨t, h1, h2⟩ := h
    have e : ((k : Int) - ((0 : Nat) : Int)) = (k : Int) := by omega
    rw [e] at h2
    exact .tup (SqT.of h2) (.cons (.str _) (.cons (dp_tx h1) (.cons (.int _) .nil)))
theorem out_sub {n : Nat} {o : Out} {H : Hp} {p : Addr} (h : OutAt n (o.pre [] n) H p) : OutAt 0 o H p := by
  cases o with
  | read ts r => exact h
  | wrong ts k =>
    obtain ⟨t, h1, h2⟩ := h
    refine ⟨t, h1, ?_⟩
    rw [h2]
    have e : ((n + k : Nat) : Int) - (n : Int) = (k : Int) - ((0 : Nat) : Int) := by omega
    rw [e]
theorem out_same {n : Nat} {o : Out} {H H' : Hp} {p : Addr} (h : OutAt n o H p) (s : Same H H') : OutAt n o H' p := by
  cases o with
  | read ts r => obtain ⟨t, h1, h2⟩ := h; exact ⟨t, s _ _ h1, s _ _ h2⟩
  | wrong ts r => obtain ⟨t, h1, h2⟩ := h; exact ⟨t, s _ _ h1, s _ _ h2⟩
theorem tup_gx {p c a : Addr} {H H' : Hp} {xs : List V} (d : Dk p c H) (g : Gx p c H H') (h : H a = some (.tup xs)) : H' a = some (.tup xs) := by
  obtain ⟨m, t, cs, h1, h2, _⟩ := d
  exact g.1 a _ (ne_of h h1 (by intro z; cases z)) (ne_of h h2 (by intro z; cases z)) h
theorem out_gx {p c a : Addr} {n : Nat} {o : Out} {H H' : Hp} (d : Dk p c H) (g : Gx p c H H') (h : OutAt n o H a) : OutAt n o H' a := by
  cases o with
  | read ts r => obtain ⟨t, h1, h2⟩ := h; exact ⟨t, tup_gx d g h1, tup_gx d g h2⟩
  | wrong ts r => obtain ⟨t, h1, h2⟩ := h; exact ⟨t, tup_gx d g h1, tup_gx d g h2⟩
/-! data whose texts are ascii, and whose ints are small -/
mutual
def okD : PyData → Bool
  | .none => true
  | .bool _ => true
  | .int i => decide (0 ≤ i) && decide (i ≤ 1000000)
  | .str x => x.cps.toList.all (· < 128)
  | .list xs => okAll xs
  | .tuple xs => okAll xs
  | .dict _ => false
def okAll : List PyData → Bool
  | [] => true
  | x :: xs => okD x && okAll xs
end
theorem shown_small {i : Int} (h0 : 0 ≤ i) (h1 : i ≤ 1000000) : (PyData.int i).shown.length ≤ 8 := by
  rw [PyData.shown_int]
  obtain ⟨n, rfl⟩ := Int.eq_ofNat_of_zero_le h0
  rw [toStr, S_len]
  have : (numL n).length ≤ 7 := TL.numL_len (by decide) (by omega)
  omega
mutual
theorem ok_all4 : ∀ d : PyData, okD d = true → d.showable = true ∧ d.hasDict = false ∧ d.canLay0 = true ∧ d.leavesShort 8 = true
  | .none, _ => by simp [PyData.showable, PyData.hasDict, PyData.canLay0, PyData.leavesShort]
  | .bool _, _ => by simp [PyData.showable, PyData.hasDict, PyData.canLay0, PyData.leavesShort]
  | .int i, h => by
    simp only [okD, Bool.and_eq_true, decide_eq_true_eq] at h
    obtain ⟨n, rfl⟩ := Int.eq_ofNat_of_zero_le h.1
    have hs := shown_small h.1 h.2
    have hl : ((n : Int)).natAbs.log2 < 1920 := log_small (Nat.lt_of_le_of_lt (show n ≤ 1000000 by omega) (by decide))
    simp only [PyData.showable, PyData.hasDict, PyData.canLay0, PyData.leavesShort, decide_eq_true_eq]
    exact ⟨hl, trivial, trivial, hs⟩
  | .str x, h => by
    simp only [okD, List.all_eq_true, decide_eq_true_eq] at h
    simp only [PyData.showable, PyData.hasDict, PyData.canLay0, PyData.leavesShort]
    refine ⟨trivial, trivial, ?_, ?_⟩
    · unfold PyData.strOk
      rw [← Array.all_toList, List.all_eq_true]
      intro c hc
      have := h c hc
      simp
      omega
    · rw [List.all_eq_true]
      intro c hc
      have := h c hc
      simp
      omega
  | .list xs, h => by
    have := ok_allA xs (by simpa only [okD] using h)
    simpa only [PyData.showable, PyData.hasDict, PyData.canLay0, PyData.leavesShort] using this
  | .tuple xs, h => by
    have := ok_allA xs (by simpa only [okD] using h)
    simpa only [PyData.showable, PyData.hasDict, PyData.canLay0, PyData.leavesShort] using this
  | .dict _, h => by simp [okD] at h
theorem ok_allA : ∀ xs : List PyData, okAll xs = true → PyData.showableAll xs = true ∧ PyData.hasDictAll xs = false ∧ PyData.canLayAll0 xs = true ∧ PyData.leavesShortAll 8 xs = true
  | [], _ => by simp [PyData.showableAll, PyData.hasDictAll, PyData.canLayAll0, PyData.leavesShortAll]
  | x :: xs, h => by
    simp only [okAll, Bool.and_eq_true] at h
    obtain ⟨a1, a2, a3, a4⟩ := ok_all4 x h.1
    obtain ⟨b1, b2, b3, b4⟩ := ok_allA xs h.2
    simp only [PyData.showableAll, PyData.hasDictAll, PyData.canLayAll0, PyData.leavesShortAll, a1, a2, a3, a4, b1, b2, b3, b4]
    exact ⟨rfl, rfl, rfl, rfl⟩
end
structure Fit (d : PyData) : Prop where
  ok : okD d = true
  dp : d.depth ≤ 60
  bk : d.bulk ≤ 1500000
theorem Fit.shown {d : PyData} (f : Fit d) : d.showable = true ∧ d.hasDict = false ∧ d.depth ≤ 64 ∧ d.shown.length ≤ sizeLine := by
  obtain ⟨a1, a2, a3, a4⟩ := ok_all4 d f.ok
  refine ⟨a1, a2, by have := f.dp; omega, ?_⟩
  have := PyData.shown_le_bulk 8 (by decide) d a4
  have := f.bk
  rw [sizeLine_eq]
  omega
theorem Fit.shaped {d : PyData} (f : Fit d) : SeqAt.shaped d = true := by
  obtain ⟨a1, a2, a3, a4⟩ := ok_all4 d f.ok
  unfold SeqAt.shaped
  rw [a3, decide_eq_true (by have := f.dp; omega)]
  rfl
theorem Fit.refl {d : PyData} (f : Fit d) : PyData.eqv d d = true := SeqAt.eqv_refl d (ok_all4 d f.ok).2.2.1
theorem okAll_txs {ts : List (List Nat)} (h : ∀ t ∈ ts, asc t) : okAll (ts.map fun x => PyData.str (S x)) = true := by
  induction ts with
  | nil => simp [okAll]
  | cons t ts ih =>
    rw [List.map_cons]
    simp only [okAll, okD, Bool.and_eq_true]
    refine ⟨?_, ih fun u hu => h u (List.mem_cons_of_mem _ hu)⟩
    rw [List.all_eq_true]
    intro c hc
    have := h t List.mem_cons_self c hc
    simpa using this
theorem depth_txs (ts : List (List Nat)) : PyData.depthAll (ts.map fun x => PyData.str (S x)) = 0 := by
  induction ts with
  | nil => simp [PyData.depthAll]
  | cons t ts ih =>
    rw [List.map_cons]
    simp only [PyData.depthAll, PyData.depth, ih]
    rfl
theorem bulk_txs (ts : List (List Nat)) : PyData.bulkAll (ts.map fun x => PyData.str (S x)) = ts.flatten.length + ts.length := by
  induction ts with
  | nil => simp [PyData.bulkAll]
  | cons t ts ih =>
    rw [List.map_cons]
    simp only [PyData.bulkAll, PyData.bulk, ih, List.flatten_cons, List.length_append, List.length_cons]
    rw [show (S t).cps.size = t.length from List.size_toArray ..]
    omega
/-- a result that is not too large -/
structure FitO (o : Out) : Prop where
  tx : ∀ t ∈ o.texts, asc t
  rs : ∀ ts r, o = .read ts r → asc r
  sz : osz o ≤ 100000
  at_ : ∀ ts k, o = .wrong ts k → k ≤ 100000
theorem FitO.fit {o : Out} (f : FitO o) : okD (outD o) = true ∧ (outD o).depth = 2 ∧ (outD o).bulk ≤ 100020 := by
  cases o with
  | read ts r =>
    have h1 := f.tx
    have h2 := f.rs ts r rfl
    have h3 := f.sz
    simp only [osz] at h3
    refine ⟨?_, ?_, ?_⟩
    · have e1 : okD (.str (Str.ofString "read")) = true := by decide +kernel
      have e2 : okD (.str (S r)) = true := by
        simp only [okD]
        rw [List.all_eq_true]
        intro c hc
        simpa using h2 c hc
      simp only [outD, txD, okD, okAll, Bool.and_true, Bool.and_eq_true]
      exact ⟨by simpa only [okD] using e1, okAll_txs h1, by simpa only [okD] using e2⟩
    · simp only [outD, txD, PyData.depth, PyData.depthAll, depth_txs]
      rfl
    · simp only [outD, txD, PyData.bulk, PyData.bulkAll, bulk_txs]
      have e1 : (Str.ofString "read").cps.size = 4 := by decide +kernel
      rw [show (S r).cps.size = r.length from List.size_toArray ..]
      omega
  | wrong ts k =>
    have h1 := f.tx
    have h2 := f.at_ ts k rfl
    have h3 := f.sz
    simp only [osz] at h3
    refine ⟨?_, ?_, ?_⟩
    · have e1 : okD (.str (Str.ofString "wrong")) = true := by decide +kernel
      have e2 : okD (.int (k : Int)) = true := by
        simp only [okD, Bool.and_eq_true, decide_eq_true_eq]
        omega
      simp only [outD, txD, okD, okAll, Bool.and_true, Bool.and_eq_true]
      exact ⟨by simpa only [okD] using e1, okAll_txs h1, by simpa only [okD, Bool.and_eq_true] using e2⟩
    · simp only [outD, txD, PyData.depth, PyData.depthAll, depth_txs]
      rfl
    · simp only [outD, txD, PyData.bulk, PyData.bulkAll, bulk_txs]
      have e1 : (Str.ofString "wrong").cps.size = 5 := by decide +kernel
      omega
theorem FitO.one {o : Out} (f : FitO o) : Fit (outD o) := by
  obtain ⟨a, b, c⟩ := f.fit
  exact ⟨a, by omega, by omega⟩
theorem FitO.two {o : Out} (f : FitO o) : Fit (.tuple [outD o, outD o]) := by
  obtain ⟨a, b, c⟩ := f.fit
  refine ⟨?_, ?_, ?_⟩
  · simp only [okD, okAll, a]
    rfl
  · simp only [PyData.depth, PyData.depthAll, b]
    decide
  · simp only [PyData.bulk, PyData.bulkAll]
    omega
theorem asc_glue {s : List Nat} {t : Option (List Nat)} (v : Vd s t) : asc (glue s t) := by
  have hd : ∀ k, asc (numL k) := fun k c hc => by have := numL_all k c hc; omega
  cases t with
  | none =>
    rcases v with rfl | ⟨k, _, rfl⟩
    · exact fun _ h => by cases h
    · exact hd k
  | some t =>
    obtain ⟨⟨k, _, rfl, _⟩, hp⟩ := v
    refine asc_app (hd k) fun c hc => ?_
    rcases List.mem_cons.mp hc with rfl | hc
    · decide
    · exact asc_plain hp c hc
theorem fit_lr {s : List Nat} {t : Option (List Nat)} (v : Vd s t) {z : List Nat} (hz : z.length ≤ 50000) : FitO (lr s t z) := by
  have hg : (glue s t).length ≤ 300 := by
    have := v.slen
    cases t with
    | none => simp only [glue]; omega
    | some t =>
      have := v.dig.2.2
      simp only [glue, List.length_append, List.length_cons]
      omega
  refine ⟨fun u hu => asc_plain (lr_texts z v u hu), fun ts r h => ?_, ?_, fun ts k h => ?_⟩
  · obtain ⟨s', t', v', rfl⟩ := lr_rest z v h
    exact asc_glue v'
  · have := lr_osz z s t
    omega
  · have := lr_at z s t ts k h
    omega
end Ag

end
/-! ## L8 -/
section
set_option linter.all false
set_option maxRecDepth 100000
namespace Ag
open PySem PySem.Spec PyProof.Rows L2
open SX (S S_len S_cat S_inj)
theorem same_str {b : Prop} {x : Str} (h : b) : if (!decide (V.str x = V.str x)) = true then False else b := by
  rw [decide_eq_true rfl]
  exact iteF h
theorem drop_flat {ps : List (List Nat)} {i : Nat} {y : List Nat} (h : ps[i]? = some y) : (ps.drop i).flatten = y ++ (ps.drop (i + 1)).flatten := by
  have hi : i < ps.length := (List.getElem?_eq_some_iff.mp h).1
  rw [List.drop_eq_getElem_cons hi, List.flatten_cons]
  congr 1
  rw [List.getElem?_eq_getElem hi] at h
  exact Option.some.inj h
theorem txs_at {ts : List (List Nat)} {i : Nat} {x : V} (h : (txs ts)[i]? = some x) : ∃ y, ts[i]? = some y ∧ x = .str (S y) := by
  unfold txs at h
  rw [List.getElem?_map] at h
  cases e : ts[i]? with
  | none => rw [e] at h; cases h
  | some y =>
    rw [e] at h
    exact ⟨y, rfl, (Option.some.inj h).symm⟩
theorem osz_pre (o : Out) (ts : List (List Nat)) (n : Nat) : ts.length ≤ osz (o.pre ts n) := by
  cases o <;> simp [osz, Out.pre] <;> omega
theorem catA {K : PySem.W.Frag} {H : Hp} {Q : VK} {a b : Addr} {xs ys : List V} (ha : H a = some (.tup xs)) (hb : H b = some (.tup ys)) (hl : xs.length + ys.length ≤ 1000000) (k : ∀ r H', Same H H' → H' r = some (.tup (xs ++ ys)) → Q (.ref r) H') :
    rCatA K (.ref a) (.ref b) H Q := by
  refine ⟨a, b, xs, ys, rfl, rfl, SqT.of ha, SqT.of hb, by rw [sizeLine_eq]; omega, ?_, ?_, ?_⟩
  · rintro rfl
    exact k b H (Same.refl H) (by rw [List.nil_append]; exact hb)
  · rintro _ rfl
    exact k a H (Same.refl H) (by rw [List.append_nil]; exact ha)
  · intro _ _ p hp
    exact k p _ (same_new hp) upd_same
theorem txs_app (ts us : List (List Nat)) : txs ts ++ txs us = txs (ts ++ us) := by
  unfold txs
  rw [List.map_append]
theorem txs_len (ts : List (List Nat)) : (txs ts).length = ts.length := by
  unfold txs
  rw [List.length_map]
theorem ww2 : decide (V.str (Str.ofString "read") = V.str (Str.ofString "wrong")) = false := by decide +kernel
section
variable {P : Program} {w : World} {K : PySem.W.Frag} {mg : Str → Option Value} {base : Heap} {tm : Tok}
def sw2 (ws : List Value) : List Value := match ws with | [a, b] => [b, a] | l => l
def sw2V (ws : List V) : List V := match ws with | [a, b] => [b, a] | l => l
def spCut : Sp := fun vs H Q _ => ∃ (p c : Addr) (s z : List Nat) (t : Option (List Nat)), vs = [.ref p, .str (S (glue s t)), .str (S z)] ∧ Dk p c H ∧ Vd s t ∧ z.length ≤ 40000 ∧ ∀ H', Gx p c H H' → Q (.bl true) H'
theorem ok_cut {f f1 f2 f3 f4 : Addr} {fd fd1 fd2 fd3 fd4 : FuncData} (F : Fn K mg "_law_is_cut" s__law_is_cut ["_law_deck_here", "_law_rest", "_law_stream"] f fd) (B : Blt mg)
    (F__law_read : Fn K mg "_law_read" s__law_read ["_law_rest", "_law_piece"] f1 fd1) (G__law_read : FnOk P w K mg base CX0 1 f1 fd1 ["_law_rest", "_law_piece"] spLread)
    (F_read : Fn K mg "read" s_read ["rest", "piece"] f2 fd2) (G_read : FnOk P w K mg base CX0 4 f2 fd2 ["rest", "piece"] spRead) (K_read_piece_rest : KwB K fd2 ["rest", "piece"] ["piece", "rest"] sw2 sw2V)
    (F__law_pieces : Fn K mg "_law_pieces" s__law_pieces ["_law_deck_here", "_law_stream"] f3 fd3) (G__law_pieces : FnOk P w K mg base CX0 2 f3 fd3 ["_law_deck_here", "_law_stream"] spPieces)
    (F_is_rest : Fn K mg "is_rest" s_is_rest ["thing"] f4 fd4) (G_is_rest : FnOk P w K mg base CX0 2 f4 fd4 ["thing"] spIsRest) :
    FnG P w K mg base 5 f fd ["_law_deck_here", "_law_rest", "_law_stream"] spCut := by
  refine okG F.F sc__law_is_cut (fun vs H Q E h => ?_) (fun cdv A outer s0 H vs Q E hr hG h => ?_)
  · obtain ⟨p, c, s, z, t, rfl, _⟩ := h
    rfl
  · obtain ⟨p, c, s, z, t, rfl, dk, v, hz, q⟩ := h
    refine ⟨_, (pss_cons (ps_set (i := 3) sc__law_is_cut.nd rfl (.inl rfl) (pe_call G__law_read (hr.mono (by decide)) (by rfl) F__law_read.g F__law_read.F.kp F__law_read.b .nil pass0 (pa_cons (pv 1) (pa_cons (pv 2) pa_nil))))
      (pss_cons (ps_if (pt_cmpR op_ne (pe_callB (call_repr_data (hu66 hr) hG) (by rfl) B.n_repr (by decide +kernel) (pa_cons (pe_tup (pa_cons (pe_call G_read (hr.mono (by decide)) (by rfl) F_read.g F_read.F.kp F_read.b .nil pass0 (pa_cons (pv 1) (pa_cons (pv 2) pa_nil))) (pa_cons (pe_callKwG (FnG.of G_read) (hr.mono (by decide)) hG (by rfl) F_read.g F_read.F.kp K_read_piece_rest (pk_cons (pv 2) (pk_cons (pv 1) pk_nil))) pa_nil))) pa_nil)) (pe_callB (call_repr_data (hu66 hr) hG) (by rfl) B.n_repr (by decide +kernel) (pa_cons (pe_tup (pa_cons (pv 3) (pa_cons (pv 3) pa_nil))) pa_nil)) (nomark _))
      (pss_one (ps_ret pe_bl))
      pss_nil)
      (pss_cons (ps_par3 (i := 4) (j := 5) (l := 6) (by rfl) sc__law_is_cut.nd rfl rfl rfl (by decide) (by decide) (by decide) rfl rfl rfl (pa_cons (pe_tup pa_nil) (pa_cons (pv 1) (pa_cons pe_int pa_nil))) (by rfl))
      (pss_cons (ps_for PassesOwn.never rfl (pi_list (pe_call G__law_pieces (hr.mono (by decide)) (by rfl) F__law_pieces.g F__law_pieces.F.kp F__law_pieces.b .nil pass0 (pa_cons (pv 0) (pa_cons (pv 2) pa_nil)))) (pg_name (i := 7) sc__law_is_cut.nd rfl (Or.inl rfl))
      (pss_cons (ps_set (i := 8) sc__law_is_cut.nd rfl (.inl rfl) (pe_call G_read (hr.mono (by decide)) (by rfl) F_read.g F_read.F.kp F_read.b .nil pass0 (pa_cons (pv 5) (pa_cons (pv 7) pa_nil))))
        (pss_cons (ps_if (pt_cmpR op_ne (pe_callB (call_repr_data (hu66 hr) hG) (by rfl) B.n_repr (by decide +kernel) (pa_cons (pv 8) pa_nil)) (pe_callB (call_repr_data (hu66 hr) hG) (by rfl) B.n_repr (by decide +kernel) (pa_cons (pe_call G__law_read (hr.mono (by decide)) (by rfl) F__law_read.g F__law_read.F.kp F__law_read.b .nil pass0 (pa_cons (pv 5) (pa_cons (pv 7) pa_nil))) pa_nil)) (nomark _))
        (pss_one (ps_ret pe_bl))
        pss_nil)
        (pss_cons (ps_set (i := 4) sc__law_is_cut.nd rfl (.inl rfl) (pe_op op_catA (pv 4) (pe_ix ix_tup (pv 8) pe_int (fun _ _ => rfl))))
        (pss_cons (ps_if (pt_cmpR op_eq (pe_ix ix_tup (pv 8) pe_int (fun _ _ => rfl)) pe_str (nomark _))
        (pss_one (ps_ret (pe_cmpR (op_eqD hr.units) (pv 3) (pe_tup (pa_cons pe_str (pa_cons (pv 4) (pa_cons (pe_op op_add (pv 6) (pe_ix ix_tup (pv 8) pe_int (fun _ _ => rfl))) pa_nil)))) (nomark _))))
        pss_nil)
        (pss_cons (ps_par (i := 5) (j := 6) (by rfl) sc__law_is_cut.nd rfl rfl (by decide) rfl rfl (pa_cons (pe_ix ix_tup (pv 8) pe_int (fun _ _ => rfl)) (pa_cons (pe_op op_add (pv 6) (pe_callB call_len_str (by rfl) B.n_len (by decide +kernel) (pa_cons (pv 7) pa_nil))) pa_nil)) (by rfl))
        (pss_one (ps_if (pt_cmpR op_notBl (pe_call G_is_rest (hr.mono (by decide)) (by rfl) F_is_rest.g F_is_rest.F.kp F_is_rest.b .nil pass0 (pa_cons (pv 5) pa_nil)) pe_bl (nomark _))
        (pss_one (ps_ret pe_bl))
        pss_nil))))))))
      (pss_one (ps_ret (pe_cmpR (op_eqD hr.units) (pv 3) (pe_tup (pa_cons pe_str (pa_cons (pv 4) (pa_cons (pv 5) pa_nil)))) (nomark _)))))))), ?_⟩
    have s3 : 3 ≤ sizeLine := sz (by decide)
    have s2 : 2 ≤ sizeLine := sz (by decide)
    have glen : ∀ {s : List Nat} {t : Option (List Nat)}, Vd s t → (glue s t).length ≤ 300 := by
      intro s t v
      have := v.slen
      cases t with
      | none => simp only [glue]; omega
      | some t =>
        have := v.dig.2.2
        simp only [glue, List.length_append, List.length_cons]
        omega
    have hg := glen v
    have fo := fit_lr v (z := z) (by omega)
    -- what the law's own reading, and the program's, tell
    refine ⟨_, rfl, _, rfl, s, z, t, rfl, v, by omega, fun due H1 hdue sm1 hd1 => ?_⟩
    refine ⟨_, rfl, _, rfl, glue s t, z, rfl, isRestB_glue v, by omega, by omega, fun a1 H2 ha1 sm2 ho1 => ?_⟩
    rw [lr_start v] at ho1
    have ho1 := out_sub ho1
    refine ⟨_, rfl, _, rfl, rfl, glue s t, z, rfl, isRestB_glue v, by omega, by omega, fun a2 H3 ha2 sm3 ho2 => ?_⟩
    rw [lr_start v] at ho2
    have ho2 := out_sub ho2
    refine ⟨s2, fun q1 hq1 => ?_⟩
    have f2 := fo.two
    obtain ⟨r1, r2, r3, r4⟩ := f2.shown
    have sm4 := (sm1.trans sm2).trans sm3
    have n4 := same_new (o := .tup [.ref a1, .ref a2]) hq1
    refine ⟨_, _, rfl, .tup (SqT.of upd_same) (.cons (dp_out (out_same (out_same ho1 sm3) n4)) (.cons (dp_out (out_same ho2 n4)) .nil)), r1, r2, r3, r4, ?_⟩
    have hd4 := out_same (out_same (out_same hd1 sm2) sm3) n4
    have sm5 := sm4.trans n4
    generalize upd H3 q1 (.tup [.ref a1, .ref a2]) = H4 at hd4 sm5
    refine ⟨_, rfl, _, rfl, s2, fun q2 hq2 => ?_⟩
    have n5 := same_new (o := .tup [.ref due, .ref due]) hq2
    refine ⟨_, _, rfl, .tup (SqT.of upd_same) (.cons (dp_out (out_same hd4 n5)) (.cons (dp_out (out_same hd4 n5)) .nil)), r1, r2, r3, r4, ?_⟩
    have hd5 := out_same hd4 n5
    have sm6 := sm5.trans n5
    generalize upd H4 q2 (.tup [.ref due, .ref due]) = H5 at hd5 sm6
    refine ⟨rfl, _, rfl, ?_⟩
    rw [decide_eq_true rfl]
    refine iteF ?_
    -- texts, now, at
    refine ⟨Nat.zero_le _, fun tx htx => ⟨_, rfl, _, _, _, rfl, ?_⟩⟩
    have n6 := same_new (o := .tup []) htx
    have hd6 := out_same hd5 n6
    have sm7 := sm6.trans n6
    have htx6 : upd H5 tx (.tup []) tx = some (.tup (txs [])) := upd_same
    generalize upd H5 tx (.tup []) = H6 at hd6 sm7 htx6
    -- the pieces
    refine ⟨_, rfl, _, rfl, p, c, z, rfl, dk.same sm7, hz, fun a ps H7 ha hps hfl hpl g7 => ?_⟩
    have dk6 := dk.same sm7
    have g07 := (Gx.same dk sm7).trans g7
    have hd7 := out_gx dk6 g7 hd6
    have htx7 := tup_gx dk6 g7 htx6
    refine ⟨a, rfl, ⟨_, SqL.of hps⟩, ?_⟩
    -- the last comparison
    have fin : ∀ (o : Out) (H8 : Hp) (r : Addr) (d : PyData), Same H7 H8 → lr s t z = o → Dp K H8 (.ref r) d → d = outD o → rEqD K (.ref due) (.ref r) H8 Q := by
      intro o H8 r d sm e hd ed
      subst e
      subst ed
      have f1 := fo.one
      refine ⟨_, _, dp_out (out_same hd7 sm), hd, f1.shaped, f1.shaped, ?_⟩
      rw [f1.refl]
      exact q _ (g07.trans (Gx.same g7.2 sm))
    refine for_list (K := K) (a := a) (xs := txs ps) (fun i σ H8 => ∃ (ts : List (List Nat)) (s' : List Nat) (t' : Option (List Nat)) (u : Addr) (x7 x8 : Option V),
      σ = [some (.ref p), some (.str (S (glue s t))), some (.str (S z)), some (.ref due), some (.ref u), some (.str (S (glue s' t'))), some (.int (((ps.take i).flatten.length : Nat) : Int)), x7, x8] ∧
      Same H7 H8 ∧ H8 u = some (.tup (txs ts)) ∧ Vd s' t' ∧ lr s t z = (lr s' t' (ps.drop i).flatten).pre ts (ps.take i).flatten.length)
      ⟨[], s, t, tx, none, none, rfl, Same.refl _, htx7, v, by rw [List.drop_zero, hfl]; simp [Out.pre_nil]⟩ (fun i σ H8 _ z => ?_) ?_ ?_
    · obtain ⟨_, _, _, _, _, _, _, sm, _⟩ := z
      exact SqL.of (sm _ _ hps)
    · rintro i x σ H8 hx ⟨ts, s', t', u, x7, x8, rfl, sm8, hu8, v', elr⟩
      obtain ⟨y, hy, rfl⟩ := txs_at hx
      have hyl : y.length ≤ 40000 := by
        have h1 : (ps.drop i).flatten.length ≤ ps.flatten.length := by
          conv => rhs; rw [← List.take_append_drop i ps, List.flatten_append, List.length_append]
          omega
        rw [drop_flat hy, List.length_append, hfl] at h1
        omega
      have hg' := glen v'
      have fo' := fit_lr v' (z := y) (by omega)
      -- told
      refine ⟨_, rfl, _, rfl, glue s' t', y, rfl, isRestB_glue v', by omega, by omega, fun b1 H9 hb1 sm9 hob => ?_⟩
      rw [lr_start v'] at hob
      have hob := out_sub hob
      have f1 := fo'.one
      obtain ⟨r1, r2, r3, r4⟩ := f1.shown
      refine ⟨_, rfl, _, _, rfl, dp_out hob, r1, r2, r3, r4, ?_⟩
      refine ⟨_, rfl, _, rfl, s', y, t', rfl, v', by omega, fun b2 H10 hb2 sm10 hob2 => ?_⟩
      refine ⟨_, _, rfl, dp_out hob2, r1, r2, r3, r4, ?_⟩
      refine ⟨rfl, _, rfl, ?_⟩
      rw [decide_eq_true rfl]
      refine iteF ?_
      have hob10 := out_same hob sm10
      have sm11 := (sm8.trans sm9).trans sm10
      have hu10 := sm10 _ _ (sm9 _ _ hu8)
      have eT : (ps.take (i + 1)).flatten = (ps.take i).flatten ++ y := by
        rw [List.take_add_one, hy]
        simp
      have htl : ts.length ≤ 100000 := by
        have h1 := fo.sz
        rw [elr] at h1
        exact Nat.le_trans (osz_pre _ _ _) h1
      rw [drop_flat hy, lr_app _ _ v'] at elr
      cases ho : lr s' t' y with
      | wrong us k =>
        rw [ho] at hob10 elr fo'
        obtain ⟨b3, hb3, hb10⟩ := hob10
        have hus : us.length ≤ 100000 := by have := fo'.sz; simp only [osz] at this; omega
        -- texts = texts + told[1]
        refine ⟨_, rfl, _, rfl, b1, _, _, _, rfl, rfl, SqT.of hb10, atI_nat (j := 1) rfl, ?_⟩
        refine catA hu10 hb3 (by rw [txs_len, txs_len]; omega) fun u2 H11 sm12 hu11 => ?_
        rw [txs_app] at hu11
        have hb11 := sm12 _ _ hb10
        have e0 : ((k : Int) - ((0 : Nat) : Int)) = (k : Int) := by omega
        rw [e0] at hb11
        -- told[0] == "wrong"
        refine ⟨_, rfl, b1, _, _, _, rfl, rfl, SqT.of hb11, atI_nat (j := 0) rfl, rfl, _, rfl, ?_⟩
        rw [ww]
        refine iteT ?_
        refine ⟨_, rfl, _, rfl, _, rfl, _, rfl, b1, _, _, _, rfl, rfl, SqT.of hb11, atI_nat (j := 2) rfl, _, _, rfl, rfl, s3, fun r hr' => ?_⟩
        have n8 := same_new (o := .tup [.str (Str.ofString "wrong"), .ref u2, .int ((((ps.take i).flatten.length : Nat) : Int) + (k : Int))]) hr'
        refine fin (.wrong (ts ++ us) ((ps.take i).flatten.length + k)) _ r _ ((sm11.trans sm12).trans n8) ?_ (.tup (SqT.of upd_same) (.cons (.str _) (.cons (dp_tx (n8 _ _ hu11)) (.cons (.int _) .nil)))) ?_
        · rw [elr]
          rfl
        · show PyData.tuple [_, _, .int ((((ps.take i).flatten.length : Nat) : Int) + (k : Int))] = PyData.tuple [_, _, .int (((ps.take i).flatten.length + k : Nat) : Int)]
          rw [Int.natCast_add]
      | read us r =>
        rw [ho] at hob10 elr fo'
        obtain ⟨b3, hb3, hb10⟩ := hob10
        have hus : us.length ≤ 100000 := by have := fo'.sz; simp only [osz] at this; omega
        obtain ⟨s2', t2', v2, rfl⟩ := lr_rest y v' ho
        simp only [Out.thn] at elr
        rw [(sp_glue v2).1, (sp_glue v2).2, Out.pre_pre] at elr
        -- texts = texts + told[1]
        refine ⟨_, rfl, _, rfl, b1, _, _, _, rfl, rfl, SqT.of hb10, atI_nat (j := 1) rfl, ?_⟩
        refine catA hu10 hb3 (by rw [txs_len, txs_len]; omega) fun u2 H11 sm12 hu11 => ?_
        rw [txs_app] at hu11
        have hb11 := sm12 _ _ hb10
        refine ⟨_, rfl, b1, _, _, _, rfl, rfl, SqT.of hb11, atI_nat (j := 0) rfl, rfl, _, rfl, ?_⟩
        rw [ww2]
        refine iteF ?_
        -- now, at
        refine ⟨_, rfl, b1, _, _, _, rfl, rfl, SqT.of hb11, atI_nat (j := 2) rfl, _, rfl, _, rfl, S y, rfl, sz (by rw [S_len]; omega), _, _, rfl, rfl, _, _, rfl, ?_⟩
        have hg2 := glen v2
        refine ⟨_, rfl, glue s2' t2', rfl, by omega, fun H12 sm13 => ?_⟩
        rw [isRestB_glue v2]
        refine ⟨_, _, rfl, rfl, _, rfl, ?_⟩
        rw [decide_eq_true rfl]
        refine iteF ?_
        refine ⟨ts ++ us, s2', t2', u2, some (.str (S y)), some (.ref b1), ?_, (sm11.trans sm12).trans sm13, sm13 _ _ hu11, v2, ?_⟩
        · rw [eT, List.length_append, S_len]
          show _ = [some (V.ref p), some (V.str (S (glue s t))), some (V.str (S z)), some (V.ref due), some (V.ref u2), some (V.str (S (glue s2' t2'))), some (V.int (((ps.take i).flatten.length + y.length : Nat) : Int)), some (V.str (S y)), some (V.ref b1)]
          rw [Int.natCast_add]
          rfl
        · rw [eT, List.length_append]
          exact elr
    · rintro σ H8 ⟨ts, s', t', u, x7, x8, rfl, sm8, hu8, v', elr⟩
      have hl : (txs ps).length = ps.length := by unfold txs; rw [List.length_map]
      rw [hl, List.drop_length, List.flatten_nil, lr_nil] at elr
      refine ⟨_, rfl, _, rfl, _, rfl, s3, fun r hr' => ?_⟩
      have n8 := same_new (o := .tup [.str (Str.ofString "read"), .ref u, .str (S (glue s' t'))]) hr'
      have hu9 := n8 _ _ hu8
      refine fin (.read ts (glue s' t')) _ r _ (sm8.trans n8) ?_ (.tup (SqT.of upd_same) (.cons (.str _) (.cons (dp_tx hu9) (.cons (.str _) .nil)))) rfl
      rw [elr]
      simp [Out.pre]
end
end Ag

end
/-! ## TupRep -/
section
set_option linter.all false
set_option maxRecDepth 100000
set_option maxHeartbeats 4000000
namespace Ag
open PySem PySem.Spec PyProof.Rows L2
theorem tuple_mul0 (l : Addr) (items : Array Value) (n : Nat) (dd : Option Addr) (sl : Array (Option Value)) (x : Int) (u : Tok) (c0 : (decide (x < -(2 ^ 63)) || decide (x ≥ 2 ^ 63)) = false) (c1 : (items.isEmpty || x == 1) = false) (c2 : (decide (x ≤ 0) || items.isEmpty) = true) :
    Meets (Builtin.«tuple.__mul__» ⟨[.ref l, .int x u], []⟩) (fun _ R s => s.heap.get? l = some { cls := .type "tuple", dict := dd, data := .seq items n, slots := sl } ∧
      R (.ok (.ret (Value.ref s.heap.objs.size))) { s with heap := s.heap.push { cls := Value.type "tuple", data := Data.seq #[] }, toks := s.toks }) :=
  .of_wp fun prog w A R s h => by
    obtain ⟨hp, g, d, tk, os⟩ := s
    obtain ⟨hl, h⟩ := h
    have f1 := AutoSeq1.idx_int
    wp_walk using wpAny_loadPart' hl
    repeat (first
      | (refine wpAny_ite_false (decide_eq_false (by rw [c0]; exact Bool.false_ne_true)) ?_; wp_walk using wpAny_loadPart' hl)
      | (refine wpAny_ite_false (decide_eq_false (by rw [c1]; exact Bool.false_ne_true)) ?_; wp_walk using wpAny_loadPart' hl)
      | (refine wpAny_ite_true (decide_eq_true c2) ?_; wp_walk using wpAny_loadPart' hl))
    exact ⟨_, rfl, h⟩
theorem tuple_mul1 (l : Addr) (items : Array Value) (n : Nat) (dd : Option Addr) (sl : Array (Option Value)) (x : Int) (u : Tok) (c0 : (decide (x < -(2 ^ 63)) || decide (x ≥ 2 ^ 63)) = false) (c1 : (items.isEmpty || x == 1) = true) :
    Meets (Builtin.«tuple.__mul__» ⟨[.ref l, .int x u], []⟩) (fun _ R s => s.heap.get? l = some { cls := .type "tuple", dict := dd, data := .seq items n, slots := sl } ∧
      R (.ok (.ret (Value.ref l))) s) :=
  .of_wp fun prog w A R s h => by
    obtain ⟨hp, g, d, tk, os⟩ := s
    obtain ⟨hl, h⟩ := h
    have f1 := AutoSeq1.idx_int
    wp_walk using wpAny_loadPart' hl
    repeat (first
      | (refine wpAny_ite_false (decide_eq_false (by rw [c0]; exact Bool.false_ne_true)) ?_; wp_walk using wpAny_loadPart' hl)
      | (refine wpAny_ite_true (decide_eq_true c1) ?_; wp_walk using wpAny_loadPart' hl))
    exact ⟨_, rfl, h⟩
def rRepA (K : PySem.W.Frag) : R2 := fun x y H Q => ∃ (l : Addr) (k : Nat) (xs : List V), x = .ref l ∧ y = .int (k : Int) ∧ H l = some (.tup xs) ∧ xs ≠ [] ∧ xs.length * k ≤ 1000000 ∧ k ≤ 1000000 ∧ ∀ r H', Same H H' → H' r = some (.tup (List.replicate k xs).flatten) → Q (.ref r) H'
section
variable {X : Cx}
theorem op_repA : OpR X (binaryOp .Mult) (rRepA X.K) := by
  intro pins s σ H x y v u Q I rx ry h
  obtain ⟨l, k, xs, rfl, rfl, hT0, hne, hm0, hk, q⟩ := h
  have hT : SqT X.K H l xs := SqT.of hT0
  cases rx
  obtain ⟨t, rfl⟩ := ry
  obtain ⟨its, r, ⟨⟨cls, dd, data, sl⟩, ho, hc, n, hd⟩, hs⟩ := I.tuple hT
  simp only at hc hd
  subst hc hd
  have hle : its.length = xs.length := r.length.symm
  have hn : its ≠ [] := fun e => hne (by
    rw [e] at hle
    exact List.eq_nil_of_length_eq_zero hle.symm)
  have hi : its.toArray.isEmpty = false := by
    cases its with
    | nil => exact absurd rfl hn
    | cons a b => rfl
  have hsz0 : its.toArray.size = xs.length := by rw [List.size_toArray, hle]
  have hm : ((its.toArray.size : Nat) : Int) * (k : Int) ≤ 1000000 := by
    rw [hsz0]
    have : ((xs.length * k : Nat) : Int) ≤ 1000000 := by omega
    rwa [Int.natCast_mul] at this
  have flen : (List.replicate k its).flatten.length ≤ sizeLine := by
    rw [PyProof.Rows.lm_len_rep_flat, hle, sizeLine_eq, Nat.mul_comm]
    omega
  have c0 : (decide ((k : Int) < -(2 ^ 63)) || decide ((k : Int) ≥ 2 ^ 63)) = false := by
    rw [decide_eq_false (by omega), decide_eq_false (by omega)] <;> rfl
  have c4 : Builtin.Tuple.tupleTooMany (((its.toArray.size : Nat) : Int) * (k : Int)) = false := by
    unfold Builtin.Tuple.tupleTooMany
    rw [sizeLine_eq]
    exact decide_eq_false (by omega)
  refine wpAny_binaryOp_repeat_ref (T := "tuple") (U := "int") (by decide) ⟨_, ho, rfl⟩ (fun s' => typeIs_int s' (k : Int) t) noFill_tuple_mul F.fills_int_mul F.slot_int_rmul repeat_tuple F.slot_int_index.lookup
    (call_meets F.slot_int_rmul (typeIs_int s (k : Int) t) F.entry_int_rmul (F.args_int_rmul_2 _ _) (int_rmul_tuple (k : Int) t l its.toArray n dd sl)
      ⟨ho, rfl, ⟨_, ho, rfl⟩, ?_⟩)
  by_cases h0 : k = 0
  · subst h0
    refine call_meets F.slot_tuple_mul ⟨_, ho, rfl⟩ F.entry_tuple_mul (F.args_tuple_mul_2 _ _) (tuple_mul0 l its.toArray n dd sl _ t c0 (by rw [hi]; rfl) rfl) ⟨ho, ?_⟩
    have fr := I.hok.fresh (Nat.le_refl s.heap.objs.size)
    refine ⟨.ref s.heap.objs.size, _, I.laid (t' := s.toks) (o := .tup []) (fun b ob q => Heap.get?_push_of_some _ q) (Nat.le_refl _) ?_, rfl, q _ _ (same_new fr) upd_same⟩
    exact ⟨Nat.zero_le _, _, .nil, IsTup.new _ _⟩
  · by_cases h1 : k = 1
    · subst h1
      refine call_meets F.slot_tuple_mul ⟨_, ho, rfl⟩ F.entry_tuple_mul (F.args_tuple_mul_2 _ _) (tuple_mul1 l its.toArray n dd sl _ t c0 (by rw [hi]; rfl)) ⟨ho, ?_⟩
      exact ⟨.ref l, H, I, rfl, q l H (Same.refl H) (by rw [hT0]; simp)⟩
    · have c1 : (its.toArray.isEmpty || (k : Int) == 1) = false := by
        rw [hi, Bool.false_or]
        exact beq_eq_false_iff_ne.mpr (by omega)
      have c2 : (decide ((k : Int) ≤ 0) || its.toArray.isEmpty) = false := by
        rw [hi, Bool.or_false]
        exact decide_eq_false (by omega)
      refine call_meets F.slot_tuple_mul ⟨_, ho, rfl⟩ F.entry_tuple_mul (F.args_tuple_mul_2 _ _) (tuple_mulW l its.toArray n dd sl (k : Int) t c0 c1 c2 (by omega) c4 (by rw [size_rep, List.size_toArray]; exact flen)) ⟨ho, ?_⟩
      rw [size_rep]
      have fr := I.hok.fresh (Nat.le_refl s.heap.objs.size)
      refine ⟨.ref s.heap.objs.size, _, I.laid (t' := s.toks) (o := .tup (List.replicate k xs).flatten) (fun b ob q => Heap.get?_push_of_some _ q) (Nat.le_refl _) ?_, rfl, q _ _ (same_new fr) upd_same⟩
      exact ⟨by rw [PyProof.Rows.lm_len_rep_flat, sizeLine_eq, Nat.mul_comm]; omega, _, r.rep k, IsTup.new _ _⟩
end
end Ag

end
/-! ## Math3 -/
section
set_option linter.all false
namespace Ag
open PySem PySem.Spec PyProof.Rows L2
open SX (S S_len S_cat S_inj)
theorem rep_len (k : Nat) (z : List Nat) : (List.replicate k z).flatten.length = k * z.length := PyProof.Rows.lm_len_rep_flat ..
theorem rep_take {z : List Nat} {k r : Nat} (h : r ≤ z.length) (h0 : k = 0 → r = 0) : (List.replicate k z).flatten.take r = z.take r := by
  cases k with
  | zero => rw [h0 rfl]; rfl
  | succ k =>
    rw [List.replicate_succ, List.flatten_cons, List.take_append_of_le_length h]
theorem rep_cut {z : List Nat} {n cut : Nat} (hz : 1 ≤ z.length) (h : cut ≤ z.length * n) :
    cut / z.length ≤ n ∧ cut % z.length < z.length ∧ (List.replicate n z).flatten.take cut = (List.replicate (cut / z.length) z).flatten ++ z.take (cut % z.length) ∧
    z.take (cut % z.length) ++ (List.replicate n z).flatten.drop cut = (List.replicate (n - cut / z.length) z).flatten := by
  have hq : cut / z.length ≤ n := by
    rw [Nat.div_le_iff_le_mul_add_pred hz]
    omega
  have hr : cut % z.length < z.length := Nat.mod_lt _ hz
  have hc := Nat.div_add_mod cut z.length
  generalize cut / z.length = k at hq hc ⊢
  generalize cut % z.length = r at hr hc ⊢
  have e : (List.replicate n z).flatten = (List.replicate k z).flatten ++ (List.replicate (n - k) z).flatten := by
    rw [← List.flatten_append, List.replicate_append_replicate, show k + (n - k) = n by omega]
  have el : (List.replicate k z).flatten.length + r = cut := by
    rw [rep_len, Nat.mul_comm]
    exact hc
  have h0 : n - k = 0 → r = 0 := fun h1 => by
    have : k = n := by omega
    subst this
    omega
  have et : (List.replicate (n - k) z).flatten.take r = z.take r := rep_take (by omega) h0
  refine ⟨hq, hr, ?_, ?_⟩
  · rw [e, ← el, List.take_length_add_append, et]
  · rw [e, ← el, List.drop_length_add_append, ← et, List.take_append_drop]
theorem rep_one {x : V} (k : Nat) : (List.replicate k [x]).flatten = List.replicate k x := by
  induction k with
  | zero => rfl
  | succ k ih => rw [List.replicate_succ, List.flatten_cons, ih]; rfl
theorem txs_rep (k : Nat) (t : List Nat) : List.replicate k (V.str (S t)) = txs (List.replicate k t) := by
  unfold txs
  rw [List.map_replicate]
theorem lr_rep {t : List Nat} (h : isTextB t = true) (k : Nat) (l : List Nat) : lr [] none ((List.replicate k (frm t)).flatten ++ l) = (lr [] none l).pre (List.replicate k t) (List.replicate k (frm t)).flatten.length := by
  have e : (List.replicate k (frm t)) = (List.replicate k t).map frm := by rw [List.map_replicate]
  rw [e]
  exact lr_frms _ (fun u hu => by rw [List.eq_of_mem_replicate hu]; exact h) l
theorem frm_len (t : List Nat) : 2 ≤ (frm t).length := by
  unfold frm
  simp only [List.length_append, List.length_cons, List.length_nil]
  omega
theorem fit4 {a b c d : Out} (fa : FitO a) (fb : FitO b) (fc : FitO c) (fd : FitO d) : Fit (.tuple [outD a, outD b, outD c, outD d]) := by
  obtain ⟨a1, a2, a3⟩ := fa.fit
  obtain ⟨b1, b2, b3⟩ := fb.fit
  obtain ⟨c1, c2, c3⟩ := fc.fit
  obtain ⟨d1, d2, d3⟩ := fd.fit
  refine ⟨?_, ?_, ?_⟩
  · simp only [okD, okAll, a1, b1, c1, d1]
    rfl
  · simp only [PyData.depth, PyData.depthAll, a2, b2, c2, d2]
    decide
  · simp only [PyData.bulk, PyData.bulkAll]
    omega
theorem fit_rep {t : List Nat} (h : plainL t = true) {k : Nat} (hk : k * (t.length + 1) ≤ 50000) {r : List Nat} (hr : asc r) (hl : r.length ≤ 300) : FitO (.read (List.replicate k t) r) := by
  refine ⟨fun u hu => ?_, fun ts r' e => ?_, ?_, fun ts k e => by cases e⟩
  · rw [List.eq_of_mem_replicate hu]; exact asc_plain h
  · cases e; exact hr
  · simp only [osz]
    rw [rep_len, List.length_replicate]
    rw [Nat.mul_add, Nat.mul_one] at hk
    omega
theorem fit_repw {t : List Nat} (h : plainL t = true) {k n : Nat} (hk : k * (t.length + 1) ≤ 50000) (hn : n ≤ 100000) : FitO (.wrong (List.replicate k t) n) := by
  refine ⟨fun u hu => ?_, fun ts r' e => (by cases e), ?_, fun ts k e => (by cases e; exact hn)⟩
  · rw [List.eq_of_mem_replicate hu]; exact asc_plain h
  · simp only [osz]
    rw [rep_len, List.length_replicate]
    rw [Nat.mul_add, Nat.mul_one] at hk
    omega
theorem tx_plain {t : List Nat} (h : isTextB t = true) : plainL t = true := by
  unfold isTextB at h
  rw [Bool.and_eq_true] at h
  exact h.2
end Ag

end
/-! ## L9 -/
section
set_option linter.all false
set_option maxRecDepth 100000
namespace Ag
open PySem PySem.Spec PyProof.Rows L2
open SX (S S_len S_cat S_inj)
section
variable {P : Program} {w : World} {K : PySem.W.Frag} {mg : Str → Option Value} {base : Heap} {tm : Tok}
def spLong : Sp := fun vs H Q _ => ∃ (p c : Addr), vs = [.ref p] ∧ Dk p c H ∧ ∀ H', Gx p c H H' → Q (.bl true) H'
def LongAt (H : Hp) (x : V) : Prop := ∃ (t : List Nat) (n : Nat) (a : Addr), x = .ref a ∧ H a = some (.tup [.str (S t), .int (n : Int)]) ∧ isTextB t = true ∧ t.length ≤ 12 ∧ 1 ≤ n ∧ n ≤ 3333 ∧ (frm t).length * n ≤ 10000
theorem xS : Str.ofString "x" = S [120] := by decide +kernel
theorem lr_x : lr [] none [120] = .wrong [] 0 := by decide +kernel
theorem lookS : Str.ofString "look" = S [108, 111, 111, 107] := by decide +kernel
theorem ok_long {f f1 f2 f3 : Addr} {fd fd1 fd2 fd3 : FuncData} (F : Fn K mg "_law_is_long" s__law_is_long ["_law_deck_here"] f fd) (B : Blt mg)
    (F__law_pick : Fn K mg "_law_pick" s__law_pick ["_law_deck_here", "_law_some"] f1 fd1) (G__law_pick : FnOk P w K mg base CX0 2 f1 fd1 ["_law_deck_here", "_law_some"] spPick)
    (F_read : Fn K mg "read" s_read ["rest", "piece"] f2 fd2) (G_read : FnOk P w K mg base CX0 4 f2 fd2 ["rest", "piece"] spRead) (K_read_piece_rest : KwB K fd2 ["rest", "piece"] ["piece", "rest"] sw2 sw2V)
    (F__law_draw : Fn K mg "_law_draw" s__law_draw ["_law_deck_here", "_law_below"] f3 fd3) (G__law_draw : FnOk P w K mg base CX0 1 f3 fd3 ["_law_deck_here", "_law_below"] spDraw) :
    FnG P w K mg base 5 f fd ["_law_deck_here"] spLong := by
  refine okG F.F sc__law_is_long (fun vs H Q E h => ?_) (fun cdv A outer s0 H vs Q E hr hG h => ?_)
  · obtain ⟨p, c, rfl, _⟩ := h
    rfl
  · obtain ⟨p, c, rfl, dk, q⟩ := h
    refine ⟨_, (pss_cons (ps_asg (pe_call G__law_pick (hr.mono (by decide)) (by rfl) F__law_pick.g F__law_pick.F.kp F__law_pick.b .nil pass0 (pa_cons (pv 0) (pa_cons (pe_lst (pa_cons (pe_tup (pa_cons pe_str (pa_cons pe_int pa_nil))) (pa_cons (pe_tup (pa_cons pe_str (pa_cons pe_int pa_nil))) (pa_cons (pe_tup (pa_cons (pe_op op_rep_str pe_str pe_int) (pa_cons pe_int pa_nil))) pa_nil)))) pa_nil))) (pg_tup rfl (pgs_cons (pg_name (i := 1) sc__law_is_long.nd rfl (Or.inl rfl)) (pgs_cons (pg_name (i := 2) sc__law_is_long.nd rfl (Or.inl rfl)) pgs_nil))))
      (pss_cons (ps_set (i := 3) sc__law_is_long.nd rfl (.inl rfl) (pe_op op_add_str (pe_op op_add_str (pe_op op_add_str (pe_callTy call_str_int (by rfl) B.n_str (by decide +kernel) (pa_cons (pe_callB call_len_str (by rfl) B.n_len (by decide +kernel) (pa_cons (pv 1) pa_nil)) pa_nil)) pe_str) (pv 1)) pe_str))
      (pss_cons (ps_par (i := 4) (j := 5) (by rfl) sc__law_is_long.nd rfl rfl (by decide) rfl rfl (pa_cons (pe_op op_rep_str (pv 3) (pv 2)) (pa_cons (pe_call G__law_draw (hr.mono (by decide)) (by rfl) F__law_draw.g F__law_draw.F.kp F__law_draw.b .nil pass0 (pa_cons (pv 0) (pa_cons (pe_op op_add (pe_op op_mul (pe_callB call_len_str (by rfl) B.n_len (by decide +kernel) (pa_cons (pv 3) pa_nil)) (pv 2)) pe_int) pa_nil))) pa_nil)) (by rfl))
      (pss_cons (ps_par (i := 6) (j := 7) (by rfl) sc__law_is_long.nd rfl rfl (by decide) rfl rfl (pa_cons (pe_op op_fdiv (pv 5) (pe_callB call_len_str (by rfl) B.n_len (by decide +kernel) (pa_cons (pv 3) pa_nil))) (pa_cons (pe_slice sl_str (pv 3) po_none (po_some (pe_op op_mod (pe_callTy call_int1 (by rfl) B.n_int (by decide +kernel) (pa_cons (pv 5) pa_nil)) (pe_callB call_len_str (by rfl) B.n_len (by decide +kernel) (pa_cons (pv 3) pa_nil))))) pa_nil)) (by rfl))
      (pss_cons (ps_set (i := 8) sc__law_is_long.nd rfl (.inl rfl) (pe_tup (pa_cons (pe_call G_read (hr.mono (by decide)) (by rfl) F_read.g F_read.F.kp F_read.b .nil pass0 (pa_cons pe_str (pa_cons (pv 4) pa_nil))) (pa_cons (pe_call G_read (hr.mono (by decide)) (by rfl) F_read.g F_read.F.kp F_read.b .nil pass0 (pa_cons pe_str (pa_cons (pe_slice sl_str (pv 4) po_none (po_some (pv 5))) pa_nil))) (pa_cons (pe_call G_read (hr.mono (by decide)) (by rfl) F_read.g F_read.F.kp F_read.b .nil pass0 (pa_cons (pv 7) (pa_cons (pe_slice sl_str (pv 4) (po_some (pv 5)) po_none) pa_nil))) (pa_cons (pe_callKwG (FnG.of G_read) (hr.mono (by decide)) hG (by rfl) F_read.g F_read.F.kp K_read_piece_rest (pk_cons (pe_op op_add_str (pv 4) pe_str) (pk_cons pe_str pk_nil))) pa_nil))))))
      (pss_cons (ps_set (i := 9) sc__law_is_long.nd rfl (.inl rfl) (pe_tup (pa_cons (pe_tup (pa_cons pe_str (pa_cons (pe_op op_repA (pe_tup (pa_cons (pv 1) pa_nil)) (pv 2)) (pa_cons pe_str pa_nil)))) (pa_cons (pe_tup (pa_cons pe_str (pa_cons (pe_op op_repA (pe_tup (pa_cons (pv 1) pa_nil)) (pv 6)) (pa_cons (pv 7) pa_nil)))) (pa_cons (pe_tup (pa_cons pe_str (pa_cons (pe_op op_repA (pe_tup (pa_cons (pv 1) pa_nil)) (pe_op op_sub (pv 2) (pv 6))) (pa_cons pe_str pa_nil)))) pa_nil)))))
      (pss_one (ps_ret (pe_cmpR op_eq (pe_callB (call_repr_data (hu66 hr) hG) (by rfl) B.n_repr (by decide +kernel) (pa_cons (pv 8) pa_nil)) (pe_callB (call_repr_data (hu66 hr) hG) (by rfl) B.n_repr (by decide +kernel) (pa_cons (pe_op op_catA (pv 9) (pe_tup (pa_cons (pe_tup (pa_cons pe_str (pa_cons (pe_op op_repA (pe_tup (pa_cons (pv 1) pa_nil)) (pv 2)) (pa_cons (pe_callB call_len_str (by rfl) B.n_len (by decide +kernel) (pa_cons (pv 4) pa_nil)) pa_nil)))) pa_nil))) pa_nil)) (nomark _)))))))))), ?_⟩
    have s3 : 3 ≤ sizeLine := sz (by decide)
    have s2 : 2 ≤ sizeLine := sz (by decide)
    have s1 : 1 ≤ sizeLine := sz (by decide)
    have s4 : 4 ≤ sizeLine := sz (by decide)
    refine ⟨_, rfl, s2, fun t1 ht1 => ⟨s2, fun t2 ht2 => ⟨[126], 12, congrArg V.str tildeS, rfl, by decide, by decide, by decide, s2, fun t3 ht3 => ⟨s3, fun L hL => ?_⟩⟩⟩⟩
    have e1 : upd H t1 (.tup [.str (Str.ofString ""), .int 3333]) t1 = some (.tup [.str (S []), .int ((3333 : Nat) : Int)]) := by rw [upd_same, emptyS]; rfl
    have sm1 := same_new (o := .tup [.str (Str.ofString ""), .int 3333]) ht1
    generalize upd H t1 (.tup [.str (Str.ofString ""), .int 3333]) = H1 at e1 sm1 ht2 ht3 hL ⊢
    have e2 : upd H1 t2 (.tup [.str (Str.ofString "look"), .int 1400]) t2 = some (.tup [.str (S [108, 111, 111, 107]), .int ((1400 : Nat) : Int)]) := by rw [upd_same, lookS]; rfl
    have sm2 := same_new (o := .tup [.str (Str.ofString "look"), .int 1400]) ht2
    generalize upd H1 t2 (.tup [.str (Str.ofString "look"), .int 1400]) = H2 at e2 sm2 ht3 hL ⊢
    have e3 : upd H2 t3 (.tup [.str (S (List.replicate 12 [126]).flatten), .int 624]) t3 = some (.tup [.str (S (List.replicate 12 [126]).flatten), .int ((624 : Nat) : Int)]) := upd_same
    have sm3 := same_new (o := .tup [.str (S (List.replicate 12 [126]).flatten), .int 624]) ht3
    generalize upd H2 t3 (.tup [.str (S (List.replicate 12 [126]).flatten), .int 624]) = H3 at e3 sm3 hL ⊢
    have sm4 := same_new (o := .lst [.ref t1, .ref t2, .ref t3]) hL
    have dk3 : Dk p c H3 := dk.same ((sm1.trans sm2).trans sm3)
    refine ⟨p, c, _, rfl, dk3.same sm4, .inl ⟨L, _, rfl, At.new dk3 hL, by simp, by simp, fun r x H5 hx g5 => ?_⟩⟩
    have hx5 : LongAt H5 x := by
      have g0 := (Gx.same dk3 sm4).trans g5
      have d1 : t1 ≠ p ∧ t1 ≠ c := dk.ne ht1
      have d2 : t2 ≠ p ∧ t2 ≠ c := (dk.same sm1).ne ht2
      have d3 : t3 ≠ p ∧ t3 ≠ c := (dk.same (sm1.trans sm2)).ne ht3
      match r, hx with
      | 0, hx => exact ⟨[], 3333, t1, (Option.some.inj hx).symm, g0.1 _ _ d1.1 d1.2 (sm3 _ _ (sm2 _ _ e1)), by decide, by decide, by decide, by decide, by decide +kernel⟩
      | 1, hx => exact ⟨[108, 111, 111, 107], 1400, t2, (Option.some.inj hx).symm, g0.1 _ _ d2.1 d2.2 (sm3 _ _ e2), by decide, by decide, by decide, by decide, by decide +kernel⟩
      | 2, hx => exact ⟨(List.replicate 12 [126]).flatten, 624, t3, (Option.some.inj hx).symm, g0.1 _ _ d3.1 d3.2 e3, by decide, by decide, by decide, by decide, by decide +kernel⟩
      | r + 3, hx => cases hx
    have g5 : Gx p c H H5 := (((Gx.same dk sm1).trans (Gx.same (dk.same sm1) sm2)).trans (Gx.same (dk.same (sm1.trans sm2)) sm3)).trans ((Gx.same dk3 sm4).trans g5)
    clear sm1 sm2 sm3 sm4 e1 e2 e3 ht1 ht2 ht3 hL dk3 hx
    obtain ⟨t, n, a, rfl, ha, pt, l12, n1, n2, sz0⟩ := hx5
    refine ⟨a, _, rfl, SqT.of ha, rfl, _, _, rfl, _, _, rfl, rfl, ?_⟩
    have n3 : (numL t.length).length ≤ 3 := numL_len3 (by omega)
    refine ⟨_, rfl, S t, rfl, sz (by rw [S_len]; omega), _, rfl, ?_, ?_⟩
    · rw [S_len]; exact log_small (Nat.lt_of_le_of_lt l12 (by decide))
    rw [S_len]
    refine ⟨_, _, congrArg V.str (toStr _), congrArg V.str colonS, ?_, ?_⟩
    · rw [S_len, S_len]; exact sz (by simp; omega)
    rw [S_cat]
    refine ⟨_, rfl, _, _, rfl, rfl, ?_, ?_⟩
    · rw [S_len, S_len]; exact sz (by simp; omega)
    rw [S_cat]
    refine ⟨_, _, rfl, congrArg V.str commaS, ?_, ?_⟩
    · rw [S_len, S_len]; exact sz (by simp; omega)
    rw [S_cat, show numL t.length ++ [58] ++ t ++ [44] = frm t by simp [frm]]
    have f2 := frm_len t
    have fl : (List.replicate n (frm t)).flatten.length = (frm t).length * n := by rw [rep_len, Nat.mul_comm]
    -- the stream
    refine ⟨_, rfl, _, rfl, frm t, n, rfl, rfl, by omega, by omega, ?_, ?_⟩
    · have : (frm t).length * 1 ≤ (frm t).length * n := Nat.mul_le_mul_left _ n1
      omega
    have hm1 : (frm t).length ≤ 10000 := by
      have : (frm t).length * 1 ≤ (frm t).length * n := Nat.mul_le_mul_left _ n1
      omega
    refine ⟨_, rfl, _, rfl, S (frm t), rfl, sz (by rw [S_len]; omega), ?_⟩
    rw [S_len]
    refine ⟨_, rfl, _, _, rfl, rfl, .inl ⟨by omega, by omega⟩, _, _, rfl, rfl, ?_⟩
    refine ⟨p, c, _, rfl, g5.2, by rw [← Int.natCast_mul]; omega, by rw [← Int.natCast_mul]; omega, fun cut H6 hcut g6 => ?_⟩
    have hcut : cut ≤ (frm t).length * n := by
      rw [← Int.natCast_mul] at hcut
      omega
    obtain ⟨hq, hr', ct, cd⟩ := rep_cut (z := frm t) (n := n) (cut := cut) (by omega) hcut
    refine ⟨_, _, rfl, ?_⟩
    -- whole, rest
    refine ⟨_, rfl, _, rfl, S (frm t), rfl, sz (by rw [S_len]; omega), ?_⟩
    rw [S_len]
    refine ⟨_, _, rfl, rfl, ⟨by omega, by omega⟩, _, rfl, _, rfl, .inl ⟨_, rfl, _, rfl, S (frm t), rfl, sz (by rw [S_len]; omega), ?_⟩⟩
    rw [S_len]
    refine ⟨_, _, rfl, rfl, (by show (0 : Int) < ((frm t).length : Int); omega), _, rfl, S (frm t), rfl, sz (by rw [S_len]; omega), ?_⟩
    have e1 : ((cut : Int) / ((frm t).length : Int)) = ((cut / (frm t).length : Nat) : Int) := (Int.natCast_ediv cut (frm t).length).symm
    have e2 : ((cut : Int) % ((frm t).length : Int)) = ((cut % (frm t).length : Nat) : Int) := (Int.natCast_emod cut (frm t).length).symm
    refine ⟨.int ((cut / (frm t).length : Nat) : Int), .str (S ((frm t).take (cut % (frm t).length))), ?_, ?_⟩
    · show [V.int ((cut : Int) / ((frm t).length : Int)), V.str (cutS (S (frm t)) none (some ((cut : Int) % ((frm t).length : Int))))] = _
      rw [e1, e2, cut_to]
    obtain ⟨s', t', vd, erest⟩ := prefix_rest pt hr'
    -- the four tellings
    have lF : (List.replicate n (frm t)).flatten.length ≤ 10000 := by omega
    generalize hF : (List.replicate n (frm t)).flatten = W at ct cd fl lF
    generalize cut / (frm t).length = k at hq ct cd e1
    have hrl : (List.take (cut % (frm t).length) (frm t)).length ≤ 220 := by
      rw [List.length_take]
      have : (frm t).length ≤ 20 := by simp [frm]; omega
      omega
    generalize List.take (cut % (frm t).length) (frm t) = rs at ct cd erest hrl
    have o1 : lr [] none ([] ++ W) = .read (List.replicate n t) [] := by
      have := lr_rep pt n []
      rw [List.append_nil, hF] at this
      rw [List.nil_append, this, lr_nil]
      simp [Out.pre, glue]
    have o2 : lr [] none ([] ++ W.take cut) = .read (List.replicate k t) rs := by
      rw [List.nil_append, ct, lr_rep pt k rs, erest]
      have := lr_start vd []
      rw [List.append_nil, lr_nil] at this
      rw [this]
      simp [Out.pre]
    have o3 : lr [] none (rs ++ W.drop cut) = .read (List.replicate (n - k) t) [] := by
      have := lr_rep pt (n - k) []
      rw [List.append_nil] at this
      rw [cd, this, lr_nil]
      simp [Out.pre, glue]
    have o4 : lr [] none ([] ++ (W ++ [120])) = .wrong (List.replicate n t) W.length := by
      have := lr_rep pt n [120]
      rw [hF] at this
      rw [List.nil_append, this, lr_x]
      simp [Out.pre]
    refine ⟨_, rfl, [], W, (by rw [emptyS]; rfl), rfl, by decide, by omega, fun a1 H7 ha1 sm7 p1 => ?_⟩
    rw [o1] at p1
    refine ⟨_, rfl, _, rfl, _, rfl, S W, rfl, sz (by rw [S_len]; omega), ?_⟩
    rw [cut_to]
    refine ⟨[], W.take cut, (by rw [emptyS]; rfl), rfl, by decide, by rw [List.length_take]; omega, fun a2 H8 ha2 sm8 p2 => ?_⟩
    rw [o2] at p2
    refine ⟨_, rfl, _, rfl, _, rfl, _, rfl, S W, rfl, sz (by rw [S_len]; omega), ?_⟩
    rw [cut_from (by rw [fl]; exact hcut)]
    have vr : isRestB rs = true := by rw [erest]; exact isRestB_glue vd
    refine ⟨rs, W.drop cut, rfl, vr, by omega, by rw [List.length_drop]; omega, fun a3 H9 ha3 sm9 p3 => ?_⟩
    rw [o3] at p3
    refine ⟨_, rfl, _, _, rfl, congrArg V.str xS, ?_, ?_⟩
    · rw [S_len, S_len]; exact sz (by simp; omega)
    rw [S_cat]
    refine ⟨rfl, [], W ++ [120], by rw [emptyS]; rfl, by decide, by decide, by simp; omega, fun a4 H10 ha4 sm10 p4 => ⟨s4, fun told htold => ?_⟩⟩
    rw [o4] at p4
    have g10 := ((((g5.trans g6).trans (Gx.same g6.2 sm7)).trans (Gx.same (g6.2.same sm7) sm8)).trans (Gx.same ((g6.2.same sm7).same sm8) sm9)).trans (Gx.same (((g6.2.same sm7).same sm8).same sm9) sm10)
    have sm11 := same_new (o := .tup [.ref a1, .ref a2, .ref a3, .ref a4]) htold
    have q1 : OutAt 0 (.read (List.replicate n t) []) _ a1 := out_same (out_same (out_same (out_same p1 sm8) sm9) sm10) sm11
    have q2 : OutAt 0 (.read (List.replicate k t) rs) _ a2 := out_same (out_same (out_same p2 sm9) sm10) sm11
    have q3 : OutAt 0 (.read (List.replicate (n - k) t) []) _ a3 := out_same (out_same p3 sm10) sm11
    have q4 : OutAt 0 (.wrong (List.replicate n t) W.length) _ a4 := out_same p4 sm11
    have ht : upd H10 told (.tup [.ref a1, .ref a2, .ref a3, .ref a4]) told = some (.tup [.ref a1, .ref a2, .ref a3, .ref a4]) := upd_same
    have g11 := g10.trans (Gx.same g10.2 sm11)
    generalize upd H10 told (.tup [.ref a1, .ref a2, .ref a3, .ref a4]) = H11 at q1 q2 q3 q4 ht g11
    clear sm7 sm8 sm9 sm10 sm11 p1 p2 p3 p4 g10
    -- what is due
    refine ⟨_, rfl, s1, fun b1 hb1 => ⟨_, rfl, b1, n, [.str (S t)], rfl, rfl, upd_same, by simp, by simp; omega, by omega, fun u1 H12 sm12 hu1 => ⟨s3, fun d1 hd1 => ?_⟩⟩⟩
    have sm12 := (same_new hb1).trans sm12
    have sm13 := same_new (o := .tup [.str (Str.ofString "read"), .ref u1, .str (Str.ofString "")]) hd1
    have z1 : OutAt 0 (.read (List.replicate n t) []) (upd H12 d1 (.tup [.str (Str.ofString "read"), .ref u1, .str (Str.ofString "")])) d1 := ⟨u1, sm13 _ _ (by rw [hu1, rep_one, txs_rep]), by rw [upd_same, emptyS]⟩
    have sma := sm12.trans sm13
    generalize upd H12 d1 (.tup [.str (Str.ofString "read"), .ref u1, .str (Str.ofString "")]) = H13 at z1 sma ⊢
    clear sm12 sm13 hu1 hd1 hb1
    refine ⟨_, rfl, s1, fun b2 hb2 => ⟨_, rfl, b2, k, [.str (S t)], rfl, rfl, upd_same, by simp, by simp; omega, by omega, fun u2 H14 sm14 hu2 => ⟨_, rfl, s3, fun d2 hd2 => ?_⟩⟩⟩
    have sm14 := (same_new hb2).trans sm14
    have sm15 := same_new (o := .tup [.str (Str.ofString "read"), .ref u2, .str (S rs)]) hd2
    have z2 : OutAt 0 (.read (List.replicate k t) rs) (upd H14 d2 (.tup [.str (Str.ofString "read"), .ref u2, .str (S rs)])) d2 := ⟨u2, sm15 _ _ (by rw [hu2, rep_one, txs_rep]), upd_same⟩
    have z1 := out_same (out_same z1 sm14) sm15
    have sma := (sma.trans sm14).trans sm15
    generalize upd H14 d2 (.tup [.str (Str.ofString "read"), .ref u2, .str (S rs)]) = H15 at z1 z2 sma ⊢
    clear sm14 sm15 hu2 hd2 hb2
    refine ⟨_, rfl, s1, fun b3 hb3 => ⟨_, rfl, _, rfl, _, _, rfl, rfl, b3, n - k, [.str (S t)], rfl, congrArg V.int (by omega), upd_same, by simp, by simp; omega, by omega, fun u3 H16 sm16 hu3 => ⟨s3, fun d3 hd3 => ⟨s3, fun due hdue => ?_⟩⟩⟩⟩
    have sm16 := (same_new hb3).trans sm16
    have sm17 := same_new (o := .tup [.str (Str.ofString "read"), .ref u3, .str (Str.ofString "")]) hd3
    have z3 : OutAt 0 (.read (List.replicate (n - k) t) []) (upd H16 d3 (.tup [.str (Str.ofString "read"), .ref u3, .str (Str.ofString "")])) d3 := ⟨u3, sm17 _ _ (by rw [hu3, rep_one, txs_rep]), by rw [upd_same, emptyS]⟩
    have z1 := out_same (out_same z1 sm16) sm17
    have z2 := out_same (out_same z2 sm16) sm17
    have sma := (sma.trans sm16).trans sm17
    generalize upd H16 d3 (.tup [.str (Str.ofString "read"), .ref u3, .str (Str.ofString "")]) = H17 at z1 z2 z3 sma hdue ⊢
    clear sm16 sm17 hu3 hd3 hb3
    have sm18 := same_new (o := .tup [.ref d1, .ref d2, .ref d3]) hdue
    have hd : upd H17 due (.tup [.ref d1, .ref d2, .ref d3]) due = some (.tup [.ref d1, .ref d2, .ref d3]) := upd_same
    have z1 := out_same z1 sm18
    have z2 := out_same z2 sm18
    have z3 := out_same z3 sm18
    have sma := sma.trans sm18
    generalize upd H17 due (.tup [.ref d1, .ref d2, .ref d3]) = H18 at z1 z2 z3 sma hd ⊢
    clear sm18 hdue
    have ht := sma _ _ ht
    have q1 := out_same q1 sma
    have q2 := out_same q2 sma
    have q3 := out_same q3 sma
    have q4 := out_same q4 sma
    have g18 := g11.trans (Gx.same g11.2 sma)
    have hp := tx_plain pt
    have bn : n * (t.length + 1) ≤ 50000 := by
      have : n * (t.length + 1) ≤ 3333 * 13 := Nat.mul_le_mul n2 (by omega)
      omega
    have bk : k * (t.length + 1) ≤ 50000 := by
      have : k * (t.length + 1) ≤ 3333 * 13 := Nat.mul_le_mul (by omega) (by omega)
      omega
    have bm : (n - k) * (t.length + 1) ≤ 50000 := by
      have : (n - k) * (t.length + 1) ≤ 3333 * 13 := Nat.mul_le_mul (by omega) (by omega)
      omega
    have ar : asc rs := by rw [erest]; exact asc_glue vd
    have a0 : asc [] := fun _ h => by cases h
    have ff := fit4 (fit_rep hp bn a0 (by decide)) (fit_rep hp bk ar (by omega)) (fit_rep hp bm a0 (by decide)) (fit_repw hp bn (n := W.length) (by omega))
    obtain ⟨r1, r2, r3, r4⟩ := ff.shown
    refine ⟨_, rfl, _, _, rfl, .tup (SqT.of ht) (.cons (dp_out q1) (.cons (dp_out q2) (.cons (dp_out q3) (.cons (dp_out q4) .nil)))), r1, r2, r3, r4, ?_⟩
    clear q1 q2 q3 q4 ht
    refine ⟨_, rfl, _, rfl, s1, fun b4 hb4 => ⟨_, rfl, b4, n, [.str (S t)], rfl, rfl, upd_same, by simp, by simp; omega, by omega, fun u4 H19 sm19 hu4 => ⟨_, rfl, S W, rfl, sz (by rw [S_len]; omega), s3, fun d4 hd4 => ⟨s1, fun one hone => ?_⟩⟩⟩⟩
    have sm19 := (same_new hb4).trans sm19
    have sm20 := same_new (o := .tup [.str (Str.ofString "wrong"), .ref u4, .int ((S W).length : Int)]) hd4
    have z4 : OutAt 0 (.wrong (List.replicate n t) W.length) (upd H19 d4 (.tup [.str (Str.ofString "wrong"), .ref u4, .int ((S W).length : Int)])) d4 := ⟨u4, sm20 _ _ (by rw [hu4, rep_one, txs_rep]), by rw [upd_same, S_len, show ((W.length : Int) - ((0 : Nat) : Int)) = (W.length : Int) by omega]⟩
    have smb := sm19.trans sm20
    generalize upd H19 d4 (.tup [.str (Str.ofString "wrong"), .ref u4, .int ((S W).length : Int)]) = H20 at z4 smb hone ⊢
    clear sm19 sm20 hu4 hd4 hb4
    have sm21 := same_new (o := .tup [.ref d4]) hone
    refine catA ((smb.trans sm21) _ _ hd) upd_same (by simp) fun u H22 sm22 hu => ?_
    have smc := (smb.trans sm21).trans sm22
    have z1 := out_same z1 smc
    have z2 := out_same z2 smc
    have z3 := out_same z3 smc
    have z4 := out_same (out_same z4 sm21) sm22
    refine ⟨_, _, rfl, .tup (SqT.of hu) (.cons (dp_out z1) (.cons (dp_out z2) (.cons (dp_out z3) (.cons (dp_out z4) .nil)))), r1, r2, r3, r4, ?_⟩
    refine ⟨rfl, ?_⟩
    rw [decide_eq_true rfl]
    exact q H22 (g18.trans (Gx.same g18.2 smc))
end
end Ag

end
/-! ## L10 -/
section
set_option linter.all false
set_option maxRecDepth 100000
namespace Ag
open PySem PySem.Spec PyProof.Rows L2
open SX (S S_len S_cat S_inj)
theorem txs_all {g : List Nat → List Nat} {ts : List (List Nat)} {xs : List V} (hl : xs.length = ts.length) (h : ∀ (i : Nat) (y : V), xs[i]? = some y → ∃ t, ts[i]? = some t ∧ y = V.str (S (g t))) : xs = txs (ts.map g) := by
  refine List.ext_getElem? fun i => ?_
  unfold txs
  rw [List.map_map, List.getElem?_map]
  cases e : xs[i]? with
  | none =>
    have h1 := List.getElem?_eq_none_iff.mp e
    rw [List.getElem?_eq_none_iff.mpr (by omega)]
    rfl
  | some y =>
    obtain ⟨t, ht, rfl⟩ := h i y e
    rw [ht]
    rfl
theorem txs_of {P : List Nat → Prop} {xs : List V} (h : ∀ (i : Nat) y, xs[i]? = some y → ∃ z, P z ∧ y = V.str (S z)) : ∃ zs : List (List Nat), xs = txs zs ∧ zs.length = xs.length ∧ ∀ z ∈ zs, P z := by
  obtain ⟨zs, rfl, hz⟩ := strs_of h
  exact ⟨zs, by unfold txs; rw [List.map_map]; rfl, by simp, hz⟩
theorem dp_lst {K : PySem.W.Frag} {H : Hp} {a : Addr} {ts : List (List Nat)} (h : H a = some (.lst (txs ts))) : Dp K H (.ref a) (.list (ts.map fun x => .str (S x))) := .lst (SqL.of h) (dp_txs ts)
theorem fit_lst {ts : List (List Nat)} (h : ∀ t ∈ ts, asc t) (hs : ts.flatten.length + ts.length ≤ 100000) : Fit (.list (ts.map fun x => .str (S x))) := by
  refine ⟨?_, ?_, ?_⟩
  · show okAll _ = true
    exact okAll_txs h
  · simp only [PyData.depth, depth_txs]
    decide
  · simp only [PyData.bulk, bulk_txs]
    omega
theorem asc_frm {t : List Nat} (h : isTextB t = true) : asc (frm t) := by
  unfold frm
  refine asc_app (fun c hc => by have := numL_all _ c hc; omega) fun c hc => ?_
  rcases List.mem_cons.mp hc with rfl | hc
  · decide
  · rcases List.mem_append.mp hc with hc | hc
    · exact asc_plain (tx_plain h) c hc
    · rw [List.mem_singleton.mp hc]; decide
theorem frm_le {t : List Nat} (h : t.length ≤ 200) : (frm t).length ≤ 205 := by
  have := numL_len3 h
  unfold frm
  simp only [List.length_append, List.length_cons, List.length_nil]
  omega
theorem tx_len {t : List Nat} (h : isTextB t = true) : t.length ≤ 200 := by
  unfold isTextB at h
  rw [Bool.and_eq_true, decide_eq_true_eq] at h
  exact h.1
theorem tx_of {t : List Nat} (h : plainL t = true) (hl : t.length ≤ 200) : isTextB t = true := by
  unfold isTextB
  rw [Bool.and_eq_true, decide_eq_true_eq]
  exact ⟨hl, h⟩
theorem frms_le : ∀ (ts : List (List Nat)), (∀ t ∈ ts, isTextB t = true) → (ts.map frm).flatten.length ≤ 205 * ts.length
  | [], _ => Nat.zero_le _
  | t :: ts, h => by
    have h1 := frm_le (tx_len (h t (List.mem_cons_self ..)))
    have h2 := frms_le ts fun u hu => h u (List.mem_cons_of_mem _ hu)
    rw [List.map_cons, List.flatten_cons, List.length_append, List.length_cons]
    omega
theorem frms_asc : ∀ (ts : List (List Nat)), (∀ t ∈ ts, isTextB t = true) → asc (ts.map frm).flatten
  | [], _ => fun _ h => by cases h
  | t :: ts, h => asc_app (asc_frm (h t (List.mem_cons_self ..))) (frms_asc ts fun u hu => h u (List.mem_cons_of_mem _ hu))
/-- a value, by way of what is known of it -/
def tMid (t : TE) : TE := fun σ H Q => ∃ I : V → Hp → Prop, (∀ Q' : VK, (∀ v H', I v H' → Q' v H') → t σ H Q') ∧ ∀ v H', I v H' → Q v H'
theorem pe_ifMid {X : Cx} {c a b : Expr} {pos : Pos} {tA : TT} {ta tb : TE} (hc : PT X c tA) (ha : PE X a ta) (hb : PE X b tb) : PE X (.IfExp c a b pos) (tMid (tIf tA ta tb)) :=
  ⟨fun pins s σ H Q I hw => by
    obtain ⟨J, h1, h2⟩ := hw
    exact (pe_ifExp hc ha hb).run pins s σ H Q I (h1 Q h2)⟩
section
variable {P : Program} {w : World} {K : PySem.W.Frag} {mg : Str → Option Value} {base : Heap} {tm : Tok}
def id1 (ws : List Value) : List Value := ws
def id1V (ws : List V) : List V := ws
def spLaw (K : PySem.W.Frag) : Sp := fun vs H Q _ => ∃ (a : Addr) (ns : List Int), vs = [.ref a] ∧ SqL K H a (ns.map V.int) ∧ ns.length ≤ 63 ∧ ∀ H', Q (.bl true) H'
theorem ok_law {f f1 f2 f3 f4 f5 f6 f7 f8 f9 fa : Addr} {fd fd1 fd2 fd3 fd4 fd5 fd6 fd7 fd8 fd9 fda : FuncData} (F : Fn K mg "law" s_law ["_law_script"] f fd) (B : Blt mg)
    (F__law_deck : Fn K mg "_law_deck" s__law_deck ["_law_script"] f1 fd1) (G__law_deck : FnOk P w K mg base CX0 1 f1 fd1 ["_law_script"] (spDeck K))
    (F__law_pick : Fn K mg "_law_pick" s__law_pick ["_law_deck_here", "_law_some"] f2 fd2) (G__law_pick : FnOk P w K mg base CX0 2 f2 fd2 ["_law_deck_here", "_law_some"] spPick)
    (F__law_size : Fn K mg "_law_size" s__law_size ["_law_deck_here"] f3 fd3) (G__law_size : FnOk P w K mg base CX0 3 f3 fd3 ["_law_deck_here"] spSize)
    (F__law_text : Fn K mg "_law_text" s__law_text ["_law_deck_here", "_law_size_here"] f4 fd4) (G__law_text : FnOk P w K mg base CX0 3 f4 fd4 ["_law_deck_here", "_law_size_here"] spText)
    (F_frame : Fn K mg "frame" s_frame ["text"] f5 fd5) (G_frame : FnOk P w K mg base CX0 3 f5 fd5 ["text"] spFrame) (K_frame_text : KwB K fd5 ["text"] ["text"] id1 id1V)
    (F_read : Fn K mg "read" s_read ["rest", "piece"] f6 fd6) (G_read : FnOk P w K mg base CX0 4 f6 fd6 ["rest", "piece"] spRead)
    (F__law_is_cut : Fn K mg "_law_is_cut" s__law_is_cut ["_law_deck_here", "_law_rest", "_law_stream"] f7 fd7) (G__law_is_cut : FnG P w K mg base 5 f7 fd7 ["_law_deck_here", "_law_rest", "_law_stream"] spCut)
    (F__law_draw : Fn K mg "_law_draw" s__law_draw ["_law_deck_here", "_law_below"] f8 fd8) (G__law_draw : FnOk P w K mg base CX0 1 f8 fd8 ["_law_deck_here", "_law_below"] spDraw)
    (F__law_spoiled : Fn K mg "_law_spoiled" s__law_spoiled ["_law_deck_here", "_law_stream"] f9 fd9) (G__law_spoiled : FnOk P w K mg base CX0 3 f9 fd9 ["_law_deck_here", "_law_stream"] spSpoiled)
    (F__law_is_long : Fn K mg "_law_is_long" s__law_is_long ["_law_deck_here"] fa fda) (G__law_is_long : FnG P w K mg base 5 fa fda ["_law_deck_here"] spLong) :
    FnG P w K mg base 6 f fd ["_law_script"] (spLaw K) := by
  refine okG F.F sc_law (fun vs H Q E h => ?_) (fun cdv A outer s0 H vs Q E hr hG h => ?_)
  · obtain ⟨a, ns, rfl, _⟩ := h
    rfl
  · obtain ⟨a0, ns, rfl, hsc, hn, q⟩ := h
    refine ⟨_, (pss_cons (ps_set (i := 1) sc_law.nd rfl (.inr rfl) (pe_call G__law_deck (hr.mono (by decide)) (by rfl) F__law_deck.g F__law_deck.F.kp F__law_deck.b .nil pass0 (pa_cons (pv 0) pa_nil)))
      (pss_cons (ps_setLc (i := 2) (own := [("_law_go", 5)]) rfl sc_law.nd rfl rfl (sw_true rfl rfl rfl (by decide +kernel)) (pi_range1 (by rfl) B.n_range (pa_cons (pe_call G__law_pick (hr.mono (by decide)) (by rfl) F__law_pick.g F__law_pick.F.kp F__law_pick.b .nil pass0 (pa_cons (pv 1) (pa_cons (pe_lst (pa_cons pe_int (pa_cons pe_int (pa_cons pe_int (pa_cons pe_int (pa_cons pe_int (pa_cons pe_int pa_nil))))))) pa_nil))) pa_nil)) (blkOk_by (N := N_law) (sc := defScope s_law) (by decide +kernel)) (fun _ _ _ _ _ => (pg_name (i := 5) sc_law.nd rfl (Or.inl rfl))) (fun _ _ _ _ _ => pts_nil) (fun _ _ _ _ _ => (pe_call G__law_text (hr.mono (by decide)) (by rfl) F__law_text.g F__law_text.F.kp F__law_text.b .nil pass0 (pa_cons (pv 1) (pa_cons (pe_call G__law_size (hr.mono (by decide)) (by rfl) F__law_size.g F__law_size.F.kp F__law_size.b .nil pass0 (pa_cons (pv 1) pa_nil)) pa_nil)))))
      (pss_cons (ps_setLc (i := 3) (own := [("_law_text_here", 6)]) rfl sc_law.nd rfl rfl (sw_true rfl rfl rfl (by decide +kernel)) (pi_list (pv 2)) (blkOk_by (N := N_law) (sc := defScope s_law) (by decide +kernel)) (fun _ _ _ _ _ => (pg_name (i := 6) sc_law.nd rfl (Or.inl rfl))) (fun _ _ _ _ _ => pts_nil) (fun _ _ _ _ _ => (pe_op op_add_str (pe_op op_add_str (pe_op op_add_str (pe_callTy call_str_int (by rfl) B.n_str (by decide +kernel) (pa_cons (pe_callB call_len_str (by rfl) B.n_len (by decide +kernel) (pa_cons (pv 6) pa_nil)) pa_nil)) pe_str) (pv 6)) pe_str)))
      (pss_cons (ps_if (PW.pt (pw_or (pt_cmpR (op_neD hr.units) (pe_lc (own := [("_law_text_here", 6)]) rfl sc_law.nd (pi_list (pv 2)) (blkOk_by (N := N_law) (sc := defScope s_law) (by decide +kernel)) (fun _ _ _ _ _ => (pg_name (i := 6) sc_law.nd rfl (Or.inl rfl))) (fun _ _ _ _ _ => pts_nil) (fun _ _ _ _ _ => (pe_call G_frame (hr.mono (by decide)) (by rfl) F_frame.g F_frame.F.kp F_frame.b .nil pass0 (pa_cons (pv 6) pa_nil)))) (pv 3) (nomark _)) (pw_or1 (pt_cmpR (op_neD hr.units) (pe_lc (own := [("_law_text_here", 6)]) rfl sc_law.nd (pi_list (pv 2)) (blkOk_by (N := N_law) (sc := defScope s_law) (by decide +kernel)) (fun _ _ _ _ _ => (pg_name (i := 6) sc_law.nd rfl (Or.inl rfl))) (fun _ _ _ _ _ => pts_nil) (fun _ _ _ _ _ => (pe_callKwG (FnG.of G_frame) (hr.mono (by decide)) hG (by rfl) F_frame.g F_frame.F.kp K_frame_text (pk_cons (pv 6) pk_nil)))) (pv 3) (nomark _)))))
      (pss_one (ps_ret pe_bl))
      pss_nil)
      (pss_cons (ps_set (i := 4) sc_law.nd rfl (.inl rfl) (pe_join pe_str (pv 3)))
      (pss_cons (ps_if (PW.pt (pw_or (pt_cmpR (op_neD hr.units) (pe_call G_read (hr.mono (by decide)) (by rfl) F_read.g F_read.F.kp F_read.b .nil pass0 (pa_cons pe_str (pa_cons (pv 4) pa_nil))) (pe_tup (pa_cons pe_str (pa_cons (pe_callTy call_tuple_of (by rfl) B.n_tuple (by decide +kernel) (pa_cons (pv 2) pa_nil)) (pa_cons pe_str pa_nil)))) (nomark _)) (pw_or1 (pt_not (pt_val (pe_callG G__law_is_cut (hr.mono (by decide)) hG (by rfl) F__law_is_cut.g F__law_is_cut.F.kp F__law_is_cut.b (pa_cons (pv 1) (pa_cons pe_str (pa_cons (pv 4) pa_nil)))))))))
      (pss_one (ps_ret pe_bl))
      pss_nil)
      (pss_cons (ps_for PassesOwn.never rfl (pi_range1 (by rfl) B.n_range (pa_cons pe_int pa_nil)) (pg_name (i := 5) sc_law.nd rfl (Or.inl rfl))
      (pss_cons (ps_set (i := 6) sc_law.nd rfl (.inl rfl) (pe_call G__law_text (hr.mono (by decide)) (by rfl) F__law_text.g F__law_text.F.kp F__law_text.b .nil pass0 (pa_cons (pv 1) (pa_cons (pe_call G__law_pick (hr.mono (by decide)) (by rfl) F__law_pick.g F__law_pick.F.kp F__law_pick.b .nil pass0 (pa_cons (pv 1) (pa_cons (pe_lst (pa_cons pe_int (pa_cons pe_int (pa_cons pe_int (pa_cons pe_int (pa_cons pe_int (pa_cons pe_int pa_nil))))))) pa_nil))) pa_nil))))
        (pss_cons (ps_set (i := 7) sc_law.nd rfl (.inl rfl) (pe_op op_add_str (pe_op op_add_str (pe_op op_add_str (pe_callTy call_str_int (by rfl) B.n_str (by decide +kernel) (pa_cons (pe_callB call_len_str (by rfl) B.n_len (by decide +kernel) (pa_cons (pv 6) pa_nil)) pa_nil)) pe_str) (pv 6)) pe_str))
        (pss_cons (ps_set (i := 8) sc_law.nd rfl (.inl rfl) (pe_slice sl_str (pv 7) po_none (po_some (pe_call G__law_draw (hr.mono (by decide)) (by rfl) F__law_draw.g F__law_draw.F.kp F__law_draw.b .nil pass0 (pa_cons (pv 1) (pa_cons (pe_callB call_len_str (by rfl) B.n_len (by decide +kernel) (pa_cons (pv 7) pa_nil)) pa_nil))))))
        (pss_cons (ps_set (i := 9) sc_law.nd rfl (.inl rfl) (pe_ifMid (pt_cmpR op_lt (pv 5) pe_int (nomark _)) (pe_op op_add_str (pe_slice sl_str (pv 7) (po_some (pe_callB call_len_str (by rfl) B.n_len (by decide +kernel) (pa_cons (pv 8) pa_nil))) po_none) (pv 4)) (pv 4)))
        (pss_cons (ps_for PassesOwn.never rfl (pi_range1 (by rfl) B.n_range (pa_cons (pe_call G__law_draw (hr.mono (by decide)) (by rfl) F__law_draw.g F__law_draw.F.kp F__law_draw.b .nil pass0 (pa_cons (pv 1) (pa_cons pe_int pa_nil))) pa_nil)) (pg_name (i := 10) sc_law.nd rfl (Or.inl rfl))
        (pss_one (ps_set (i := 9) sc_law.nd rfl (.inl rfl) (pe_call G__law_spoiled (hr.mono (by decide)) (by rfl) F__law_spoiled.g F__law_spoiled.F.kp F__law_spoiled.b .nil pass0 (pa_cons (pv 1) (pa_cons (pv 9) pa_nil))))))
        (pss_one (ps_if (pt_not (pt_val (pe_callG G__law_is_cut (hr.mono (by decide)) hG (by rfl) F__law_is_cut.g F__law_is_cut.F.kp F__law_is_cut.b (pa_cons (pv 1) (pa_cons (pv 8) (pa_cons (pv 9) pa_nil))))))
        (pss_one (ps_ret pe_bl))
        pss_nil))))))))
      (pss_one (ps_ret (pe_or (pe_cmpR op_gt (pe_call G__law_draw (hr.mono (by decide)) (by rfl) F__law_draw.g F__law_draw.F.kp F__law_draw.b .nil pass0 (pa_cons (pv 1) (pa_cons pe_int pa_nil))) pe_int (nomark _)) (pe_one (pe_callG G__law_is_long (hr.mono (by decide)) hG (by rfl) F__law_is_long.g F__law_is_long.F.kp F__law_is_long.b (pa_cons (pv 1) pa_nil))))))))))))), ?_⟩
    have s6 : 6 ≤ sizeLine := sz (by decide)
    have s3 : 3 ≤ sizeLine := sz (by decide)
    refine ⟨_, rfl, a0, ns, rfl, hsc, hn, fun p c H1 hp hc sm1 dk => ?_⟩
    refine ⟨_, rfl, s6, fun L hL => ⟨p, c, _, rfl, dk.same (same_new hL), .inl ⟨L, _, rfl, At.new dk hL, by simp, by simp, fun r x H2 hx g2 => ?_⟩⟩⟩
    have hx' : ∃ m : Nat, x = .int (m : Int) ∧ m ≤ 6 := by
      match r, hx with
      | 0, hx => exact ⟨2, (Option.some.inj hx).symm, by decide⟩
      | 1, hx => exact ⟨3, (Option.some.inj hx).symm, by decide⟩
      | 2, hx => exact ⟨1, (Option.some.inj hx).symm, by decide⟩
      | 3, hx => exact ⟨4, (Option.some.inj hx).symm, by decide⟩
      | 4, hx => exact ⟨0, (Option.some.inj hx).symm, by decide⟩
      | 5, hx => exact ⟨6, (Option.some.inj hx).symm, by decide⟩
      | r + 6, hx => cases hx
    obtain ⟨m, rfl, hm⟩ := hx'
    have g2 := (Gx.new (o := .lst [.int 2, .int 3, .int 1, .int 4, .int 0, .int 6]) dk hL).trans g2
    refine ⟨_, rfl, by omega, by omega, fun D hD => ?_⟩
    have nD := g2.2.ne hD
    have hD0 := g2.free dk hD
    refine lc_all (walk_range (lo := 0) (n := ((m : Int)).toNat)) (fun H' => Gx p c H1 H') (fun _ y => ∃ z, isTextB z = true ∧ y = .str (S z)) (by omega) g2 (fun H' o g => g.put dk hD0 nD) (fun _ _ => trivial) ?_ ?_
    · rintro i x Ha Hb xs k hi g hxs ⟨rfl, rfl⟩ hk
      refine ⟨rfl, _, rfl, _, rfl, p, c, rfl, g.2, fun n H3 hn g3 => ⟨p, c, n, rfl, g3.2, hn, fun l H4 hl hln g4 => ?_⟩⟩
      exact hk _ _ ⟨l, tx_of hl (by omega), rfl⟩ ((g.trans g3).trans g4) (g4.1 D _ nD.1 nD.2 (g3.1 D _ nD.1 nD.2 hxs))
    intro H5 xs hl hv g5 hxs
    obtain ⟨ts, rfl, hlen, ht⟩ := txs_of (P := fun z => isTextB z = true) hv
    have htl : ts.length ≤ 6 := by omega
    clear hl hv hlen g2 hD hD0 hL
    -- the rows
    refine ⟨_, rfl, D, rfl, ⟨_, SqL.of hxs⟩, fun D2 hD2 => ?_⟩
    have nD2 := g5.2.ne hD2
    have n12 : D ≠ D2 := ne_of_none hxs hD2
    refine lc_all (walk_list (K := K) (a := D) (xs := txs ts)) (fun H' => Gx p c H5 H' ∧ H' D = some (.lst (txs ts))) (fun i y => ∃ t, ts[i]? = some t ∧ y = .str (S (frm t))) (by rw [txs_len]; omega) ⟨Gx.refl g5.2, hxs⟩ (fun H' o g => ⟨g.1.put g5.2 hD2 nD2, by rw [upd_ne n12]; exact g.2⟩) (fun _ g => SqL.of g.2) ?_ ?_
    · rintro i x Ha Hb xs k hi ⟨g, hT⟩ hxs ⟨rfl, hx⟩ hk
      obtain ⟨t, hti, rfl⟩ := txs_at hx
      have htt := ht t (List.mem_of_getElem? hti)
      have l12 := tx_len htt
      have n3 : (numL t.length).length ≤ 3 := numL_len3 (by omega)
      refine ⟨rfl, _, rfl, S t, rfl, sz (by rw [S_len]; omega), _, rfl, ?_, ?_⟩
      · rw [S_len]; exact log_small (Nat.lt_of_le_of_lt l12 (by decide))
      rw [S_len]
      refine ⟨_, _, congrArg V.str (toStr _), congrArg V.str colonS, ?_, ?_⟩
      · rw [S_len, S_len]; exact sz (by simp; omega)
      rw [S_cat]
      refine ⟨_, rfl, _, _, rfl, rfl, ?_, ?_⟩
      · rw [S_len, S_len]; exact sz (by simp; omega)
      rw [S_cat]
      refine ⟨_, _, rfl, congrArg V.str commaS, ?_, ?_⟩
      · rw [S_len, S_len]; exact sz (by simp; omega)
      rw [S_cat, show numL t.length ++ [58] ++ t ++ [44] = frm t by simp [frm]]
      exact hk _ _ ⟨t, hti, rfl⟩ ⟨g, hT⟩ hxs
    intro H6 xs hl hv ⟨g6, hT⟩ hR
    have exs : xs = txs (ts.map frm) := txs_all (by rw [hl, txs_len]) hv
    subst exs
    have g6 := g5.trans g6
    clear hl hv g5 hxs hD2
    have fl1 := frms_le ts ht
    have fas : ∀ u ∈ ts.map frm, asc u := fun u hu => by
      obtain ⟨t, ht', rfl⟩ := List.mem_map.mp hu
      exact asc_frm (ht t ht')
    have fit := fit_lst fas (by rw [List.length_map]; omega)
    -- the frames of the program
    refine ⟨_, rfl, D, rfl, ⟨_, SqL.of hT⟩, fun D3 hD3 => ?_⟩
    have nD3 := g6.2.ne hD3
    have n13 : D ≠ D3 := ne_of_none hT hD3
    have n23 : D2 ≠ D3 := ne_of_none hR hD3
    refine lc_all (walk_list (K := K) (a := D) (xs := txs ts)) (fun H' => Gx p c H6 H' ∧ H' D = some (.lst (txs ts)) ∧ H' D2 = some (.lst (txs (ts.map frm)))) (fun i y => ∃ t, ts[i]? = some t ∧ y = .str (S (frm t))) (by rw [txs_len]; omega) ⟨Gx.refl g6.2, hT, hR⟩ (fun H' o g => ⟨g.1.put g6.2 hD3 nD3, by rw [upd_ne n13]; exact g.2.1, by rw [upd_ne n23]; exact g.2.2⟩) (fun _ g => SqL.of g.2.1) ?_ ?_
    · rintro i x Ha Hb xs k hi ⟨g, hT, hR⟩ hxs ⟨rfl, hx⟩ hk
      obtain ⟨t, hti, rfl⟩ := txs_at hx
      exact ⟨rfl, _, rfl, t, rfl, ht t (List.mem_of_getElem? hti), hk _ _ ⟨t, hti, rfl⟩ ⟨g, hT, hR⟩ hxs⟩
    rintro H7 xs hl hv ⟨g7, hT, hR⟩ h3
    have exs : xs = txs (ts.map frm) := txs_all (by rw [hl, txs_len]) hv
    subst exs
    have g7 := g6.trans g7
    clear hl hv g6 hD3
    refine ⟨_, rfl, _, _, dp_lst h3, dp_lst hR, fit.shaped, fit.shaped, _, rfl, ?_⟩
    rw [fit.refl]
    refine iteF ?_
    clear h3
    refine ⟨_, rfl, D, rfl, ⟨_, SqL.of hT⟩, fun D3 hD3 => ?_⟩
    have nD3 := g7.2.ne hD3
    have n13 : D ≠ D3 := ne_of_none hT hD3
    have n23 : D2 ≠ D3 := ne_of_none hR hD3
    refine lc_all (walk_list (K := K) (a := D) (xs := txs ts)) (fun H' => Gx p c H7 H' ∧ H' D = some (.lst (txs ts)) ∧ H' D2 = some (.lst (txs (ts.map frm)))) (fun i y => ∃ t, ts[i]? = some t ∧ y = .str (S (frm t))) (by rw [txs_len]; omega) ⟨Gx.refl g7.2, hT, hR⟩ (fun H' o g => ⟨g.1.put g7.2 hD3 nD3, by rw [upd_ne n13]; exact g.2.1, by rw [upd_ne n23]; exact g.2.2⟩) (fun _ g => SqL.of g.2.1) ?_ ?_
    · rintro i x Ha Hb xs k hi ⟨g, hT, hR⟩ hxs ⟨rfl, hx⟩ hk
      obtain ⟨t, hti, rfl⟩ := txs_at hx
      exact ⟨rfl, _, rfl, rfl, t, rfl, ht t (List.mem_of_getElem? hti), hk _ _ ⟨t, hti, rfl⟩ ⟨g, hT, hR⟩ hxs⟩
    rintro H8 xs hl hv ⟨g8, hT, hR⟩ h3
    have exs : xs = txs (ts.map frm) := txs_all (by rw [hl, txs_len]) hv
    subst exs
    have g8 := g7.trans g8
    clear hl hv g7 hD3
    refine ⟨_, rfl, _, _, dp_lst h3, dp_lst hR, fit.shaped, fit.shaped, _, rfl, ?_⟩
    rw [fit.refl]
    refine iteF ?_
    clear h3 n13 n23 nD3
    -- the stream
    have hRj : H8 D2 = some (.lst (((ts.map frm).map S).map V.str)) := by
      rw [hR]
      unfold txs
      rw [List.map_map (l := ts.map frm)]
      rfl
    refine ⟨⟨_, rfl⟩, _, rfl, _, D2, (ts.map frm).map S, rfl, rfl, .inl (SqL.of hRj), ?_, ?_⟩
    · rw [len_sum, emptyS, S_len, List.length_nil, Nat.mul_zero]
      omega
    rw [emptyS, SX.join_S, joinL_nil]
    have o1 : lr [] none ([] ++ (ts.map frm).flatten) = .read ts [] := by
      have := lr_frms ts ht []
      rw [List.append_nil] at this
      rw [List.nil_append, this, lr_nil]
      simp [Out.pre, glue]
    have sas := frms_asc ts ht
    generalize hst : (ts.map frm).flatten = W at o1 sas fl1
    have fo : FitO (.read ts []) := by
      have := fit_lr (s := []) (t := none) (.inl rfl) (z := [] ++ W) (by rw [List.nil_append]; omega)
      rw [o1] at this
      exact this
    refine ⟨_, rfl, [], W, rfl, rfl, by decide, by omega, fun a1 H9 ha1 sm9 p1 => ?_⟩
    rw [o1] at p1
    have hT := sm9 _ _ hT
    have g9 := g8.trans (Gx.same g8.2 sm9)
    refine ⟨_, rfl, D, _, rfl, .inl ⟨SqL.of hT, fun u hu => ⟨s3, fun q1 hq1 => ?_⟩⟩⟩
    have sm10 := same_new (o := .tup (txs ts)) hu
    have hu10 : upd H9 u (.tup (txs ts)) u = some (.tup (txs ts)) := upd_same
    generalize upd H9 u (.tup (txs ts)) = H10 at sm10 hu10 hq1 ⊢
    have sm11 := same_new (o := .tup [.str (Str.ofString "read"), .ref u, .str (S [])]) hq1
    have dp2 : Dp K (upd H10 q1 (.tup [.str (Str.ofString "read"), .ref u, .str (S [])])) (.ref q1) (outD (.read ts [])) := .tup (SqT.of upd_same) (.cons (.str _) (.cons (dp_tx (sm11 _ _ hu10)) (.cons (.str _) .nil)))
    have dp1 := dp_out (K := K) (out_same (out_same p1 sm10) sm11)
    have g11 := (g9.trans (Gx.same g9.2 sm10)).trans (Gx.same (g9.2.same sm10) sm11)
    generalize upd H10 q1 (.tup [.str (Str.ofString "read"), .ref u, .str (S [])]) = H11 at dp1 dp2 g11 ⊢
    clear sm10 sm11 hu10 hq1 sm9 p1 g9 hT hRj hR nD nD2 n12 g8 hc hp sm1
    refine ⟨_, _, dp1, dp2, fo.one.shaped, fo.one.shaped, _, rfl, ?_⟩
    rw [fo.one.refl]
    refine iteF ?_
    clear dp1 dp2
    refine ⟨_, rfl, _, rfl, p, c, [], W, none, rfl, g11.2, .inl rfl, by omega, fun H12 g12 => ?_⟩
    have g12 := g11.trans g12
    refine ⟨_, rfl, ?_⟩
    refine iteF ?_
    clear g11
    -- four turns
    refine ⟨_, rfl, by decide, by decide, ?_⟩
    refine for_range (lo := 0) (n := 4) (fun i σ H' => ∃ x5 x6 x7 x8 x9 x10 : Option V, σ = [some (.ref a0), some (.ref p), some (.ref D), some (.ref D2), some (.str (S W)), x5, x6, x7, x8, x9, x10] ∧ Gx p c H1 H') ⟨_, _, _, _, _, _, rfl, g12⟩ ?_ ?_
    · rintro i σ Hi hi ⟨x5, x6, x7, x8, x9, x10, rfl, g⟩
      refine ⟨_, rfl, _, rfl, s6, fun L hL => ⟨p, c, _, rfl, g.2.same (same_new hL), .inl ⟨L, _, rfl, At.new g.2 hL, by simp, by simp, fun r x Ha hx ga => ?_⟩⟩⟩
      have hx' : ∃ m : Nat, x = .int (m : Int) ∧ m ≤ 200 := by
        match r, hx with
        | 0, hx => exact ⟨3, (Option.some.inj hx).symm, by decide⟩
        | 1, hx => exact ⟨0, (Option.some.inj hx).symm, by decide⟩
        | 2, hx => exact ⟨12, (Option.some.inj hx).symm, by decide⟩
        | 3, hx => exact ⟨100, (Option.some.inj hx).symm, by decide⟩
        | 4, hx => exact ⟨200, (Option.some.inj hx).symm, by decide⟩
        | 5, hx => exact ⟨1, (Option.some.inj hx).symm, by decide⟩
        | r + 6, hx => cases hx
      obtain ⟨m, rfl, hm⟩ := hx'
      have ga := g.trans ((Gx.new (o := .lst [.int 3, .int 0, .int 12, .int 100, .int 200, .int 1]) g.2 hL).trans ga)
      refine ⟨p, c, m, rfl, ga.2, hm, fun t Hb hl hln gb => ?_⟩
      have l12 : t.length ≤ 200 := by omega
      have pt := tx_of hl l12
      have gb := ga.trans gb
      have n3 : (numL t.length).length ≤ 3 := numL_len3 (by omega)
      refine ⟨_, rfl, S t, rfl, sz (by rw [S_len]; omega), _, rfl, ?_, ?_⟩
      · rw [S_len]; exact log_small (Nat.lt_of_le_of_lt l12 (by decide))
      rw [S_len]
      refine ⟨_, _, congrArg V.str (toStr _), congrArg V.str colonS, ?_, ?_⟩
      · rw [S_len, S_len]; exact sz (by simp; omega)
      rw [S_cat]
      refine ⟨_, rfl, _, _, rfl, rfl, ?_, ?_⟩
      · rw [S_len, S_len]; exact sz (by simp; omega)
      rw [S_cat]
      refine ⟨_, _, rfl, congrArg V.str commaS, ?_, ?_⟩
      · rw [S_len, S_len]; exact sz (by simp; omega)
      rw [S_cat, show numL t.length ++ [58] ++ t ++ [44] = frm t by simp [frm]]
      have hf1 := frm_le l12
      have hf2 := frm_len t
      clear ga n3
      -- ahead
      refine ⟨_, rfl, _, rfl, _, rfl, S (frm t), rfl, sz (by rw [S_len]; omega), ?_⟩
      rw [S_len]
      refine ⟨p, c, _, rfl, gb.2, by omega, by omega, fun r Hc hr gc => ⟨_, rfl, S (frm t), rfl, sz (by rw [S_len]; omega), ?_⟩⟩
      rw [cut_to]
      have gc := gb.trans gc
      obtain ⟨s', t', vd, ea⟩ := prefix_rest pt (m := r) (by omega)
      have hla : ((frm t).take r).length ≤ (frm t).length := by rw [List.length_take]; omega
      generalize (frm t).take r = ah at ea hla
      -- near
      refine ⟨fun v H' => ∃ z, v = .str (S z) ∧ asc z ∧ z.length ≤ 1440 ∧ Gx p c H1 H', fun Q' k => ?_, ?_⟩
      · refine ⟨_, rfl, _, _, rfl, rfl, _, rfl, ?_⟩
        refine ite3 ?_ ⟨_, rfl, k _ _ ⟨W, rfl, sas, by omega, gc⟩⟩
        refine ⟨_, rfl, _, rfl, S ah, rfl, sz (by rw [S_len]; omega), _, rfl, S (frm t), rfl, sz (by rw [S_len]; omega), ?_⟩
        rw [S_len, cut_from hla]
        refine ⟨_, rfl, _, _, rfl, rfl, sz (by rw [S_len, S_len, List.length_drop]; omega), ?_⟩
        rw [S_cat]
        exact k _ _ ⟨_, rfl, asc_app (fun c hc => asc_frm pt c (List.mem_of_mem_drop hc)) sas, by rw [List.length_append, List.length_drop]; omega, gc⟩
      rintro _ Hd ⟨z0, rfl, az0, lz0, gd⟩
      refine ⟨_, rfl, p, c, 3, rfl, gd.2, by decide, by decide, fun n He hn3 ge => ?_⟩
      have ge := gd.trans ge
      refine ⟨_, rfl, by omega, by omega, ?_⟩
      refine for_range (lo := 0) (n := ((n : Nat) : Int).toNat) (fun j σ H' => ∃ (z : List Nat) (y10 : Option V), σ = [some (.ref a0), some (.ref p), some (.ref D), some (.ref D2), some (.str (S W)), some (.int (0 + (i : Int))), some (.str (S t)), some (.str (S (frm t))), some (.str (S ah)), some (.str (S z)), y10] ∧ asc z ∧ (j = 0 → z.length ≤ 1440) ∧ (j = 1 → z.length ≤ 5761) ∧ z.length ≤ 23045 ∧ Gx p c H1 H') ⟨z0, _, rfl, az0, fun _ => lz0, fun _ => by omega, by omega, ge⟩ ?_ ?_
      · rintro j σ Hf hj ⟨z, y10, rfl, az, b0, b1, b2, gf⟩
        have hj' : j = 0 ∨ j = 1 := by omega
        have hz : z.length ≤ 5761 := by
          rcases hj' with h | h
          · have := b0 h; omega
          · exact b1 h
        refine ⟨_, rfl, _, rfl, p, c, z, rfl, gf.2, az, by omega, fun z' Hg az' lz' gg => ?_⟩
        exact ⟨z', _, rfl, az', fun h => by omega, fun h => by have := b0 (by omega); omega, by omega, gf.trans gg⟩
      · rintro σ Hf ⟨z, y10, rfl, az, _, _, b2, gf⟩
        refine ⟨_, rfl, _, rfl, _, rfl, p, c, s', z, t', by rw [ea]; rfl, gf.2, vd, by omega, fun Hg gg => ?_⟩
        refine ⟨_, rfl, ?_⟩
        refine iteF ?_
        exact ⟨_, _, _, _, _, _, rfl, gf.trans gg⟩
    · rintro σ Hf ⟨x5, x6, x7, x8, x9, x10, rfl, g⟩
      refine ⟨_, rfl, p, c, 4, rfl, g.2, by decide, by decide, fun r Hg hr gg => ⟨_, _, rfl, rfl, _, rfl, ?_⟩⟩
      refine ite3 (q _) ⟨_, rfl, p, c, rfl, gg.2, fun H' _ => q H'⟩
end
end Ag

end
/-! ## L11 -/
section
set_option linter.all false
set_option maxRecDepth 100000
namespace Ag
open PySem PySem.Spec PyProof.Rows L2
theorem kwb1 {K : PySem.W.Frag} {fd : FuncData} (h : ∀ (s : Shared) (a : Value), BindsTo s fd ⟨[], [("text", a)]⟩ [("text", a)]) : KwB K fd ["text"] ["text"] id1 id1V :=
  ⟨fun s ws hl => match ws, hl with | [a], _ => h s a, fun _ r => r⟩
theorem kwb2 {K : PySem.W.Frag} {fd : FuncData} (h : ∀ (s : Shared) (a b : Value), BindsTo s fd ⟨[], [("piece", a), ("rest", b)]⟩ [("rest", b), ("piece", a)]) : KwB K fd ["rest", "piece"] ["piece", "rest"] sw2 sw2V :=
  ⟨fun s ws hl => match ws, hl with | [a, b], _ => h s a b, fun {zs ws} hl r => by
    match zs, ws, hl, r with
    | [_, _], [_, _], _, .cons ra (.cons rb .nil) => exact .cons rb (.cons ra .nil)⟩
theorem all_mk {l : PySem.W.OpenLaw} {w : World} {K : PySem.W.Frag} {h : Heap} {mg : Str → Option Value} {fa f0 f1 f2 f3 f4 f5 f6 f7 f8 f9 f10 f11 f12 f13 f14 f15 f16 f17 f18 f19 f20 : Addr} (X : K.In h) (G : h.Ns mainGlobals mg) (hfa : mg "law" = some (.ref fa))
    {od0 an0 od1 an1 od2 an2 od3 an3 od4 an4 od5 an5 od6 an6 od7 an7 od8 an8 od9 an9 od10 an10 od11 an11 od12 an12 od13 an13 od14 an14 od15 an15 od16 an16 od17 an17 od18 an18 od19 an19 od20 an20 : Option Addr} {sl0 sl1 sl2 sl3 sl4 sl5 sl6 sl7 sl8 sl9 sl10 sl11 sl12 sl13 sl14 sl15 sl16 sl17 sl18 sl19 sl20 : Array (Option Value)} {oc0 kV0 dc0 pm0 cd0 ct0 oc1 kV1 dc1 pm1 cd1 ct1 oc2 kV2 dc2 pm2 cd2 ct2 oc3 kV3 dc3 pm3 cd3 ct3 oc4 kV4 dc4 pm4 cd4 ct4 oc5 kV5 dc5 pm5 cd5 ct5 oc6 kV6 dc6 pm6 cd6 ct6 oc7 kV7 dc7 pm7 cd7 ct7 oc8 kV8 dc8 pm8 cd8 ct8 oc9 kV9 dc9 pm9 cd9 ct9 oc10 kV10 dc10 pm10 cd10 ct10 oc11 kV11 dc11 pm11 cd11 ct11 oc12 kV12 dc12 pm12 cd12 ct12 oc13 kV13 dc13 pm13 cd13 ct13 oc14 kV14 dc14 pm14 cd14 ct14 oc15 kV15 dc15 pm15 cd15 ct15 oc16 kV16 dc16 pm16 cd16 ct16 oc17 kV17 dc17 pm17 cd17 ct17 oc18 kV18 dc18 pm18 cd18 ct18 oc19 kV19 dc19 pm19 cd19 ct19 oc20 kV20 dc20 pm20 cd20 ct20 : Value} {tm : Tok}
    (a0 : PySem.W.nsIn K mainGlobals "is_plain" = some (some (.ref f0))) (l0 : K.lookup f0 = some ⟨oc0, od0, .func (PySem.W.fnOf "is_plain" "is_plain" (defArgs s_is_plain) (defBody s_is_plain) (defScope s_is_plain) .none kV0 dc0 pm0 an0 cd0 ct0), sl0⟩) (c0 : PySem.W.codeIn K cd0 "is_plain" = true) (k0 : PySem.W.keepIn K (.ref f0) = true)
    (a1 : PySem.W.nsIn K mainGlobals "is_decimal" = some (some (.ref f1))) (l1 : K.lookup f1 = some ⟨oc1, od1, .func (PySem.W.fnOf "is_decimal" "is_decimal" (defArgs s_is_decimal) (defBody s_is_decimal) (defScope s_is_decimal) .none kV1 dc1 pm1 an1 cd1 ct1), sl1⟩) (c1 : PySem.W.codeIn K cd1 "is_decimal" = true) (k1 : PySem.W.keepIn K (.ref f1) = true)
    (a2 : PySem.W.nsIn K mainGlobals "is_text" = some (some (.ref f2))) (l2 : K.lookup f2 = some ⟨oc2, od2, .func (PySem.W.fnOf "is_text" "is_text" (defArgs s_is_text) (defBody s_is_text) (defScope s_is_text) .none kV2 dc2 pm2 an2 cd2 ct2), sl2⟩) (c2 : PySem.W.codeIn K cd2 "is_text" = true) (k2 : PySem.W.keepIn K (.ref f2) = true)
    (a3 : PySem.W.nsIn K mainGlobals "is_rest" = some (some (.ref f3))) (l3 : K.lookup f3 = some ⟨oc3, od3, .func (PySem.W.fnOf "is_rest" "is_rest" (defArgs s_is_rest) (defBody s_is_rest) (defScope s_is_rest) .none kV3 dc3 pm3 an3 cd3 ct3), sl3⟩) (c3 : PySem.W.codeIn K cd3 "is_rest" = true) (k3 : PySem.W.keepIn K (.ref f3) = true)
    (a4 : PySem.W.nsIn K mainGlobals "digits_end" = some (some (.ref f4))) (l4 : K.lookup f4 = some ⟨oc4, od4, .func (PySem.W.fnOf "digits_end" "digits_end" (defArgs s_digits_end) (defBody s_digits_end) (defScope s_digits_end) .none kV4 dc4 pm4 an4 cd4 ct4), sl4⟩) (c4 : PySem.W.codeIn K cd4 "digits_end" = true) (k4 : PySem.W.keepIn K (.ref f4) = true)
    (a5 : PySem.W.nsIn K mainGlobals "plain_end" = some (some (.ref f5))) (l5 : K.lookup f5 = some ⟨oc5, od5, .func (PySem.W.fnOf "plain_end" "plain_end" (defArgs s_plain_end) (defBody s_plain_end) (defScope s_plain_end) .none kV5 dc5 pm5 an5 cd5 ct5), sl5⟩) (c5 : PySem.W.codeIn K cd5 "plain_end" = true) (k5 : PySem.W.keepIn K (.ref f5) = true)
    (a6 : PySem.W.nsIn K mainGlobals "next_frame" = some (some (.ref f6))) (l6 : K.lookup f6 = some ⟨oc6, od6, .func (PySem.W.fnOf "next_frame" "next_frame" (defArgs s_next_frame) (defBody s_next_frame) (defScope s_next_frame) .none kV6 dc6 pm6 an6 cd6 ct6), sl6⟩) (c6 : PySem.W.codeIn K cd6 "next_frame" = true) (k6 : PySem.W.keepIn K (.ref f6) = true)
    (a7 : PySem.W.nsIn K mainGlobals "frame" = some (some (.ref f7))) (l7 : K.lookup f7 = some ⟨oc7, od7, .func (PySem.W.fnOf "frame" "frame" (defArgs s_frame) (defBody s_frame) (defScope s_frame) .none kV7 dc7 pm7 an7 cd7 ct7), sl7⟩) (c7 : PySem.W.codeIn K cd7 "frame" = true) (k7 : PySem.W.keepIn K (.ref f7) = true)
    (a8 : PySem.W.nsIn K mainGlobals "read" = some (some (.ref f8))) (l8 : K.lookup f8 = some ⟨oc8, od8, .func (PySem.W.fnOf "read" "read" (defArgs s_read) (defBody s_read) (defScope s_read) .none kV8 dc8 pm8 an8 cd8 ct8), sl8⟩) (c8 : PySem.W.codeIn K cd8 "read" = true) (k8 : PySem.W.keepIn K (.ref f8) = true)
    (a9 : PySem.W.nsIn K mainGlobals "_law_deck" = some (some (.ref f9))) (l9 : K.lookup f9 = some ⟨oc9, od9, .func (PySem.W.fnOf "_law_deck" "_law_deck" (defArgs s__law_deck) (defBody s__law_deck) (defScope s__law_deck) .none kV9 dc9 pm9 an9 cd9 ct9), sl9⟩) (c9 : PySem.W.codeIn K cd9 "_law_deck" = true) (k9 : PySem.W.keepIn K (.ref f9) = true)
    (a10 : PySem.W.nsIn K mainGlobals "_law_draw" = some (some (.ref f10))) (l10 : K.lookup f10 = some ⟨oc10, od10, .func (PySem.W.fnOf "_law_draw" "_law_draw" (defArgs s__law_draw) (defBody s__law_draw) (defScope s__law_draw) .none kV10 dc10 pm10 an10 cd10 ct10), sl10⟩) (c10 : PySem.W.codeIn K cd10 "_law_draw" = true) (k10 : PySem.W.keepIn K (.ref f10) = true)
    (a11 : PySem.W.nsIn K mainGlobals "_law_pick" = some (some (.ref f11))) (l11 : K.lookup f11 = some ⟨oc11, od11, .func (PySem.W.fnOf "_law_pick" "_law_pick" (defArgs s__law_pick) (defBody s__law_pick) (defScope s__law_pick) .none kV11 dc11 pm11 an11 cd11 ct11), sl11⟩) (c11 : PySem.W.codeIn K cd11 "_law_pick" = true) (k11 : PySem.W.keepIn K (.ref f11) = true)
    (a12 : PySem.W.nsIn K mainGlobals "_law_signs" = some (some (.ref f12))) (l12 : K.lookup f12 = some ⟨oc12, od12, .func (PySem.W.fnOf "_law_signs" "_law_signs" (defArgs s__law_signs) (defBody s__law_signs) (defScope s__law_signs) .none kV12 dc12 pm12 an12 cd12 ct12), sl12⟩) (c12 : PySem.W.codeIn K cd12 "_law_signs" = true) (k12 : PySem.W.keepIn K (.ref f12) = true)
    (a13 : PySem.W.nsIn K mainGlobals "_law_size" = some (some (.ref f13))) (l13 : K.lookup f13 = some ⟨oc13, od13, .func (PySem.W.fnOf "_law_size" "_law_size" (defArgs s__law_size) (defBody s__law_size) (defScope s__law_size) .none kV13 dc13 pm13 an13 cd13 ct13), sl13⟩) (c13 : PySem.W.codeIn K cd13 "_law_size" = true) (k13 : PySem.W.keepIn K (.ref f13) = true)
    (a14 : PySem.W.nsIn K mainGlobals "_law_text" = some (some (.ref f14))) (l14 : K.lookup f14 = some ⟨oc14, od14, .func (PySem.W.fnOf "_law_text" "_law_text" (defArgs s__law_text) (defBody s__law_text) (defScope s__law_text) .none kV14 dc14 pm14 an14 cd14 ct14), sl14⟩) (c14 : PySem.W.codeIn K cd14 "_law_text" = true) (k14 : PySem.W.keepIn K (.ref f14) = true)
    (a15 : PySem.W.nsIn K mainGlobals "_law_read" = some (some (.ref f15))) (l15 : K.lookup f15 = some ⟨oc15, od15, .func (PySem.W.fnOf "_law_read" "_law_read" (defArgs s__law_read) (defBody s__law_read) (defScope s__law_read) .none kV15 dc15 pm15 an15 cd15 ct15), sl15⟩) (c15 : PySem.W.codeIn K cd15 "_law_read" = true) (k15 : PySem.W.keepIn K (.ref f15) = true)
    (a16 : PySem.W.nsIn K mainGlobals "_law_pieces" = some (some (.ref f16))) (l16 : K.lookup f16 = some ⟨oc16, od16, .func (PySem.W.fnOf "_law_pieces" "_law_pieces" (defArgs s__law_pieces) (defBody s__law_pieces) (defScope s__law_pieces) .none kV16 dc16 pm16 an16 cd16 ct16), sl16⟩) (c16 : PySem.W.codeIn K cd16 "_law_pieces" = true) (k16 : PySem.W.keepIn K (.ref f16) = true)
    (a17 : PySem.W.nsIn K mainGlobals "_law_spoiled" = some (some (.ref f17))) (l17 : K.lookup f17 = some ⟨oc17, od17, .func (PySem.W.fnOf "_law_spoiled" "_law_spoiled" (defArgs s__law_spoiled) (defBody s__law_spoiled) (defScope s__law_spoiled) .none kV17 dc17 pm17 an17 cd17 ct17), sl17⟩) (c17 : PySem.W.codeIn K cd17 "_law_spoiled" = true) (k17 : PySem.W.keepIn K (.ref f17) = true)
    (a18 : PySem.W.nsIn K mainGlobals "_law_is_cut" = some (some (.ref f18))) (l18 : K.lookup f18 = some ⟨oc18, od18, .func (PySem.W.fnOf "_law_is_cut" "_law_is_cut" (defArgs s__law_is_cut) (defBody s__law_is_cut) (defScope s__law_is_cut) .none kV18 dc18 pm18 an18 cd18 ct18), sl18⟩) (c18 : PySem.W.codeIn K cd18 "_law_is_cut" = true) (k18 : PySem.W.keepIn K (.ref f18) = true)
    (a19 : PySem.W.nsIn K mainGlobals "_law_is_long" = some (some (.ref f19))) (l19 : K.lookup f19 = some ⟨oc19, od19, .func (PySem.W.fnOf "_law_is_long" "_law_is_long" (defArgs s__law_is_long) (defBody s__law_is_long) (defScope s__law_is_long) .none kV19 dc19 pm19 an19 cd19 ct19), sl19⟩) (c19 : PySem.W.codeIn K cd19 "_law_is_long" = true) (k19 : PySem.W.keepIn K (.ref f19) = true)
    (a20 : PySem.W.nsIn K mainGlobals "law" = some (some (.ref f20))) (l20 : K.lookup f20 = some ⟨oc20, od20, .func (PySem.W.fnOf "law" "law" (defArgs s_law) (defBody s_law) (defScope s_law) .none kV20 dc20 pm20 an20 cd20 ct20), sl20⟩) (c20 : PySem.W.codeIn K cd20 "law" = true) (k20 : PySem.W.keepIn K (.ref f20) = true)
    (z0 : PySem.W.nsIn K mainGlobals "len" = some none)
    (z1 : PySem.W.nsIn K mainGlobals "str" = some none)
    (z2 : PySem.W.nsIn K mainGlobals "int" = some none)
    (z3 : PySem.W.nsIn K mainGlobals "isinstance" = some none)
    (z4 : PySem.W.nsIn K mainGlobals "range" = some none)
    (z5 : PySem.W.nsIn K mainGlobals "enumerate" = some none)
    (z6 : PySem.W.nsIn K mainGlobals "tuple" = some none)
    (z7 : PySem.W.nsIn K mainGlobals "list" = some none)
    (z8 : PySem.W.nsIn K mainGlobals "max" = some none)
    (z9 : PySem.W.nsIn K mainGlobals "min" = some none)
    (z10 : PySem.W.nsIn K mainGlobals "sorted" = some none)
    (z11 : PySem.W.nsIn K mainGlobals "repr" = some none)
    (tx : PySem.W.nsIn K mainGlobals "TEXT_MOST" = some (some (.int 200 tm))) :
    ∃ fd : FuncData, (∀ (s : Shared) (v : Value), BindsTo s fd ⟨[v], []⟩ [("_law_script", v)]) ∧ ∀ base : Heap, K.In base → base.Ns mainGlobals mg → FnG l.prog w K mg base 6 fa fd ["_law_script"] (spLaw K) := by
  have e := hfa.symm.trans (PySem.W.mg_of X G a20)
  cases e
  have B : Blt mg := ⟨PySem.W.mg_none_of X G z0, PySem.W.mg_none_of X G z1, PySem.W.mg_none_of X G z2, PySem.W.mg_none_of X G z3, PySem.W.mg_none_of X G z4, PySem.W.mg_none_of X G z5, PySem.W.mg_none_of X G z6, PySem.W.mg_none_of X G z7, PySem.W.mg_none_of X G z8, PySem.W.mg_none_of X G z9, PySem.W.mg_none_of X G z10, PySem.W.mg_none_of X G z11⟩
  have C : Con mg tm := ⟨B, PySem.W.mg_of X G tx⟩
  have U0 := fun_mk (st := s_is_plain) l0 c0 k0
  have b0 := U0.binds (ps := ["string"]) fun _ _ _ _ _ _ us hl => match us, hl with | [_], _ => rfl
  have F0 : Fn K mg "is_plain" s_is_plain ["string"] _ _ := ⟨U0, b0, PySem.W.mg_of X G a0⟩
  have U1 := fun_mk (st := s_is_decimal) l1 c1 k1
  have b1 := U1.binds (ps := ["string", "most"]) fun _ _ _ _ _ _ us hl => match us, hl with | [_, _], _ => rfl
  have F1 : Fn K mg "is_decimal" s_is_decimal ["string", "most"] _ _ := ⟨U1, b1, PySem.W.mg_of X G a1⟩
  have U2 := fun_mk (st := s_is_text) l2 c2 k2
  have b2 := U2.binds (ps := ["thing"]) fun _ _ _ _ _ _ us hl => match us, hl with | [_], _ => rfl
  have F2 : Fn K mg "is_text" s_is_text ["thing"] _ _ := ⟨U2, b2, PySem.W.mg_of X G a2⟩
  have U3 := fun_mk (st := s_is_rest) l3 c3 k3
  have b3 := U3.binds (ps := ["thing"]) fun _ _ _ _ _ _ us hl => match us, hl with | [_], _ => rfl
  have F3 : Fn K mg "is_rest" s_is_rest ["thing"] _ _ := ⟨U3, b3, PySem.W.mg_of X G a3⟩
  have U4 := fun_mk (st := s_digits_end) l4 c4 k4
  have b4 := U4.binds (ps := ["stream", "start"]) fun _ _ _ _ _ _ us hl => match us, hl with | [_, _], _ => rfl
  have F4 : Fn K mg "digits_end" s_digits_end ["stream", "start"] _ _ := ⟨U4, b4, PySem.W.mg_of X G a4⟩
  have U5 := fun_mk (st := s_plain_end) l5 c5 k5
  have b5 := U5.binds (ps := ["stream", "start", "stop"]) fun _ _ _ _ _ _ us hl => match us, hl with | [_, _, _], _ => rfl
  have F5 : Fn K mg "plain_end" s_plain_end ["stream", "start", "stop"] _ _ := ⟨U5, b5, PySem.W.mg_of X G a5⟩
  have U6 := fun_mk (st := s_next_frame) l6 c6 k6
  have b6 := U6.binds (ps := ["stream", "start"]) fun _ _ _ _ _ _ us hl => match us, hl with | [_, _], _ => rfl
  have F6 : Fn K mg "next_frame" s_next_frame ["stream", "start"] _ _ := ⟨U6, b6, PySem.W.mg_of X G a6⟩
  have U7 := fun_mk (st := s_frame) l7 c7 k7
  have b7 := U7.binds (ps := ["text"]) fun _ _ _ _ _ _ us hl => match us, hl with | [_], _ => rfl
  have F7 : Fn K mg "frame" s_frame ["text"] _ _ := ⟨U7, b7, PySem.W.mg_of X G a7⟩
  have U8 := fun_mk (st := s_read) l8 c8 k8
  have b8 := U8.binds (ps := ["rest", "piece"]) fun _ _ _ _ _ _ us hl => match us, hl with | [_, _], _ => rfl
  have F8 : Fn K mg "read" s_read ["rest", "piece"] _ _ := ⟨U8, b8, PySem.W.mg_of X G a8⟩
  have U9 := fun_mk (st := s__law_deck) l9 c9 k9
  have b9 := U9.binds (ps := ["_law_script"]) fun _ _ _ _ _ _ us hl => match us, hl with | [_], _ => rfl
  have F9 : Fn K mg "_law_deck" s__law_deck ["_law_script"] _ _ := ⟨U9, b9, PySem.W.mg_of X G a9⟩
  have U10 := fun_mk (st := s__law_draw) l10 c10 k10
  have b10 := U10.binds (ps := ["_law_deck_here", "_law_below"]) fun _ _ _ _ _ _ us hl => match us, hl with | [_, _], _ => rfl
  have F10 : Fn K mg "_law_draw" s__law_draw ["_law_deck_here", "_law_below"] _ _ := ⟨U10, b10, PySem.W.mg_of X G a10⟩
  have U11 := fun_mk (st := s__law_pick) l11 c11 k11
  have b11 := U11.binds (ps := ["_law_deck_here", "_law_some"]) fun _ _ _ _ _ _ us hl => match us, hl with | [_, _], _ => rfl
  have F11 : Fn K mg "_law_pick" s__law_pick ["_law_deck_here", "_law_some"] _ _ := ⟨U11, b11, PySem.W.mg_of X G a11⟩
  have U12 := fun_mk (st := s__law_signs) l12 c12 k12
  have b12 := U12.binds (ps := []) fun _ _ _ _ _ _ us hl => match us, hl with | [], _ => rfl
  have F12 : Fn K mg "_law_signs" s__law_signs [] _ _ := ⟨U12, b12, PySem.W.mg_of X G a12⟩
  have U13 := fun_mk (st := s__law_size) l13 c13 k13
  have b13 := U13.binds (ps := ["_law_deck_here"]) fun _ _ _ _ _ _ us hl => match us, hl with | [_], _ => rfl
  have F13 : Fn K mg "_law_size" s__law_size ["_law_deck_here"] _ _ := ⟨U13, b13, PySem.W.mg_of X G a13⟩
  have U14 := fun_mk (st := s__law_text) l14 c14 k14
  have b14 := U14.binds (ps := ["_law_deck_here", "_law_size_here"]) fun _ _ _ _ _ _ us hl => match us, hl with | [_, _], _ => rfl
  have F14 : Fn K mg "_law_text" s__law_text ["_law_deck_here", "_law_size_here"] _ _ := ⟨U14, b14, PySem.W.mg_of X G a14⟩
  have U15 := fun_mk (st := s__law_read) l15 c15 k15
  have b15 := U15.binds (ps := ["_law_rest", "_law_piece"]) fun _ _ _ _ _ _ us hl => match us, hl with | [_, _], _ => rfl
  have F15 : Fn K mg "_law_read" s__law_read ["_law_rest", "_law_piece"] _ _ := ⟨U15, b15, PySem.W.mg_of X G a15⟩
  have U16 := fun_mk (st := s__law_pieces) l16 c16 k16
  have b16 := U16.binds (ps := ["_law_deck_here", "_law_stream"]) fun _ _ _ _ _ _ us hl => match us, hl with | [_, _], _ => rfl
  have F16 : Fn K mg "_law_pieces" s__law_pieces ["_law_deck_here", "_law_stream"] _ _ := ⟨U16, b16, PySem.W.mg_of X G a16⟩
  have U17 := fun_mk (st := s__law_spoiled) l17 c17 k17
  have b17 := U17.binds (ps := ["_law_deck_here", "_law_stream"]) fun _ _ _ _ _ _ us hl => match us, hl with | [_, _], _ => rfl
  have F17 : Fn K mg "_law_spoiled" s__law_spoiled ["_law_deck_here", "_law_stream"] _ _ := ⟨U17, b17, PySem.W.mg_of X G a17⟩
  have U18 := fun_mk (st := s__law_is_cut) l18 c18 k18
  have b18 := U18.binds (ps := ["_law_deck_here", "_law_rest", "_law_stream"]) fun _ _ _ _ _ _ us hl => match us, hl with | [_, _, _], _ => rfl
  have F18 : Fn K mg "_law_is_cut" s__law_is_cut ["_law_deck_here", "_law_rest", "_law_stream"] _ _ := ⟨U18, b18, PySem.W.mg_of X G a18⟩
  have U19 := fun_mk (st := s__law_is_long) l19 c19 k19
  have b19 := U19.binds (ps := ["_law_deck_here"]) fun _ _ _ _ _ _ us hl => match us, hl with | [_], _ => rfl
  have F19 : Fn K mg "_law_is_long" s__law_is_long ["_law_deck_here"] _ _ := ⟨U19, b19, PySem.W.mg_of X G a19⟩
  have U20 := fun_mk (st := s_law) l20 c20 k20
  have b20 := U20.binds (ps := ["_law_script"]) fun _ _ _ _ _ _ us hl => match us, hl with | [_], _ => rfl
  have F20 : Fn K mg "law" s_law ["_law_script"] _ _ := ⟨U20, b20, PySem.W.mg_of X G a20⟩
  have K1 : KwB K _ ["text"] ["text"] id1 id1V := kwb1 (fd := PySem.W.fnOf "frame" "frame" (defArgs s_frame) (defBody s_frame) (defScope s_frame) .none kV7 dc7 pm7 an7 cd7 ct7) fun s a => .of_eq rfl
  have K2 : KwB K _ ["rest", "piece"] ["piece", "rest"] sw2 sw2V := kwb2 (fd := PySem.W.fnOf "read" "read" (defArgs s_read) (defBody s_read) (defScope s_read) .none kV8 dc8 pm8 an8 cd8 ct8) fun s a b => .of_eq rfl
  refine ⟨PySem.W.fnOf "law" "law" (defArgs s_law) (defBody s_law) (defScope s_law) .none kV20 dc20 pm20 an20 cd20 ct20, fun s v => .of_eq rfl, fun base _ _ => ?_⟩
  have GisText : FnOk l.prog w K mg base CX0 _ _ _ _ _ := ok_is_text F2 C F0
  have GisRest : FnOk l.prog w K mg base CX0 _ _ _ _ _ := ok_is_rest F3 C F0 F1
  have Gdig : FnOk l.prog w K mg base CX0 _ _ _ _ _ := ok_digits_end F4 C F1
  have Gpl : FnOk l.prog w K mg base CX0 _ _ _ _ _ := ok_plain_end F5 C F0
  have Gnext : FnOk l.prog w K mg base CX0 _ _ _ _ _ := ok_next_frame F6 C F4 Gdig F5 Gpl
  have Gframe : FnOk l.prog w K mg base CX0 _ _ _ _ _ := ok_frame F7 C F2 GisText
  have Gread : FnOk l.prog w K mg base CX0 _ _ _ _ _ := ok_read F8 C F3 GisRest F6 Gnext
  have Gdeck : FnOk l.prog w K mg base CX0 _ _ _ _ _ := ok_deck F9 B
  have Gdraw : FnOk l.prog w K mg base CX0 _ _ _ _ _ := ok_draw F10 B
  have Gpick : FnOk l.prog w K mg base CX0 _ _ _ _ _ := ok_pick F11 B F10
  have Gsize : FnOk l.prog w K mg base CX0 _ _ _ _ _ := ok_size F13 F10 Gdraw F11 Gpick
  have Gtext : FnOk l.prog w K mg base CX0 _ _ _ _ _ := ok_text F14 B F10 Gdraw F11 Gpick F12
  have Glread : FnOk l.prog w K mg base CX0 _ _ _ _ _ := ok_lread F15 B
  have Gpieces : FnOk l.prog w K mg base CX0 _ _ _ _ _ := ok_pieces F16 B F10 Gdraw
  have Gspoiled : FnOk l.prog w K mg base CX0 _ _ _ _ _ := ok_spoiled F17 B F10 Gdraw F11 Gpick F12
  have Gcut : FnG l.prog w K mg base _ _ _ _ _ := ok_cut F18 B F15 Glread F8 Gread K2 F16 Gpieces F3 GisRest
  have Glong : FnG l.prog w K mg base _ _ _ _ _ := ok_long F19 B F11 Gpick F8 Gread K2 F10 Gdraw
  exact ok_law F20 B F9 Gdeck F11 Gpick F13 Gsize F14 Gtext F7 Gframe K1 F8 Gread F18 Gcut F10 Gdraw F17 Gspoiled F19 Glong
end Ag

end
/-! ## Tail -/
open PySem PySem.W PyProof.Rows
set_option maxRecDepth 100000 in
set_option maxHeartbeats 0 in
theorem PySem.Challenge.cw_answergate_k01_whole_frames_cut_anywhere_holds : PySem.Challenge.rw_answergate_k01_whole_frames_cut_anywhere.Holds := by
  w_on; o_law; k_head; (case hw => w_witness2)
  k_fill
  refine Ag.walkG (l := PySem.Challenge.rw_answergate_k01_whole_frames_cut_anywhere) (n := 63) (k := 6) (x := "_law_script") (sp := Ag.spLaw) rfl (by decide) rfl ⟨rfl, by decide, by decide⟩ (fun w h Y => PySem.W.kIn_of Y) ?F (fun K H a ns hl hS => ⟨a, ns, rfl, hS, hl, fun _ => rfl⟩)
  case F =>
    intro w mg fa h KX G hmg
    refine' Ag.all_mk KX G hmg ?a0 ?l0 ?c0 ?k0 ?a1 ?l1 ?c1 ?k1 ?a2 ?l2 ?c2 ?k2 ?a3 ?l3 ?c3 ?k3 ?a4 ?l4 ?c4 ?k4 ?a5 ?l5 ?c5 ?k5 ?a6 ?l6 ?c6 ?k6 ?a7 ?l7 ?c7 ?k7 ?a8 ?l8 ?c8 ?k8 ?a9 ?l9 ?c9 ?k9 ?a10 ?l10 ?c10 ?k10 ?a11 ?l11 ?c11 ?k11 ?a12 ?l12 ?c12 ?k12 ?a13 ?l13 ?c13 ?k13 ?a14 ?l14 ?c14 ?k14 ?a15 ?l15 ?c15 ?k15 ?a16 ?l16 ?c16 ?k16 ?a17 ?l17 ?c17 ?k17 ?a18 ?l18 ?c18 ?k18 ?a19 ?l19 ?c19 ?k19 ?a20 ?l20 ?c20 ?k20 ?z0 ?z1 ?z2 ?z3 ?z4 ?z5 ?z6 ?z7 ?z8 ?z9 ?z10 ?z11 ?tx
    (case a0 => k_is); (case l0 => k_is); (case c0 => k_is); (case k0 => k_is)
    (case a1 => k_is); (case l1 => k_is); (case c1 => k_is); (case k1 => k_is)
    (case a2 => k_is); (case l2 => k_is); (case c2 => k_is); (case k2 => k_is)
    (case a3 => k_is); (case l3 => k_is); (case c3 => k_is); (case k3 => k_is)
    (case a4 => k_is); (case l4 => k_is); (case c4 => k_is); (case k4 => k_is)
    (case a5 => k_is); (case l5 => k_is); (case c5 => k_is); (case k5 => k_is)
    (case a6 => k_is); (case l6 => k_is); (case c6 => k_is); (case k6 => k_is)
    (case a7 => k_is); (case l7 => k_is); (case c7 => k_is); (case k7 => k_is)
    (case a8 => k_is); (case l8 => k_is); (case c8 => k_is); (case k8 => k_is)
    (case a9 => k_is); (case l9 => k_is); (case c9 => k_is); (case k9 => k_is)
    (case a10 => k_is); (case l10 => k_is); (case c10 => k_is); (case k10 => k_is)
    (case a11 => k_is); (case l11 => k_is); (case c11 => k_is); (case k11 => k_is)
    (case a12 => k_is); (case l12 => k_is); (case c12 => k_is); (case k12 => k_is)
    (case a13 => k_is); (case l13 => k_is); (case c13 => k_is); (case k13 => k_is)
    (case a14 => k_is); (case l14 => k_is); (case c14 => k_is); (case k14 => k_is)
    (case a15 => k_is); (case l15 => k_is); (case c15 => k_is); (case k15 => k_is)
    (case a16 => k_is); (case l16 => k_is); (case c16 => k_is); (case k16 => k_is)
    (case a17 => k_is); (case l17 => k_is); (case c17 => k_is); (case k17 => k_is)
    (case a18 => k_is); (case l18 => k_is); (case c18 => k_is); (case k18 => k_is)
    (case a19 => k_is); (case l19 => k_is); (case c19 => k_is); (case k19 => k_is)
    (case a20 => k_is); (case l20 => k_is); (case c20 => k_is); (case k20 => k_is)
    (case z0 => k_is); (case z1 => k_is); (case z2 => k_is); (case z3 => k_is); (case z4 => k_is); (case z5 => k_is); (case z6 => k_is); (case z7 => k_is); (case z8 => k_is); (case z9 => k_is); (case z10 => k_is); (case z11 => k_is)
    (case tx => k_is)

