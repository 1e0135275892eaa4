import PyProof.Rows.All
import Wide.All
import OpenK.AllK
import Wide.FinOn
import HandS.ForMost
import HandS.IsInst
import HandS.FStr
import HandS.StrMore
import HandS.Style
import HandS.SortInts
import HandS.Wide
import HandS.TupAny
import HandS.TupMul
import PyProof.StrBlock2
import PyProof.ReprRoads
import PyProof.ReprText
import HandS.Walk
import HandS.Codes
import PyProof.Draws
import PyProof.EnumFor
import PyProof.EnumMake
import KE.GoesMore
import KE.GoesEnum
import PyProof.SumWalkG
import PyProof.WalksMore
import KE.GoesZip
import HandS.Zip
import HandS.Strs
import HandS.SetFor
import PyProof.SetRoads
import HandS.Star
import PyProof.P3In
import PyProof.ReprBulk
import PyProof.EqAt
import PyProof.EqKinds
import PyProof.FactsAll.subtypes_3
import PyProof.FactsAll.subtypes_4
import PyProof.FactsAll.dict_1
import PyProof.ListStr
import HandS.Conv
import KE.KExcInit
import HandS.ExcInit
import HandS.ExcField
import HandS.WordsExc
import HandS.ExcOwn
import HandS.ExcCtx
import KE.DatumOrd
import PyProof.NeKinds
import HandS.Flow
import PyProof.Rows.IntBool
import PyProof.FactsAll.bool_1
import HandS.HotCalls
import HandS.Hot
import HandS.ExcIs
import KE.KExcIs
import KE.KTryMore
import HandS.Lambda
import PyProof.StrLawsRepr
import PyProof.Rows.ReprOcc
import HandS.DictSub
import HandS.Small
import HandS.EndOwn
import HandS.NestedK
import PySem.Challenge.RW_answergate_k21_refusals_of_picks
set_option Elab.async false
/-! ## Base0 -/
section
set_option linter.all false
set_option maxRecDepth 100000
namespace Ag
open PySem PySem.Spec PyProof.Rows L2
/-! ### a def's promise where it is known that no repr runs around the call -/
structure FnG (P : Program) (w : World) (K : PySem.W.Frag) (mg : Str → Option Value) (base : Heap) (k : Nat) (f : Addr) (fd : FuncData) (ps : List Str) (sp : Sp) : Prop where
  len : ∀ vs H Q E, sp vs H Q E → vs.length = ps.length
  run : ∀ (A : Around) (outer : List Env) (s : Shared) (H : Hp) (args : Args) (us : List Value) (vs : List V) (Q : VK) (E : XK), Room k A → A.guards = some [] →
    Env0 P w K mg base A outer s H → BindsTo s fd args (ps.zip us) → Vals vs us → sp vs H Q E → codeAny (model P w) A (.call (.ref f) args) (CR CX0 outer P w H s Q E) s
theorem FnG.of {P : Program} {w : World} {K : PySem.W.Frag} {mg : Str → Option Value} {base : Heap} {k : Nat} {f : Addr} {fd : FuncData} {ps : List Str} {sp : Sp} (F : FnOk P w K mg base CX0 k f fd ps sp) :
    FnG P w K mg base k f fd ps sp := ⟨F.len, fun A outer s H args us vs Q E hr _ => F.run A outer s H args us vs Q E hr⟩
theorem g_deeper {A : Around} {env : Env} (h : A.guards = some []) : (A.deeper env).guards = some [] := by
  first | exact h | (simp [Around.deeper, h])
section
variable {P : Program} {w : World} {K : PySem.W.Frag} {mg : Str → Option Value} {base : Heap}
theorem okG {x qual : Str} {st : Stmt} {f : Addr} {fd : FuncData} {N ps : List Str} {k : Nat} {sp : Sp} (F : Fun K x qual st f fd) (S : FnScope N ps (defScope st))
    (len : ∀ vs H Q E, sp vs H Q E → vs.length = ps.length)
    (hbody : ∀ (cdv : Value) (A : Around) (outer : List Env) (s : Shared) (H : Hp) (vs : List V) (Q : VK) (E : XK), Room k (A.deeper (envOfC qual (defScope st) s.heap.objs.size f cdv)) →
      (A.deeper (envOfC qual (defScope st) s.heap.objs.size f cdv)).guards = some [] → sp vs H Q E →
      ∃ t, PSs (cxOf CX0 P w K mg base N qual (defScope st) f cdv A outer s H E).nox (defBody st) t ∧ t { nx := fun _ H' => Q .non H', rt := Q } (start N vs) H) :
    FnG P w K mg base (k + 1) f fd ps sp := by
  obtain ⟨oc, od, kV, doc, pm, an, cdv, ct, osl, rfl, lk, hcd⟩ := F.ex
  refine ⟨len, ?_⟩
  intro A outer s H args us vs Q E hr hg env0 hb rel hsp
  have hlen := len vs H Q E hsp
  have below : ∀ b o, base.get? b = some o → s.heap.get? b = some o := fun b o e => (env0.bs b o e).1
  have KX : K.In s.heap := env0.mod.kin.keeps below
  have noLim : s.heap.NoLimit := env0.mod.nolimit.keeps below
  have kinds : ∀ y ∈ ps.zip us, (defScope st).names.lookup y.1 = some .local ∨ ((defScope st).names.lookup y.1 = some .cell ∧ ((cellsFrom (s.heap.objs.size + 1) (defScope st).names []).lookup y.1).isSome = true) := by
    rintro ⟨n, v⟩ hy
    exact (S.par n (List.of_mem_zip hy).1).imp id fun q => ⟨q, PySem.W.cellsFrom_some _ _ _ (.inl q)⟩
  refine codeAny_call_function hr.depth (KX f _ lk) rfl S.co S.gen rfl (PySem.W.codeRec_of KX hcd) (hb _ _ _ _ (wpAny_newFunctionEnv_cells S.kind kinds ?_))
  intro env he s1 x
  subst he
  refine ⟨noLim.keeps x.toInCall.keep, codeAny_func ?_⟩
  obtain ⟨t, ht, hq⟩ := hbody cdv A outer s H vs Q E (hr.deeper _) (g_deeper hg) hsp
  have I := inv_start (CX := CX0) (E := E) S hr.hd env0 hlen rel x
  refine wpAny_mono (ht.nox.run [] s1 (start N vs) H _ I hq) (fun fl s' hs => ?_) (fun e s' hs => hs)
  cases fl with
  | brk => exact hs.elim fun _ z => z.elim fun _ z => z.2.elim
  | cont => exact hs.elim fun _ z => z.elim fun _ z => z.2.elim
  | next =>
    obtain ⟨σ', H', J, q⟩ := hs
    exact ⟨.non, H', J.os, J.bare, J.base, J.hok, rfl, q⟩
  | ret u =>
    obtain ⟨v, σ', H', J, rv, q⟩ := hs
    exact ⟨v, H', J.os, J.bare, J.base, J.hok, rv, q⟩
end
section
variable {X : Cx} {k : Nat} {f : Addr} {fd : FuncData} {ps : List Str} {sp : Sp} {x : Str} {p pos : Pos} {e : Expr} {es : List Expr} {t : TA}
theorem run_G {pins : List (Addr × Obj)} {σ : L2.St} {H : Hp} {s : Shared} {Q : VK} {us : List Value} {vs : List V} {args : Args} (F : FnG X.prog X.w X.K X.mg X.base k f fd ps sp) (hr : Room k X.A) (hG : X.A.guards = some [])
    (I : Inv X pins σ H s) (hb : BindsTo s fd args (ps.zip us)) (r : Vals vs us) (h : sp vs H Q E0) : codeAny (model X.prog X.w) X.A (.call (.ref f) args) (fun r s' => ∃ u, r = .ok (.ret u) ∧ EP X pins σ Q u s') s := by
  refine codeAny_mono (F.run X.A X.stack s H args us vs Q E0 hr hG I.env0 hb r h) ?_
  intro r s' hq
  match r, hq with
  | .error e, hq => exact hq.elim
  | .ok (.ret u), hq => exact ⟨u, rfl, I.after hq⟩
/-- f(e, ..) -/
theorem pe_callG (F : FnG X.prog X.w X.K X.mg X.base k f fd ps sp) (hr : Room k X.A) (hG : X.A.guards = some []) (hg : Gl X x) (hm : X.mg x = some (.ref f)) (hk : PySem.W.keepIn X.K (.ref f) = true) (hb : Binds X.K fd ps [])
    (ha : PA X (e :: es) t) (hdb : (x == ("__debug__" : Str)) = false := by decide) (he : starEach (e :: es) X.env = (false, eval e X.env) :: starEach es X.env := by rfl) (hpl : (backTo pos (starEach es X.env)).any (·.1) = false := by rfl) :
    PE X (.Call (.Name x p) (e :: es) [] pos) (tCall sp [] E0 t) := by
  constructor
  intro pins s σ H Q I h
  refine wpAny_Call_Name_kw (ld_glob I hg hm (PySem.W.callWith_K (h₀ := X.base) I.ok.mod.kin hk (thn (ha.run pos pins s σ H _ I h) ?_) he hpl) hdb)
  rintro us s1 ⟨vs, H1, I1, r, q⟩
  rw [List.append_nil] at q
  have hl : us.length = ps.length := by rw [← r.length]; exact F.len _ _ _ _ q
  have z := hb s1 us I1.kIn (by rw [List.append_nil]; exact hl)
  rw [List.append_nil] at z
  refine ⟨I1.kIn, ?_⟩
  show wpAny _ _ (call (.ref f) us) _ _ _
  refine wpAny_call (codeAny_mono (run_G F hr hG I1 z r q) ?_)
  rintro r s' ⟨u, rfl, z⟩
  exact z
/-- f(k = e, ..), keywords alone -/
structure KwB (K : PySem.W.Frag) (fd : FuncData) (ps ks : List Str) (gv : List Value → List Value) (gV : List V → List V) : Prop where
  to : ∀ (s : Shared) (ws : List Value), ws.length = ks.length → BindsTo s fd ⟨[], ks.zip ws⟩ (ps.zip (gv ws))
  rel : ∀ {zs : List V} {ws : List Value}, zs.length = ks.length → Vals zs ws → Vals (gV zs) (gv ws)
def tCallKw (sp : Sp) (n : Nat) (gV : List V → List V) (t : TA) : TE := fun σ H Q => t σ H fun zs H2 => zs.length = n ∧ sp (gV zs) H2 Q E0
variable {ks : List Str} {gv : List Value → List Value} {gV : List V → List V} {kws : List Keyword}
theorem pe_callKwG (F : FnG X.prog X.w X.K X.mg X.base k f fd ps sp) (hr : Room k X.A) (hG : X.A.guards = some []) (hg : Gl X x) (hm : X.mg x = some (.ref f)) (hk : PySem.W.keepIn X.K (.ref f) = true) (hb : KwB X.K fd ps ks gv gV)
    (ha : PK X kws t) (hall : (backToKw pos (keywordEach kws X.env)).all (·.1.isSome) = true := by rfl) (hks : (backToKw pos (keywordEach kws X.env)).filterMap (·.1) = ks := by rfl) (hdb : (x == ("__debug__" : Str)) = false := by decide)
    (hpl : ((backTo pos (starEach [] X.env)).any (·.1) || (backToKw pos (keywordEach kws X.env)).any (·.1.isNone)) = false := by rfl) : PE X (.Call (.Name x p) [] kws pos) (tCallKw sp ks.length gV t) := by
  constructor
  intro pins s σ H Q I h
  refine wpAny_Call_Name_kw (ld_glob I hg hm (PySem.W.callWith_KW0 (h₀ := X.base) I.ok.mod.kin hk hall (thn (ha.run pos pins s σ H _ I h) ?_) hpl) hdb)
  rintro ws s2 ⟨zs, H2, I2, rz, l, q⟩
  refine ⟨I2.kIn, ?_⟩
  rw [hks]
  refine wpAny_call (codeAny_mono (run_G (args := ⟨[], ks.zip ws⟩) F hr hG I2 (hb.to s2 ws (by rw [← rz.length]; exact l)) (hb.rel l rz) q) ?_)
  rintro r s' ⟨u, rfl, z⟩
  exact z
/-! ### repr of data -/
theorem call_repr_data (hu : X.A.units + 66 < cLine) (hG : X.A.guards = some []) : CallR X (.builtin "repr") (fun xs H Q => ∃ x d, xs = [x] ∧ Dp X.K H x d ∧ d.showable = true ∧ d.hasDict = false ∧ d.depth ≤ 64 ∧ d.shown.length ≤ sizeLine ∧ Q (.str d.shown) H) := by
  intro pins s σ H vs us Q I r h
  obtain ⟨x, d, rfl, hd, h1, h2, h3, h4, q⟩ := h
  obtain ⟨u, rfl, ru⟩ := vals1 r
  cases x with
  | ref a =>
    obtain ⟨as, rd⟩ := Dp.reads I d (.ref a) u hd ru
    obtain rfl : u = Value.ref a := ru
    refine repr_of_reads' rd h1 (fun z => by rw [h2] at z; cases z) hG (by omega) (fun _ _ e => e) (fun h' u tk kp => ?_) h4
    exact ⟨.str d.shown, H, I.kept kp, ⟨_, rfl⟩, q⟩
  | non =>
    cases hd
    obtain rfl : u = Value.none := ru
    exact PySem.P.repr_of_none ⟨.str _, H, I.tok _, ⟨_, rfl⟩, by rw [PyData.shown_none] at q; exact q⟩
  | bl b =>
    cases hd
    obtain rfl : u = Value.bool b := ru
    exact PySem.P.repr_of_bool ⟨.str _, H, I.tok _, ⟨_, rfl⟩, by rw [PyData.shown_bool] at q; exact q⟩
  | int i =>
    cases hd
    obtain ⟨t, rfl⟩ := ru
    exact PySem.P.repr_of_int (by simpa [PyData.showable] using h1) ⟨.str _, H, I.tok _, ⟨_, rfl⟩, by rw [PyData.shown_int] at q; exact q⟩
  | str z =>
    cases hd
    obtain ⟨t, rfl⟩ := ru
    rw [PyData.shown_str] at q h4
    exact PySem.P.repr_of_str ⟨.str _, H, I.tok _, ⟨_, rfl⟩, q⟩ h4
  | byt b => cases hd
  | flt b => cases hd
  | ty n => cases hd
end
end Ag

end
/-! ## Prog -/
section
set_option linter.all false
set_option maxRecDepth 100000
namespace Ag
open PySem PySem.Spec PyProof.Rows L2
/-! ### the text by places -/
def top (i : Nat) : Stmt := PySem.Challenge.pw_answergate_k21_refusals_of_picks.main.body.getD i (.Pass ⟨0, 0, 0, 0⟩)
abbrev s_is_integer : Stmt := top 2
abbrev N_is_integer : List Str := ["thing"]
theorem sc_is_integer : FnScope N_is_integer ["thing"] (defScope s_is_integer) := ⟨rfl, rfl, rfl, by decide +kernel, rfl, by decide +kernel, by decide +kernel⟩
abbrev s_is_word : Stmt := top 3
abbrev N_is_word : List Str := ["thing"]
theorem sc_is_word : FnScope N_is_word ["thing"] (defScope s_is_word) := ⟨rfl, rfl, rfl, by decide +kernel, rfl, by decide +kernel, by decide +kernel⟩
abbrev s_is_pool : Stmt := top 18
abbrev N_is_pool : List Str := ["thing", "pair"]
theorem sc_is_pool : FnScope N_is_pool ["thing"] (defScope s_is_pool) := ⟨rfl, rfl, rfl, by decide +kernel, rfl, by decide +kernel, by decide +kernel⟩
abbrev s_is_share : Stmt := top 19
abbrev N_is_share : List Str := ["thing", "label", "weight"]
theorem sc_is_share : FnScope N_is_share ["thing"] (defScope s_is_share) := ⟨rfl, rfl, rfl, by decide +kernel, rfl, by decide +kernel, by decide +kernel⟩
abbrev s_is_lot : Stmt := top 20
abbrev N_is_lot : List Str := ["pool", "thing", "at"]
theorem sc_is_lot : FnScope N_is_lot ["pool", "thing"] (defScope s_is_lot) := ⟨rfl, rfl, rfl, by decide +kernel, rfl, by decide +kernel, by decide +kernel⟩
abbrev s_are_loads : Stmt := top 21
abbrev N_are_loads : List Str := ["pool", "thing", "load"]
theorem sc_are_loads : FnScope N_are_loads ["pool", "thing"] (defScope s_are_loads) := ⟨rfl, rfl, rfl, by decide +kernel, rfl, by decide +kernel, by decide +kernel⟩
abbrev s_are_counts : Stmt := top 22
abbrev N_are_counts : List Str := ["pool", "thing"]
theorem sc_are_counts : FnScope N_are_counts ["pool", "thing"] (defScope s_are_counts) := ⟨rfl, rfl, rfl, by decide +kernel, rfl, by decide +kernel, by decide +kernel⟩
abbrev s_weight_sum : Stmt := top 23
abbrev N_weight_sum : List Str := ["pool", "weight", "_"]
theorem sc_weight_sum : FnScope N_weight_sum ["pool"] (defScope s_weight_sum) := ⟨rfl, rfl, rfl, by decide +kernel, rfl, by decide +kernel, by decide +kernel⟩
abbrev s_turn_after : Stmt := top 24
abbrev N_turn_after : List Str := ["pool", "counts", "whole", "time", "best", "best_due", "at", "_", "weight", "given", "due", "is_ready"]
theorem sc_turn_after : FnScope N_turn_after ["pool", "counts"] (defScope s_turn_after) := ⟨rfl, rfl, rfl, by decide +kernel, rfl, by decide +kernel, by decide +kernel⟩
abbrev s_first_turns : Stmt := top 25
abbrev N_first_turns : List Str := ["pool", "many", "counts", "given", "_", "at"]
theorem sc_first_turns : FnScope N_first_turns ["pool", "many"] (defScope s_first_turns) := ⟨rfl, rfl, rfl, by decide +kernel, rfl, by decide +kernel, by decide +kernel⟩
abbrev s_counts_from_start : Stmt := top 26
abbrev N_counts_from_start : List Str := ["pool", "many", "rounds", "rest", "given", "weight", "at", "_"]
theorem sc_counts_from_start : FnScope N_counts_from_start ["pool", "many"] (defScope s_counts_from_start) := ⟨rfl, rfl, rfl, by decide +kernel, rfl, by decide +kernel, by decide +kernel⟩
abbrev s_next_turn : Stmt := top 27
abbrev N_next_turn : List Str := ["pool", "counts"]
theorem sc_next_turn : FnScope N_next_turn ["pool", "counts"] (defScope s_next_turn) := ⟨rfl, rfl, rfl, by decide +kernel, rfl, by decide +kernel, by decide +kernel⟩
abbrev s_turns : Stmt := top 28
abbrev N_turns : List Str := ["pool", "t"]
theorem sc_turns : FnScope N_turns ["pool", "t"] (defScope s_turns) := ⟨rfl, rfl, rfl, by decide +kernel, rfl, by decide +kernel, by decide +kernel⟩
abbrev s_counts_after : Stmt := top 29
abbrev N_counts_after : List Str := ["pool", "t"]
theorem sc_counts_after : FnScope N_counts_after ["pool", "t"] (defScope s_counts_after) := ⟨rfl, rfl, rfl, by decide +kernel, rfl, by decide +kernel, by decide +kernel⟩
abbrev s_least_busy : Stmt := top 30
abbrev N_least_busy : List Str := ["pool", "lot", "busy", "best", "at"]
theorem sc_least_busy : FnScope N_least_busy ["pool", "lot", "busy"] (defScope s_least_busy) := ⟨rfl, rfl, rfl, by decide +kernel, rfl, by decide +kernel, by decide +kernel⟩
abbrev s_by_key : Stmt := top 31
abbrev N_by_key : List Str := ["pool", "lot", "key", "scores", "at"]
theorem sc_by_key : FnScope N_by_key ["pool", "lot", "key"] (defScope s_by_key) := ⟨rfl, rfl, rfl, by decide +kernel, rfl, by decide +kernel, by decide +kernel⟩
abbrev s_check_lot : Stmt := top 32
abbrev N_check_lot : List Str := ["pool", "lot"]
theorem sc_check_lot : FnScope N_check_lot ["pool", "lot"] (defScope s_check_lot) := ⟨rfl, rfl, rfl, by decide +kernel, rfl, by decide +kernel, by decide +kernel⟩
abbrev s_score : Stmt := top 33
abbrev N_score : List Str := ["key", "label", "word", "value", "char"]
theorem sc_score : FnScope N_score ["key", "label"] (defScope s_score) := ⟨rfl, rfl, rfl, by decide +kernel, rfl, by decide +kernel, by decide +kernel⟩
abbrev s__law_deck : Stmt := top 35
abbrev N__law_deck : List Str := ["_law_script", "_law_mixed", "_law_cell"]
theorem sc__law_deck : FnScope N__law_deck ["_law_script"] (defScope s__law_deck) := ⟨rfl, rfl, rfl, by decide +kernel, rfl, by decide +kernel, by decide +kernel⟩
abbrev s__law_draw : Stmt := top 36
abbrev N__law_draw : List Str := ["_law_deck_here", "_law_many", "_law_figure", "_law_cell"]
theorem sc__law_draw : FnScope N__law_draw ["_law_deck_here", "_law_many"] (defScope s__law_draw) := ⟨rfl, rfl, rfl, by decide +kernel, rfl, by decide +kernel, by decide +kernel⟩
abbrev s__law_pick : Stmt := top 37
abbrev N__law_pick : List Str := ["_law_deck_here", "_law_some"]
theorem sc__law_pick : FnScope N__law_pick ["_law_deck_here", "_law_some"] (defScope s__law_pick) := ⟨rfl, rfl, rfl, by decide +kernel, rfl, by decide +kernel, by decide +kernel⟩
abbrev s__law_is_int : Stmt := top 38
abbrev N__law_is_int : List Str := ["_law_thing", "_law_low", "_law_high"]
theorem sc__law_is_int : FnScope N__law_is_int ["_law_thing", "_law_low", "_law_high"] (defScope s__law_is_int) := ⟨rfl, rfl, rfl, by decide +kernel, rfl, by decide +kernel, by decide +kernel⟩
abbrev s__law_is_tuple : Stmt := top 39
abbrev N__law_is_tuple : List Str := ["_law_thing", "_law_many"]
theorem sc__law_is_tuple : FnScope N__law_is_tuple ["_law_thing", "_law_many"] (defScope s__law_is_tuple) := ⟨rfl, rfl, rfl, by decide +kernel, rfl, by decide +kernel, by decide +kernel⟩
abbrev s__law_is_word : Stmt := top 40
abbrev N__law_is_word : List Str := ["_law_thing", "_law_letter"]
theorem sc__law_is_word : FnScope N__law_is_word ["_law_thing"] (defScope s__law_is_word) := ⟨rfl, rfl, rfl, by decide +kernel, rfl, by decide +kernel, by decide +kernel⟩
abbrev s__law_is_pool : Stmt := top 41
abbrev N__law_is_pool : List Str := ["_law_thing", "_law_one", "_law_label", "_law_weight"]
theorem sc__law_is_pool : FnScope N__law_is_pool ["_law_thing"] (defScope s__law_is_pool) := ⟨rfl, rfl, rfl, by decide +kernel, rfl, by decide +kernel, by decide +kernel⟩
abbrev s__law_is_lot : Stmt := top 42
abbrev N__law_is_lot : List Str := ["_law_many", "_law_thing", "_law_at"]
theorem sc__law_is_lot : FnScope N__law_is_lot ["_law_many", "_law_thing"] (defScope s__law_is_lot) := ⟨rfl, rfl, rfl, by decide +kernel, rfl, by decide +kernel, by decide +kernel⟩
abbrev s__law_next : Stmt := top 43
abbrev N__law_next : List Str := ["_law_weights", "_law_counts_here", "_law_whole", "_law_now", "_law_found", "_law_at", "_law_weight", "_law_top"]
theorem sc__law_next : FnScope N__law_next ["_law_weights", "_law_counts_here"] (defScope s__law_next) := ⟨rfl, rfl, rfl, by decide +kernel, rfl, by decide +kernel, by decide +kernel⟩
abbrev s__law_counts : Stmt := top 44
abbrev N__law_counts : List Str := ["_law_weights", "_law_t", "_law_rounds", "_law_counts_here", "_law_turn", "_law_at", "_law_many", "_law_weight"]
theorem sc__law_counts : FnScope N__law_counts ["_law_weights", "_law_t"] (defScope s__law_counts) := ⟨rfl, rfl, rfl, by decide +kernel, rfl, by decide +kernel, by decide +kernel⟩
abbrev s__law_score : Stmt := top 45
abbrev N__law_score : List Str := ["_law_key", "_law_label", "_law_found", "_law_sign"]
theorem sc__law_score : FnScope N__law_score ["_law_key", "_law_label"] (defScope s__law_score) := ⟨rfl, rfl, rfl, by decide +kernel, rfl, by decide +kernel, by decide +kernel⟩
abbrev s__law_by_key : Stmt := top 46
abbrev N__law_by_key : List Str := ["_law_pool", "_law_lot", "_law_key", "_law_at"]
theorem sc__law_by_key : FnScope N__law_by_key ["_law_pool", "_law_lot", "_law_key"] (defScope s__law_by_key) := ⟨rfl, rfl, rfl, by decide +kernel, rfl, by decide +kernel, by decide +kernel⟩
abbrev s__law_least_busy : Stmt := top 47
abbrev N__law_least_busy : List Str := ["_law_pool", "_law_lot", "_law_busy", "_law_found", "_law_at"]
theorem sc__law_least_busy : FnScope N__law_least_busy ["_law_pool", "_law_lot", "_law_busy"] (defScope s__law_least_busy) := ⟨rfl, rfl, rfl, by decide +kernel, rfl, by decide +kernel, by decide +kernel⟩
abbrev s__law_word : Stmt := top 48
abbrev N__law_word : List Str := ["_law_deck_here", "_law_many", "_law_letter"]
theorem sc__law_word : FnScope N__law_word ["_law_deck_here"] (defScope s__law_word) := ⟨rfl, rfl, rfl, by decide +kernel, rfl, by decide +kernel, by decide +kernel⟩
abbrev s__law_words : Stmt := top 49
abbrev N__law_words : List Str := ["_law_deck_here", "_law_many", "_law_found", "_law_turn", "_law_word_here", "_law_letter"]
theorem sc__law_words : FnScope N__law_words ["_law_deck_here", "_law_many"] (defScope s__law_words) := ⟨rfl, rfl, rfl, by decide +kernel, rfl, by decide +kernel, by decide +kernel⟩
abbrev s__law_tried : Stmt := top 50
abbrev N__law_tried : List Str := ["_law_call", "_law_told", "_law_words_here", "e", "_law_word_here", "_law_is_it"]
theorem sc__law_tried : FnScope N__law_tried ["_law_call"] (defScope s__law_tried) := ⟨rfl, rfl, rfl, by decide +kernel, rfl, by decide +kernel, by decide +kernel⟩
abbrev s__law_any : Stmt := top 51
abbrev N__law_any : List Str := ["_law_deck_here", "_law_near", "_law_odd", "_law_some", "_law_label", "_law_weight", "_law_letter"]
theorem sc__law_any : FnScope N__law_any ["_law_deck_here", "_law_near"] (defScope s__law_any) := ⟨rfl, rfl, rfl, by decide +kernel, rfl, by decide +kernel, by decide +kernel⟩
abbrev s__law_are_counts : Stmt := top 52
abbrev N__law_are_counts : List Str := ["_law_pool", "_law_thing", "_law_many", "_law_weight", "_law_label"]
theorem sc__law_are_counts : FnScope N__law_are_counts ["_law_pool", "_law_thing"] (defScope s__law_are_counts) := ⟨rfl, rfl, rfl, by decide +kernel, rfl, by decide +kernel, by decide +kernel⟩
abbrev s__law_after_pool : Stmt := top 53
abbrev N__law_after_pool : List Str := ["_law_way", "_law_pool", "_law_rest", "_law_weights", "_law_counts_here", "_law_found", "_law_turn", "_law_weight", "_law_label", "_law_many"]
theorem sc__law_after_pool : FnScope N__law_after_pool ["_law_way", "_law_pool", "_law_rest"] (defScope s__law_after_pool) := ⟨rfl, rfl, rfl, by decide +kernel, rfl, by decide +kernel, by decide +kernel⟩
abbrev s__law_due : Stmt := top 54
abbrev N__law_due : List Str := ["_law_way", "_law_args", "_law_wrong", "_law_one"]
theorem sc__law_due : FnScope N__law_due ["_law_way", "_law_args"] (defScope s__law_due) := ⟨rfl, rfl, rfl, by decide +kernel, rfl, by decide +kernel, by decide +kernel⟩
abbrev s__law_called : Stmt := top 55
abbrev N__law_called : List Str := ["_law_way", "_law_args"]
theorem sc__law_called : FnScope N__law_called ["_law_way", "_law_args"] (defScope s__law_called) := ⟨rfl, rfl, rfl, by decide +kernel, rfl, by decide +kernel, by decide +kernel⟩
abbrev s__law_is_beyond : Stmt := top 56
abbrev N__law_is_beyond : List Str := ["_law_way", "_law_args", "_law_one", "_law_many"]
theorem sc__law_is_beyond : FnScope N__law_is_beyond ["_law_way", "_law_args"] (defScope s__law_is_beyond) := ⟨rfl, rfl, rfl, by decide +kernel, rfl, by decide +kernel, by decide +kernel⟩
abbrev s__law_arguments : Stmt := top 57
abbrev N__law_arguments : List Str := ["_law_deck_here", "_law_way", "_law_labels", "_law_most", "_law_pool", "_law_lot", "_law_counts_here", "_law_some", "_law_found", "_law_at", "_law_label", "_law_weight"]
theorem sc__law_arguments : FnScope N__law_arguments ["_law_deck_here", "_law_way"] (defScope s__law_arguments) := ⟨rfl, rfl, rfl, by decide +kernel, rfl, by decide +kernel, by decide +kernel⟩
abbrev s_law : Stmt := top 58
abbrev N_law : List Str := ["_law_script", "_law_deck_here", "_law_turn", "_law_way", "_law_args"]
theorem sc_law : FnScope N_law ["_law_script"] (defScope s_law) := ⟨rfl, rfl, rfl, by decide +kernel, rfl, by decide +kernel, by decide +kernel⟩
abbrev s_BadNumber : Stmt := inClass (top 6) 0
theorem sc_BadNumber : FnScope ["self", "thing"] ["self", "thing"] (defScope s_BadNumber) := ⟨rfl, rfl, rfl, by decide +kernel, rfl, by decide +kernel, by decide +kernel⟩
abbrev s_BadPool : Stmt := inClass (top 7) 0
theorem sc_BadPool : FnScope ["self", "thing"] ["self", "thing"] (defScope s_BadPool) := ⟨rfl, rfl, rfl, by decide +kernel, rfl, by decide +kernel, by decide +kernel⟩
abbrev s_BadCounts : Stmt := inClass (top 8) 0
theorem sc_BadCounts : FnScope ["self", "thing"] ["self", "thing"] (defScope s_BadCounts) := ⟨rfl, rfl, rfl, by decide +kernel, rfl, by decide +kernel, by decide +kernel⟩
abbrev s_BadLot : Stmt := inClass (top 9) 0
theorem sc_BadLot : FnScope ["self", "thing"] ["self", "thing"] (defScope s_BadLot) := ⟨rfl, rfl, rfl, by decide +kernel, rfl, by decide +kernel, by decide +kernel⟩
abbrev s_BadWord : Stmt := inClass (top 10) 0
theorem sc_BadWord : FnScope ["self", "thing"] ["self", "thing"] (defScope s_BadWord) := ⟨rfl, rfl, rfl, by decide +kernel, rfl, by decide +kernel, by decide +kernel⟩
structure Fn (K : PySem.W.Frag) (mg : Str → Option Value) (x : Str) (st : Stmt) (ps : List Str) (f : Addr) (fd : FuncData) : Prop where
  F : Fun K x x st f fd
  b : Binds K fd ps []
  g : mg x = some (.ref f)
structure Blt (mg : Str → Option Value) : Prop where
  n_len : mg "len" = none
  n_int : mg "int" = none
  n_str : mg "str" = none
  n_isinstance : mg "isinstance" = none
  n_range : mg "range" = none
  n_tuple : mg "tuple" = none
  n_list : mg "list" = none
  n_max : mg "max" = none
  n_min : mg "min" = none
  n_repr : mg "repr" = none
  n_bool : mg "bool" = none
  n_all : mg "all" = none
  n_set : mg "set" = none
  n_sum : mg "sum" = none
  n_enumerate : mg "enumerate" = none
  n_zip : mg "zip" = none
  n_divmod : mg "divmod" = none
  n_sorted : mg "sorted" = none
  n_ord : mg "ord" = none
structure Con (mg : Str → Option Value) (tw tp tg : Tok) : Prop extends Blt mg where
  g_WORD_MOST : mg "WORD_MOST" = some (.int 10 tw)
  g_POOL_MOST : mg "POOL_MOST" = some (.int 8 tp)
  g_WEIGHT_MOST : mg "WEIGHT_MOST" = some (.int 100 tg)
end Ag

end
/-! ## Kit -/
section
set_option linter.all false
set_option maxRecDepth 100000
namespace Ag
open PySem PySem.Spec PyProof.Rows L2
open SX (S S_len S_cat S_inj)
section
variable {J : It} {n : Nat} {G : Hp → Prop} {Y : Nat → Hp → V → Hp → Prop}
/-- a comprehension without tests: R stays, each item is as v says of its place -/
theorem lc_all (w : Walk J n G Y) {g : TG} {te : TE} {vs : List Nat} {σ : L2.St} {H1 : Hp} {D : Addr} {Qd : Hp → Prop} (R : Hp → Prop) (v : Nat → V → Prop) (hn : n ≤ 16000000) (r0 : R H1) (rD : ∀ H o, R H → R (upd H D o)) (hG : ∀ H, R H → G H)
    (hs : ∀ i x H H' xs (k : VK), i < n → R H → H D = some (.lst xs) → Y i H x H' → (∀ y H4, v i y → R H4 → H4 D = some (.lst xs) → k y H4) → g x (wipe σ vs) H' fun σ2 H2 => wipe σ2 vs = wipe σ vs ∧ te σ2 H2 k)
    (hd : ∀ H xs, xs.length = n → (∀ i y, xs[i]? = some y → v i y) → R H → H D = some (.lst xs) → Qd H) :
    ∃ W : Nat → Nat → Hp → Prop, (∃ m, W 0 m (upd H1 D (.lst []))) ∧ ∀ i m H, W i m H →
      (J.stop i H ∧ Qd H) ∨ (J.go i H ∧ ∃ Nx : Hp → Prop, (∀ H', Nx H' → ∃ m', m' < m ∧ W (i + 1) m' H') ∧ ∀ x H', J.yld i H x H' → g x (wipe σ vs) H' fun σ2 H2 => wipe σ2 vs = wipe σ vs ∧ tYes σ2 H2 fun b H3 =>
        if b = true then te σ2 H3 fun y H4 => ∃ acc, H4 D = some (.lst acc) ∧ acc.length < sizeLine ∧ Nx (upd H4 D (.lst (acc ++ [y]))) else Nx H3) := by
  refine lc_it (g := g) (tt := tYes) (te := te) (vs := vs) (σ := σ) w (fun i H => ∃ xs : List V, xs.length = i ∧ (∀ j y, xs[j]? = some y → v j y) ∧ R H ∧ H D = some (.lst xs)) ⟨[], rfl, fun j y h => by simp at h, rD _ _ r0, upd_same⟩ (fun i H hi p => ?_) (fun i x H H' hi p hy => ?_) (fun H p => ?_)
  · obtain ⟨xs, _, _, r, _⟩ := p
    exact hG H r
  · obtain ⟨xs, hl, hv, r, hD⟩ := p
    refine hs i x H H' xs _ hi r hD hy ?_
    rintro y H4 hvy r4 h4
    refine ⟨xs, h4, ?_, xs ++ [y], by simp [hl], fun j z hz => ?_, rD _ _ r4, upd_same⟩
    · rw [sizeLine_eq]; omega
    · rw [List.getElem?_append] at hz
      split at hz
      · exact hv j z hz
      · rename_i hj
        have e : j - xs.length = 0 := by
          cases hq : j - xs.length with
          | zero => rfl
          | succ k => rw [hq] at hz; simp at hz
        rw [e] at hz
        simp at hz
        subst hz
        have : j = i := by omega
        subst this
        exact hvy
  · obtain ⟨xs, hl, hv, r, hD⟩ := p
    exact hd H xs hl hv r hD
end
/-! ### cuts of texts -/
theorem sIx_at {n d a : Nat} (h : a ≤ n) : HT.sIx n d (some (a : Int)) = a := by rw [HT.sIx_nat, Nat.min_eq_left h]
theorem cut_S {l : List Nat} {a b : Nat} (ha : a ≤ l.length) : cutS (S l) (some (a : Int)) (some (b : Int)) = S ((l.drop a).take (b - a)) := by
  unfold cutS
  rw [S_len, sIx_at ha, HT.sIx_nat]
  congr 1
  congr 1
  by_cases hb : b ≤ l.length
  · rw [Nat.min_eq_left hb]
  · rw [Nat.min_eq_right (by omega), List.take_of_length_le (by rw [List.length_drop]; exact Nat.le_refl _), List.take_of_length_le (by rw [List.length_drop]; omega)]
theorem cut_from {l : List Nat} {a : Nat} (ha : a ≤ l.length) : cutS (S l) (some (a : Int)) none = S (l.drop a) := by
  unfold cutS
  rw [S_len, sIx_at ha, HT.sIx_none]
  congr 1
  congr 1
  rw [List.take_of_length_le (by rw [List.length_drop]; exact Nat.le_refl _)]
theorem cut_to {l : List Nat} {b : Nat} : cutS (S l) none (some (b : Int)) = S (l.take b) := by
  unfold cutS
  rw [S_len, HT.sIx_none, HT.sIx_nat, List.drop_zero, Nat.sub_zero]
  congr 1
  congr 1
  by_cases hb : b ≤ l.length
  · rw [Nat.min_eq_left hb]
  · rw [Nat.min_eq_right (by omega), List.take_of_length_le (Nat.le_refl _), List.take_of_length_le (by omega)]
end Ag

end
/-! ## Kit2 -/
section
set_option linter.all false
set_option maxRecDepth 100000
namespace Ag
open PySem PySem.Spec PyProof.Rows L2
open SX (S S_len S_cat S_inj)
/-! ### str * int -/
theorem foldl_cps (z : List Nat) (n : Nat) : (List.replicate n (S z).cps).foldl (· ++ ·) #[] = (List.replicate n z).flatten.toArray := by
  have key : ∀ (n : Nat) (acc : Array Nat), (List.replicate n (S z).cps).foldl (· ++ ·) acc = acc ++ (List.replicate n z).flatten.toArray := by
    intro n
    induction n with
    | zero => intro acc; simp
    | succ n ih =>
      intro acc
      rw [List.replicate_succ, List.foldl_cons, ih, List.replicate_succ, List.flatten_cons]
      apply Array.ext'
      simp
  rw [key n #[]]
  simp
theorem mul_S (z : List Nat) (n : Nat) : Txt.mul (S z) (n : Int) = S (List.replicate n z).flatten := by
  unfold Txt.mul
  by_cases h0 : n = 0
  · subst h0
    rfl
  · rw [if_neg (by omega)]
    split
    · rename_i h
      simp only [Bool.or_eq_true, beq_iff_eq] at h
      rcases h with h | h
      · have : n = 1 := by omega
        subst this
        simp
      · rw [S_len] at h
        have : z = [] := List.length_eq_zero_iff.mp h
        subst this
        simp
    · rw [show ((n : Int)).toNat = n by simp, foldl_cps]
theorem op_rep_str {X : Cx} : OpR X (binaryOp .Mult) (fun x y H Q => ∃ (z : List Nat) (n : Nat), x = .str (S z) ∧ y = .int (n : Int) ∧ z.length * n ≤ 16000000 ∧ n ≤ 16000000 ∧ z.length ≤ 16000000 ∧ Q (.str (S (List.replicate n z).flatten)) H) := by
  intro pins s σ H x y v u Q I rx ry h
  obtain ⟨z, n, rfl, rfl, h1, h2, h3, q⟩ := h
  obtain ⟨t, rfl⟩ := rx
  obtain ⟨t', rfl⟩ := ry
  refine SB.mul ⟨?_, fun _ _ => ?_, fun _ _ => ?_⟩ (fun a k => ?_)
  · rw [Bool.or_eq_false_iff, decide_eq_false_iff_not, decide_eq_false_iff_not]
    omega
  · rename_i a b
    have hn : (1 : Int) ≤ (n : Int) := by omega
    have : (2 ^ 63 - 1) / (n : Int) ≥ (2 ^ 63 - 1) / 16000000 := by
      rw [ge_iff_le, Int.le_ediv_iff_mul_le (by omega)]
      have e : ((2 ^ 63 - 1 : Int) / 16000000) = 576460752303 := by decide
      rw [e]
      omega
    have e : ((2 ^ 63 - 1 : Int) / 16000000) = 576460752303 := by decide
    rw [S_len]
    omega
  · rw [S_len]
    show decide (z.length * (n : Int).toNat > sizeLine) = false
    rw [decide_eq_false_iff_not, sizeLine_eq, show ((n : Int)).toNat = n by simp]
    omega
  · rw [mul_S]
    exact ⟨.str _, H, I.tok _, ⟨_, rfl⟩, q⟩
/-! ### for i, c in enumerate(text) -/
def Ites (x : Str) : It :=
  ⟨fun i _ => i < x.cps.size, fun i H v H' => ∃ T c, v = .ref T ∧ H T = none ∧ H' = upd H T (.tup [.int (i : Nat), .str ⟨#[c]⟩]) ∧ x.cps[i]? = some c, fun i _ => i = x.cps.size⟩
theorem walk_enumS {x : Str} : Walk (Ites x) x.cps.size (fun _ => True) (fun i H v H' => ∃ T c, v = .ref T ∧ H T = none ∧ H' = upd H T (.tup [.int (i : Nat), .str ⟨#[c]⟩]) ∧ x.cps[i]? = some c) :=
  ⟨fun _ _ h _ => h, fun _ _ => rfl, fun _ _ _ _ _ _ z => z⟩
theorem draws_str {P : Program} {w : World} {A : Around} (hh : A.handled = none) (it : Addr) (x : Str) (t : Tok) {ty : String} (hty : ty = "str_ascii_iterator" ∨ ty = "str_iterator") :
    Draws P w A it [it] x.cps.size (fun i v => ∃ c u, x.cps[i]? = some c ∧ v = .str ⟨#[c]⟩ u) (fun i h => h.IsStrIter it ty x t i) := by
  rcases hty with rfl | rfl
  · exact Draws.strAscii hh it x t
  · exact Draws.strWide hh it x t
theorem turn_enumS {P : Program} {w : World} {K : PySem.W.Frag} {elts : List Expr} {kk : Nat} {tpos : Pos} (x : Str) (t : Tok) (ty : String) (hty : ty = "str_ascii_iterator" ∨ ty = "str_iterator") (e it : Addr) :
    Turn P w K (.Tuple elts kk tpos) (Ites x) [e, it] e (fun i h => (∃ old, IsEnum h e it ((i : Nat) : Int) old) ∧ h.IsStrIter it ty x t i ∧ e ≠ it) where
  mem := List.mem_cons_self
  obj := by
    rintro i h ⟨⟨old, he⟩, ⟨o, ho, hc, hd⟩, _⟩ b hb
    rcases List.mem_cons.mp hb with rfl | hb
    · exact ⟨_, he, fun v q => by cases q⟩
    · obtain rfl := List.mem_singleton.mp hb
      exact ⟨o, ho, fun v q => by rw [hd] at q; cases q⟩
  keep := by
    rintro i h h' ⟨⟨old, he⟩, ⟨o, ho, r⟩, hne⟩ k
    exact ⟨⟨old, k e List.mem_cons_self _ he⟩, ⟨o, k it (List.mem_cons_of_mem _ List.mem_cons_self) o ho, r⟩, hne⟩
  item := by
    intro X hP hw hK hc i pins s σ H E I hf st hg
    subst hP hw hK
    obtain ⟨⟨old, he⟩, hit, hne⟩ := st
    have hel : e < s.heap.objs.size := Heap.lt_size he
    have hil : it < s.heap.objs.size := by obtain ⟨_, q, _⟩ := hit; exact Heap.lt_size q
    have D := draws_str (P := X.prog) (w := X.w) (A := X.A.in1) (I.ok.hd hc) it x t hty
    refine wpAny_pyNext_enum_itemD D he hit hg hne (fun z => hne (List.mem_singleton.mp z)) ?_
    rintro v h' tk ⟨c, u, hcx, rfl⟩ ho hit' hT hsz hk
    refine ⟨_, rfl, wpAny_letOwnedTupleGo_enum (s := { s with heap := h', toks := tk + 1 }) ho ?_⟩
    intro h'' he' sb
    have hT2 : h''.get? s.heap.objs.size = some { cls := .type "tuple", data := .seq #[.int i tk, .str ⟨#[c]⟩ u] } := (sb.2 _ (Nat.ne_of_gt hel)).trans hT
    have ok : ObjOk X.prog X.w (upd H s.heap.objs.size (.tup [.int (i : Nat), .str ⟨#[c]⟩])) h'' s.heap.objs.size (.tup [.int (i : Nat), .str ⟨#[c]⟩]) :=
      ⟨by show 2 ≤ sizeLine; decide, [.int i tk, .str ⟨#[c]⟩ u], .cons ⟨_, rfl⟩ (.cons ⟨_, rfl⟩ .nil), ⟨_, hT2, rfl, _, rfl⟩⟩
    have I1 : Inv X pins σ (upd H s.heap.objs.size (.tup [.int (i : Nat), .str ⟨#[c]⟩])) { s with heap := h'', toks := tk + 1 } :=
      I.turnedNew (ch := [e, it]) (fun b ob hb q => (sb.2 b (fun z => hb (by rw [z]; exact List.mem_cons_self))).trans (hk b ob (fun z => hb (by rw [z]; exact List.mem_cons_self)) (fun z => hb (by rw [z]; exact List.mem_cons_of_mem _ List.mem_cons_self)) q)) hf (Nat.le_refl _) ok
    have e1 : ((i + 1 : Nat) : Int) = (i : Int) + 1 := by omega
    have hit2 : h''.IsStrIter it ty x t (i + 1) := by
      obtain ⟨o, q1, q2⟩ := hit'
      exact ⟨o, (sb.2 it hne.symm).trans q1, q2⟩
    refine ⟨.ref s.heap.objs.size, _, I1, rfl, ⟨_, c, rfl, I.hok.fresh (Nat.le_refl _), rfl, hcx⟩, ⟨⟨_, by rw [e1]; exact he'⟩, hit2, hne⟩, fun b hb => ?_⟩
    have hb' : b < s.heap.objs.size := by
      rcases List.mem_cons.mp hb with rfl | z
      · exact hel
      · rw [List.mem_singleton.mp z]
        exact hil
    rw [upd_ne (Nat.ne_of_lt hb')]
    exact (hf b hb).1
  done := by
    intro X hP hw hK hc i pins s σ H E I hf st hg
    subst hP hw hK
    obtain ⟨⟨old, he⟩, hit, hne⟩ := st
    obtain ⟨f0, f1, f2, f3, f4, f5⟩ := hf it (List.mem_cons_of_mem _ List.mem_cons_self)
    obtain rfl : i = x.cps.size := hg
    have D := draws_str (P := X.prog) (w := X.w) (A := X.A.in1) (I.ok.hd hc) it x t hty
    exact wpAny_pyNext_enum_endD D he hit fun h' eb => ⟨rfl, I.turned (t' := s.toks) (fun b o hb q => eb b o hb q) f0 f1 f3 f4 f5⟩
  self := fun A i s Q E st h => st.1.elim fun _ z => wpAny_pyIter_enum z h
def iEnumS (ta : TA) : TI := fun σ H R => ta σ H fun vs H1 => ∃ x, vs = [.str x] ∧ R (Ites x) H1
theorem pi_enumS {X : Cx} {e : Expr} {ta : TA} {p pos tpos : Pos} {elts : List Expr} {kk : Nat} (hg : Gl X "enumerate") (hm : X.mg "enumerate" = none) (ha : PA X [e] ta) (hs : starEach [e] X.env = [(false, eval e X.env)] := by rfl) :
    PI X (.Tuple elts kk tpos) (.Call (.Name "enumerate" p) [e] [] pos) (iEnumS ta) := by
  constructor
  intro pins s σ H R I h
  refine Call_ (ld_blt I hg hm boot_enumerate (PyProof.Rows.callWith_type1 (thn (ha.run pos pins s σ H _ I h) ?_) hs rfl))
  rintro us s1 ⟨vs, H1, I1, r1, x, rfl, q⟩
  obtain ⟨u, rfl, t, rfl⟩ := vals1 r1
  refine call_enumerate_str fun h' he hit hsz hk => wpAny_pyIter_enum he ?_
  have I2 : Inv X pins σ H1 { s1 with heap := h' } := I1.kept (t' := s1.toks) hk
  have hty : strIterType x = "str_ascii_iterator" ∨ strIterType x = "str_iterator" := by
    unfold strIterType
    split
    · exact .inl rfl
    · exact .inr rfl
  refine ⟨s1.heap.objs.size + 1, [s1.heap.objs.size + 1, s1.heap.objs.size], _, _, H1, rfl, I2, turn_enumS x t _ hty (s1.heap.objs.size + 1) s1.heap.objs.size, ⟨⟨.none, he⟩, hit, Nat.succ_ne_self _⟩, ?_, q⟩
  intro b hb
  have hle : s1.heap.objs.size ≤ b := by
    rcases List.mem_cons.mp hb with rfl | z
    · exact Nat.le_succ _
    · rw [List.mem_singleton.mp z]
      exact Nat.le_refl _
  exact I1.fpOk hle (I1.hok.fresh hle)
/-- a target of two names, where a comprehension's block runs -/
theorem pg_two {X : Cx} (K : PySem.W.Frag) {i j : Nat} {x y : Str} {px py pt : Pos} {k : Nat} (hc : X.calm = true) (hN : X.N.Nodup) (hi : X.N[i]? = some x) (hj : X.N[j]? = some y) (hx : X.env.scope.names.lookup x = some .local) (hy : X.env.scope.names.lookup y = some .local) (hK : X.K = K) :
    PG X (.Tuple [.Name x px, .Name y py] k pt) (gTup K 2 (gCons (gName i) (gCons (gName j) gNil))) := by
  subst hK
  exact pg_tup hc (pgs_cons (pg_name hN hi (.inl hx) (.inr hx)) (pgs_cons (pg_name hN hj (.inl hy) (.inr hy)) pgs_nil))
end Ag

end
/-! ## EnumT -/
section
set_option linter.all false
set_option maxRecDepth 100000
namespace Ag
open PySem PySem.Spec PyProof.Rows L2
/-! ### for i, x in enumerate(tuple) -/
set_option maxHeartbeats 1000000 in
theorem new_enum {v : Value} {o : Obj} {C : Heap → Prop} (B : Begins v o C) : Meets (Builtin.«enumerate.__new__» ⟨[.type "enumerate", v], []⟩) (fun _ R s => C s.heap ∧
    R (.ok (.ret (.ref (s.heap.push o).objs.size))) { s with heap := (s.heap.push o).push { cls := .type "enumerate", data := .fields #[.none, .bool false, .ref s.heap.objs.size, rawInt 0, .none, .none] } }) := by
  refine .of_wp fun prog w A R s h => ?_
  obtain ⟨hp, gs, dr, tk, os⟩ := s
  obtain ⟨hC, h⟩ := h
  have sub := sub_enumerate
  have begin_ : ∀ {A' : Around} {E Q : Value → Shared → Prop}, Q (.ref hp.objs.size) ⟨hp.push o, gs, dr, tk, os⟩ → wpAny (model prog w) A' (pyIter v) Q E ⟨hp, gs, dr, tk, os⟩ := fun q => B.iter prog w _ _ ⟨hp, gs, dr, tk, os⟩ _ hC q
  wp_walk using begin_
  refine wpAny_stack_any fun _ => wpAny_pure ?_
  split
  · rename_i c _ _ _ _ _
    cases (c == Value.type "enumerate") <;> (wp_walk using begin_; exact ⟨_, rfl, h⟩)
  · wp_walk using begin_
    exact ⟨_, rfl, h⟩
theorem call_enum {prog : Program} {w : World} {A : Around} {E Q : Value → Shared → Prop} {s : Shared} {v : Value} {o : Obj} {C : Heap → Prop} (B : Begins v o C) (hC : C s.heap)
    (k : ∀ h', IsEnum h' (s.heap.objs.size + 1) s.heap.objs.size 0 .none → h'.get? s.heap.objs.size = some o → (∀ b u, s.heap.get? b = some u → h'.get? b = some u) → Q (.ref (s.heap.objs.size + 1)) { s with heap := h' }) :
    wpAny (model prog w) A (call (.type "enumerate") [v]) Q E s := by
  refine callType_new F.called_enumerate (by decide) (F.typeCall_enumerate_1 _) (F.newCall_enumerate_1 _) (fun obj => F.args_object_init_2 obj _) F.entry_enumerate_new (new_enum B) ⟨hC, ?_⟩
  have sz : (s.heap.push o).objs.size = s.heap.objs.size + 1 := Heap.size_push ..
  rw [sz]
  have cell := Heap.get?_push_size (s.heap.push o) (o := { cls := .type "enumerate", data := .fields #[.none, .bool false, .ref s.heap.objs.size, rawInt 0, .none, .none] }) rfl
  rw [sz] at cell
  exact ⟨⟨_, cell, rfl⟩, k _ cell (Heap.get?_push_of_some _ (Heap.get?_push_size _ B.free)) fun b u e => Heap.get?_push_of_some _ (Heap.get?_push_of_some _ e)⟩
def IteT (K : PySem.W.Frag) (a : Addr) : It where
  go i H := ∃ (xs : List V) (x : V), SqT K H a xs ∧ xs[i]? = some x
  yld i H v H' := ∃ T x, v = .ref T ∧ H T = none ∧ H' = upd H T (.tup [.int (i : Nat), x]) ∧ ∀ xs, SqT K H a xs → xs[i]? = some x
  stop i H := ∃ xs : List V, SqT K H a xs ∧ i = xs.length
theorem turn_enumT {P : Program} {w : World} {K : PySem.W.Frag} {elts : List Expr} {kk : Nat} {tpos : Pos} (e it a : Addr) (nea : e ≠ a) (nia : it ≠ a) :
    Turn P w K (.Tuple elts kk tpos) (IteT K a) [e, it] e (fun i h => (∃ old, IsEnum h e it ((i : Nat) : Int) old) ∧ h.IsTupleIter it a i ∧ e ≠ it) where
  mem := List.mem_cons_self
  obj := by
    rintro i h ⟨⟨old, he⟩, ⟨o, ho, _, hd⟩, _⟩ b hb
    simp only [List.mem_cons, List.not_mem_nil, or_false] at hb
    rcases hb with rfl | rfl
    · exact ⟨_, he, fun v q => by cases q⟩
    · exact ⟨o, ho, fun v q => by rw [hd] at q; cases q⟩
  keep := by
    rintro i h h' ⟨⟨old, he⟩, h2, ne⟩ k
    exact ⟨⟨old, k e (by simp) _ he⟩, h2.at fun o q => k it (by simp) o q, ne⟩
  item := by
    intro X hP hw hK hc i pins s σ H E I hf st hg
    subst hP hw hK
    obtain ⟨⟨old, he⟩, h2, ne⟩ := st
    obtain ⟨xs, x, hq, hx⟩ := hg
    obtain ⟨its, rv, p2, _⟩ := I.tuple hq
    obtain ⟨u2, hu2, ru2⟩ := rv.get hx
    have el : e < s.heap.objs.size := Heap.lt_size he
    have il : it < s.heap.objs.size := by obtain ⟨_, q, _⟩ := h2; exact Heap.lt_size q
    have D := Draws.tuple (prog := X.prog) (w := X.w) (A := X.A.in1) (I.ok.hd hc) it a nia.symm its.toArray
    have lt : i < its.toArray.size := by
      have := (List.getElem?_eq_some_iff.mp hu2).1
      simpa using this
    have eF : e ∉ [it, a] := by
      simp only [List.mem_cons, List.not_mem_nil, or_false, not_or]
      exact ⟨ne, nea⟩
    refine wpAny_pyNext_enum_itemD D he ⟨h2, p2⟩ lt ne eF ?_
    rintro v h' tk ev ho st' hT hsz hk
    have q2 : v = u2 := by
      have : its[i]? = some v := by simpa using ev
      rw [hu2] at this
      exact (Option.some.inj this).symm
    subst q2
    refine ⟨_, rfl, wpAny_letOwnedTupleGo_enum (s := { s with heap := h', toks := tk + 1 }) ho fun h'' he' sb => ?_⟩
    have hT2 : h''.get? s.heap.objs.size = some { cls := .type "tuple", data := .seq #[.int i tk, v] } := (sb.2 _ (Nat.ne_of_gt el)).trans hT
    have new : ObjOk X.prog X.w (upd H s.heap.objs.size (.tup [.int (i : Nat), x])) h'' s.heap.objs.size (.tup [.int (i : Nat), x]) := ⟨(by show 2 ≤ sizeLine; decide), [.int i tk, v], .cons ⟨tk, rfl⟩ (.cons ru2 .nil), ⟨_, hT2, rfl, _, rfl⟩⟩
    have I1 : Inv X pins σ (upd H s.heap.objs.size (.tup [.int (i : Nat), x])) { s with heap := h'', toks := tk + 1 } := by
      refine I.turnedNew (ch := [e, it]) (fun b u hb q => ?_) hf (Nat.le_refl _) new
      simp only [List.mem_cons, List.not_mem_nil, or_false, not_or] at hb
      exact (sb.2 b hb.1).trans (hk b u hb.1 hb.2 q)
    have e1 : ((i + 1 : Nat) : Int) = (i : Int) + 1 := by omega
    refine ⟨.ref s.heap.objs.size, _, I1, rfl, ⟨_, x, rfl, I.hok.fresh (Nat.le_refl _), rfl, fun l hl => by rw [I.tuple_inj hl hq]; exact hx⟩, ⟨⟨_, by rw [e1]; exact he'⟩, st'.1.at fun o q => (sb.2 _ ne.symm).trans q, ne⟩, fun b hb => ?_⟩
    have lt : b < s.heap.objs.size := by
      simp only [List.mem_cons, List.not_mem_nil, or_false] at hb
      rcases hb with rfl | rfl
      · exact el
      · exact il
    rw [upd_ne (Nat.ne_of_lt lt)]
    exact (hf b hb).1
  done := by
    intro X hP hw hK hc i pins s σ H E I hf st hg
    subst hP hw hK
    obtain ⟨⟨old, he⟩, h2, ne⟩ := st
    obtain ⟨xs, hq, hi⟩ := hg
    obtain ⟨its, rv, p2, _⟩ := I.tuple hq
    obtain ⟨f0, f1, f2, f3, f4, f5⟩ := hf it (List.mem_cons_of_mem _ List.mem_cons_self)
    have ln := rv.length
    have es : its.toArray.size = its.length := List.size_toArray ..
    obtain rfl : i = its.toArray.size := by omega
    have D := Draws.tuple (prog := X.prog) (w := X.w) (A := X.A.in1) (I.ok.hd hc) it a nia.symm its.toArray
    exact wpAny_pyNext_enum_endD D he ⟨h2, p2⟩ fun h' eb => ⟨rfl, I.turned (t' := s.toks) (fun b o hb q => eb b o hb q) f0 f1 f3 f4 f5⟩
  self := fun A i s Q E st h => st.1.elim fun _ z => wpAny_pyIter_enum z h
def iEnumT (K : PySem.W.Frag) (ta : TA) : TI := fun σ H R => ta σ H fun vs H1 => ∃ a xs, vs = [.ref a] ∧ SqT K H1 a xs ∧ R (IteT K a) H1
theorem pi_enumT {X : Cx} {e : Expr} {ta : TA} {p pos tpos : Pos} {elts : List Expr} {kk : Nat} (hg : Gl X "enumerate") (hm : X.mg "enumerate" = none) (ha : PA X [e] ta) (hs : starEach [e] X.env = [(false, eval e X.env)] := by rfl) :
    PI X (.Tuple elts kk tpos) (.Call (.Name "enumerate" p) [e] [] pos) (iEnumT X.K ta) := by
  constructor
  intro pins s σ H R I h
  refine Call_ (ld_blt I hg hm boot_enumerate (PyProof.Rows.callWith_type1 (thn (ha.run pos pins s σ H _ I h) ?_) hs rfl))
  rintro us s1 ⟨vs, H1, I1, r1, a, xs, rfl, hq, q⟩
  rw [Vals.ref1 r1]
  obtain ⟨its, rv, p2, _⟩ := I1.tuple hq
  have la : a < s1.heap.objs.size := by
    obtain ⟨o, e, _⟩ := id p2
    exact Heap.lt_size e
  refine call_enum (begins_tuple a its.toArray) p2 fun h' he g1 hk => wpAny_pyIter_enum he ?_
  have I2 : Inv X pins σ H1 { s1 with heap := h' } := I1.kept (t' := s1.toks) hk
  refine ⟨s1.heap.objs.size + 1, [s1.heap.objs.size + 1, s1.heap.objs.size], _, _, H1, rfl, I2, turn_enumT (s1.heap.objs.size + 1) s1.heap.objs.size a (Nat.ne_of_gt (Nat.lt_succ_of_lt la)) (Nat.ne_of_gt la), ⟨⟨_, he⟩, ⟨_, g1, rfl, rfl⟩, Nat.succ_ne_self _⟩, fun c hcm => ?_, q⟩
  have hle : s1.heap.objs.size ≤ c := by
    simp only [List.mem_cons, List.not_mem_nil, or_false] at hcm
    rcases hcm with rfl | rfl <;> first | exact Nat.le_add_right _ _ | exact Nat.le_refl _
  exact I1.fpOk hle (I1.hok.fresh hle)
end Ag

end
/-! ## SumT -/
section
set_option linter.all false
set_option maxRecDepth 100000
namespace Ag
open PySem PySem.Spec PyProof.Rows L2
/-! ### sum of a tuple of ints -/
theorem pre_sum (ns : List Int) : ∀ j, j ≤ ns.length → preSum (fun i => ns.getD i 0) j = (ns.take j).sum
  | 0, _ => by simp [preSum]
  | j + 1, h => by
    have h' : j < ns.length := h
    have e : (ns.take (j + 1)).sum = (ns.take j).sum + ns[j] := by
      rw [List.take_add_one, List.getElem?_eq_getElem h', List.sum_append]
      show _ + List.sum [ns[j]] = _
      simp
    have e2 : ns.getD j 0 = ns[j] := by simp [List.getD_eq_getElem?_getD, h']
    rw [preSum, pre_sum ns j (by omega), e, e2]
section
variable {X : Cx}
def rSumT (K : PySem.W.Frag) : List V → Hp → VK → Prop := fun vs H Q => ∃ (a : Addr) (ns : List Int), vs = [V.ref a] ∧ SqT K H a (ns.map V.int) ∧ Q (.int ns.sum) H
theorem cr_sumT (hc : X.calm = true) : CallR X (.builtin "sum") (rSumT X.K) := by
  intro pins s σ H xs us Q I r h
  obtain ⟨a, ns, rfl, hs, q⟩ := h
  rw [Vals.ref1 r]
  obtain ⟨its, rv, pl, _⟩ := I.tuple hs
  have lt : a < s.heap.objs.size := by
    obtain ⟨o, e, _⟩ := id pl
    exact Heap.lt_size e
  have ln := rv.length
  rw [List.length_map] at ln
  have hd : X.A.in1.handled = none := I.ok.hd hc
  refine call_sum_walkG (wpAny_pyIter_tuple (show s.heap.IsTuple a its.toArray from pl) ⟨s.heap.objs.size, [s.heap.objs.size, a], [s.heap.objs.size], _, _, _, fun i => ns.getD i 0, rfl, Walks.tuple hd _ a (Nat.ne_of_lt lt) its.toArray,
    ⟨⟨_, Heap.get?_push_size _ rfl, rfl, rfl⟩, (show s.heap.IsTuple a its.toArray from pl).push _⟩, fun b hb => ?_, fun i v hv => ?_, fun h' tk t' hk => ?_⟩)
  · rw [Heap.size_push]
    simp only [List.mem_cons, List.not_mem_nil, or_false] at hb
    rcases hb with rfl | rfl
    · exact Nat.lt_succ_self _
    · exact Nat.lt_succ_of_lt lt
  · obtain ⟨t, e⟩ := IntsAre.int_at rv.ints i v (by simpa using hv)
    exact ⟨t, e⟩
  · rw [List.size_toArray, ← ln, pre_sum ns _ (Nat.le_refl _), List.take_length]
    exact ⟨.int _, H, I.kept fun b o e => hk b o (fun z => Nat.ne_of_lt (Heap.lt_size e) (List.mem_singleton.mp z)) (Heap.get?_push_of_some _ e), ⟨_, rfl⟩, q⟩
end
end Ag

end
/-! ## ZipTL -/
section
set_option linter.all false
set_option maxRecDepth 100000
namespace Ag
open PySem PySem.Spec PyProof.Rows L2
/-! ### zip(tuple, list) -/
def ItzTL (K : PySem.W.Frag) (a b : Addr) : It where
  go i H := ∃ (xs ys : List V) (x y : V), SqT K H a xs ∧ SqL K H b ys ∧ xs[i]? = some x ∧ ys[i]? = some y
  yld i H v H' := ∃ T x y, (v = .ref T ∧ H T = none ∧ H' = upd H T (.tup [x, y])) ∧ (∀ xs, SqT K H a xs → xs[i]? = some x) ∧ ∀ ys, SqL K H b ys → ys[i]? = some y
  stop i H := ∃ xs ys : List V, SqT K H a xs ∧ SqL K H b ys ∧ i = min xs.length ys.length
theorem turn_zipTL {P : Program} {w : World} {K : PySem.W.Frag} {elts : List Expr} {kk : Nat} {tpos : Pos} {a b z TI TO i1 i2 : Addr} (D : ZipSep2 z TI TO i1 i2 [i1, a] [i2, b]) (na : a ≠ i1) (nb : b ≠ i2) :
    Turn P w K (.Tuple elts kk tpos) (ItzTL K a b) [z, TI, TO, i1, i2] z (fun i h => IsZip h z TI TO .none ∧ IsTupOf2 h TI (.ref i1) (.ref i2) ∧ (∃ x y, IsTupOf2 h TO x y) ∧ h.IsTupleIter i1 a i ∧ h.IsListIter i2 b i) where
  mem := List.mem_cons_self
  obj := by
    rintro i h ⟨hz, hTI, ⟨x, y, hTO⟩, ⟨o1, e1, _, d1⟩, ⟨o2, e2, _, d2⟩⟩ c hc
    simp only [List.mem_cons, List.not_mem_nil, or_false] at hc
    rcases hc with rfl | rfl | rfl | rfl | rfl
    · exact ⟨_, hz, fun v q => by cases q⟩
    · exact ⟨_, hTI, fun v q => by cases q⟩
    · exact ⟨_, hTO, fun v q => by cases q⟩
    · exact ⟨o1, e1, fun v q => by rw [d1] at q; cases q⟩
    · exact ⟨o2, e2, fun v q => by rw [d2] at q; cases q⟩
  keep := by
    rintro i h h' ⟨hz, hTI, ⟨x, y, hTO⟩, h1, h2⟩ k
    exact ⟨k z (by simp) _ hz, k TI (by simp) _ hTI, ⟨x, y, k TO (by simp) _ hTO⟩, h1.at fun o q => k i1 (by simp) o q, h2.at fun o q => k i2 (by simp) o q⟩
  item := by
    intro X hP hw hK hc i pins s σ H E I hf st hg
    subst hP hw hK
    obtain ⟨hz, hTI, ⟨x0, y0, hTO⟩, h1, h2⟩ := st
    obtain ⟨xs, ys, x, y, hqx, hqy, hx, hy⟩ := hg
    obtain ⟨its1, rv1, p1, _⟩ := I.tuple hqx
    obtain ⟨its2, rv2, p2, _⟩ := I.list hqy
    obtain ⟨u1, hu1, ru1⟩ := rv1.get hx
    obtain ⟨u2, hu2, ru2⟩ := rv2.get hy
    have hzl : z < s.heap.objs.size := Heap.lt_size hz
    have D1 := Draws.tuple (prog := X.prog) (w := X.w) (A := X.A.in1) (I.ok.hd hc) i1 a na its1.toArray
    have D2 := Draws.list (prog := X.prog) (w := X.w) (A := X.A.in1) (I.ok.hd hc) i2 b nb its2.toArray
    have l1 : i < its1.toArray.size := by
      have := (List.getElem?_eq_some_iff.mp hu1).1
      simpa using this
    have l2 : i < its2.toArray.size := by
      have := (List.getElem?_eq_some_iff.mp hu2).1
      simpa using this
    refine wpAny_pyNext_zipD2_item D D1 D2 hz hTI hTO ⟨h1, p1⟩ ⟨h2, p2.isList⟩ l1 l2 ?_
    intro x1 x2 h' tk e1 e2 z' TO' st1 st2 hT hsz hk
    have q1 : x1 = u1 := by
      have : its1[i]? = some x1 := by simpa using e1
      rw [hu1] at this
      exact (Option.some.inj this).symm
    have q2 : x2 = u2 := by
      have : its2[i]? = some x2 := by simpa using e2
      rw [hu2] at this
      exact (Option.some.inj this).symm
    subst q1 q2
    refine ⟨_, rfl, wpAny_letOwnedTupleGo_zip (s := { s with heap := h', toks := tk }) z' fun h'' z'' sb => ?_⟩
    have hT2 : h''.get? s.heap.objs.size = some { cls := .type "tuple", data := .seq #[x1, x2] } := (sb.2 _ (Nat.ne_of_gt hzl)).trans hT
    have new : ObjOk X.prog X.w (upd H s.heap.objs.size (.tup [x, y])) h'' s.heap.objs.size (.tup [x, y]) := ⟨(by show 2 ≤ sizeLine; decide), [x1, x2], .cons ru1 (.cons ru2 .nil), ⟨_, hT2, rfl, _, rfl⟩⟩
    have I1 : Inv X pins σ (upd H s.heap.objs.size (.tup [x, y])) { s with heap := h'', toks := tk } := by
      refine I.turnedNew (t' := tk) (ch := [z, TI, TO, i1, i2]) (fun c o hb q => ?_) hf (Nat.le_refl _) new
      simp only [List.mem_cons, List.not_mem_nil, or_false, not_or] at hb
      exact (sb.2 c hb.1).trans (hk c o hb.1 hb.2.2.1 hb.2.2.2.1 hb.2.2.2.2 q)
    refine ⟨.ref s.heap.objs.size, _, I1, rfl, ⟨_, x, y, ⟨rfl, I.hok.fresh (Nat.le_refl _), rfl⟩, fun l hl => by rw [I.tuple_inj hl hqx]; exact hx, fun l hl => by rw [I.list_inj hl hqy]; exact hy⟩, ⟨z'', ?_, ⟨x1, x2, ?_⟩, ?_, ?_⟩, fun c hcm => ?_⟩
    · exact (sb.2 _ D.TIz).trans (hk _ _ D.TIz D.TITO D.TIi1 D.TIi2 hTI)
    · exact (sb.2 _ D.TOz).trans TO'
    · exact st1.1.at fun o q => (sb.2 _ (Ne.symm D.zi1)).trans q
    · exact st2.1.at fun o q => (sb.2 _ (Ne.symm D.zi2)).trans q
    · have hlt : c < s.heap.objs.size := by
        simp only [List.mem_cons, List.not_mem_nil, or_false] at hcm
        rcases hcm with rfl | rfl | rfl | rfl | rfl
        · exact hzl
        · exact Heap.lt_size hTI
        · exact Heap.lt_size hTO
        · exact h1.elim fun _ q => Heap.lt_size q.1
        · exact h2.elim fun _ q => Heap.lt_size q.1
      rw [upd_ne (Nat.ne_of_lt hlt)]
      exact (hf c hcm).1
  done := by
    intro X hP hw hK hc i pins s σ H E I hf st hg
    subst hP hw hK
    obtain ⟨hz, hTI, ⟨x0, y0, hTO⟩, h1, h2⟩ := st
    obtain ⟨xs, ys, hqx, hqy, hi⟩ := hg
    obtain ⟨its1, rv1, p1, _⟩ := I.tuple hqx
    obtain ⟨its2, rv2, p2, _⟩ := I.list hqy
    have l1 := rv1.length
    have l2 := rv2.length
    have D1 := Draws.tuple (prog := X.prog) (w := X.w) (A := X.A.in1) (I.ok.hd hc) i1 a na its1.toArray
    have D2 := Draws.list (prog := X.prog) (w := X.w) (A := X.A.in1) (I.ok.hd hc) i2 b nb its2.toArray
    have s1 : its1.toArray.size = its1.length := List.size_toArray ..
    have s2 : its2.toArray.size = its2.length := List.size_toArray ..
    refine wpAny_pyNext_zipD2_end D D1 D2 hz hTI hTO ⟨h1, p1⟩ ⟨h2, p2.isList⟩ (by omega) (by omega) (by omega) fun h' tk hk => ⟨rfl, I.turnedL (t' := tk) (ch := [z, TI, TO, i1, i2]) (fun c o hb q => ?_) hf⟩
    simp only [List.mem_cons, List.not_mem_nil, or_false, not_or] at hb
    exact hk c o hb.1 hb.2.2.1 hb.2.2.2.1 hb.2.2.2.2 q
  self := fun A i s Q E st h => wpAny_pyIter_zip st.1 h
def iZipTL (K : PySem.W.Frag) (ta : TA) : TI := fun σ H R => ta σ H fun vs H1 => ∃ a b xs ys, vs = [.ref a, .ref b] ∧ SqT K H1 a xs ∧ SqL K H1 b ys ∧ R (ItzTL K a b) H1
theorem pi_zipTL {X : Cx} {e e2 : Expr} {ta : TA} {p pos tpos : Pos} {elts : List Expr} {kk : Nat} (hg : Gl X "zip") (hm : X.mg "zip" = none) (ha : PA X [e, e2] ta) (hs : starEach [e, e2] X.env = (false, eval e X.env) :: starEach [e2] X.env := by rfl)
    (hpl : (backTo pos (starEach [e2] X.env)).any (·.1) = false := by rfl) : PI X (.Tuple elts kk tpos) (.Call (.Name "zip" p) [e, e2] [] pos) (iZipTL X.K ta) := by
  constructor
  intro pins s σ H R I h
  refine Call_ (ld_blt I hg hm PyProof.Rows.boot_zip (PyProof.Rows.callWith_type1 (thn (ha.run pos pins s σ H _ I h) ?_) hs hpl))
  rintro us s1 ⟨vs, H1, I1, r1, a, b, xs, ys, rfl, hqx, hqy, q⟩
  match us, r1 with
  | [_, _], .cons r (.cons r' .nil) =>
    cases r
    cases r'
    obtain ⟨its1, rv1, p1, _⟩ := I1.tuple hqx
    obtain ⟨its2, rv2, p2, _⟩ := I1.list hqy
    have la : a < s1.heap.objs.size := by
      obtain ⟨o, e, _⟩ := id p1
      exact Heap.lt_size e
    have lb : b < s1.heap.objs.size := p2.lt
    refine zip_begins2 (begins_tuple a its1.toArray) (begins_list b its2.toArray) p1 p2.isList fun h' hz hTI hTO g1 g2 hsz hk => wpAny_pyIter_zip hz ?_
    have I2 : Inv X pins σ H1 { s1 with heap := h' } := I1.kept (t' := s1.toks) hk
    refine ⟨s1.heap.objs.size + 4, [s1.heap.objs.size + 4, s1.heap.objs.size + 2, s1.heap.objs.size + 3, s1.heap.objs.size, s1.heap.objs.size + 1], _, _, H1, rfl, I2, turn_zipTL (zip_sep2 (by simp; exact la) (by simp; exact lb)) (Nat.ne_of_lt la) (Nat.ne_of_lt (Nat.lt_succ_of_lt lb)), ⟨hz, hTI, ⟨_, _, hTO⟩, ⟨_, g1, rfl, rfl⟩, ⟨_, g2, rfl, rfl⟩⟩, fun c hcm => ?_, q⟩
    have hle : s1.heap.objs.size ≤ c := by
      simp only [List.mem_cons, List.not_mem_nil, or_false] at hcm
      rcases hcm with rfl | rfl | rfl | rfl | rfl <;> first | exact Nat.le_add_right _ _ | exact Nat.le_refl _
    exact I1.fpOk hle (I1.hok.fresh hle)
end Ag

end
/-! ## GetL -/
section
set_option linter.all false
set_option maxRecDepth 100000
namespace Ag
open PySem PySem.Spec PyProof.Rows L2
/-! ### xs[i] += e, a list -/
section
variable {X : Cx}
def rGetL (K : PySem.W.Frag) : V → V → Hp → VK → Prop := fun o i H Q => ∃ (p : Addr) (xs : List V) (k : Nat) (v : V), o = .ref p ∧ i = .int (k : Int) ∧ SqL K H p xs ∧ xs[k]? = some v ∧ Q v H
theorem get_list : PGet X (rGetL X.K) := by
  intro pins s σ H o i ov iv Q I ro ri h
  obtain ⟨p, xs, k, v, rfl, rfl, hs, hv, q⟩ := h
  obtain rfl : ov = Value.ref p := ro
  obtain ⟨t, rfl⟩ := ri
  obtain ⟨its, rv, pl, hz⟩ := I.list hs
  obtain ⟨u, hu, ru⟩ := rv.get hv
  have hk : k < its.length := (List.getElem?_eq_some_iff.mp hu).1
  have ln := line63
  have lx := rv.length
  exact wpAny_getItem_list pl.isList (by omega) (by omega) (by simpa using hu) ⟨v, H, I, ru, q⟩
end
end Ag

end
/-! ## T0 -/
section
set_option linter.all false
set_option maxRecDepth 100000
namespace Ag
open PySem PySem.Spec PyProof.Rows L2
/-- by place, a new pair of the place and the item -/
def YEn (xs : List V) : Nat → Hp → V → Hp → Prop := fun i H v H' => ∃ T x, v = .ref T ∧ H T = none ∧ H' = upd H T (.tup [.int (i : Nat), x]) ∧ xs[i]? = some x
theorem walk_enumT {K : PySem.W.Frag} {a : Addr} {xs : List V} : Walk (IteT K a) xs.length (fun H => SqT K H a xs) (YEn xs) := by
  refine ⟨fun i H hi q => ⟨xs, xs[i], q, by simp [hi]⟩, fun H q => ⟨xs, q, rfl⟩, fun i H v H' _ q y => ?_⟩
  obtain ⟨T, x, h1, h2, h3, h4⟩ := y
  exact ⟨T, x, h1, h2, h3, h4 xs q⟩
theorem walk_zipTL {K : PySem.W.Frag} {a b : Addr} {xs ys : List V} (hl : xs.length = ys.length) : Walk (ItzTL K a b) xs.length (fun H => SqT K H a xs ∧ SqL K H b ys) (YPair (fun i => xs[i]?) (fun i => ys[i]?)) := by
  refine ⟨fun i H hi q => ⟨xs, ys, xs[i], ys[i]'(by omega), q.1, q.2, by simp [hi], by simp [hl ▸ hi]⟩, fun H q => ⟨xs, ys, q.1, q.2, by omega⟩, fun i H v H' _ q y => ?_⟩
  obtain ⟨T, x, z, ⟨h1, h2, h3⟩, h4, h5⟩ := y
  exact ⟨T, x, z, h1, h2, h3, h4 xs q.1, h5 ys q.2⟩
theorem CallR.or2 {X : Cx} {f : Value} {r1 r2 : List V → Hp → VK → Prop} (h1 : CallR X f r1) (h2 : CallR X f r2) : CallR X f (fun xs H Q => r1 xs H Q ∨ r2 xs H Q) := by
  intro pins s σ H xs us Q I r h
  rcases h with h | h
  · exact h1 pins s σ H xs us Q I r h
  · exact h2 pins s σ H xs us Q I r h
theorem cr_sumA {X : Cx} (hc : X.calm = true) : CallR X (.builtin "sum") (fun xs H Q => rSum X.K xs H Q ∨ rSumT X.K xs H Q) := CallR.or2 (cr_sum hc) (cr_sumT hc)
theorem ix_tupK {X : Cx} (K : PySem.W.Frag) (hK : X.K = K) : IxR X (rIxT K) := by
  subst hK
  exact ix_tup
theorem pe_of_K {X : Cx} (K : PySem.W.Frag) {e : Expr} (f : PySem.W.Frag → TE) (hK : X.K = K) (h : PE X e (f X.K)) : PE X e (f K) := hK ▸ h
/-- a target i, (j, l), where a comprehension's block runs -/
theorem pg_nest {X : Cx} (K : PySem.W.Frag) {i j l : Nat} {x y z : Str} {px py pz pt pu : Pos} {k k2 : Nat} (hc : X.calm = true) (hN : X.N.Nodup) (hi : X.N[i]? = some x) (hj : X.N[j]? = some y) (hl : X.N[l]? = some z) (hx : X.env.scope.names.lookup x = some .local) (hy : X.env.scope.names.lookup y = some .local) (hz : X.env.scope.names.lookup z = some .local) (hK : X.K = K) :
    PG X (.Tuple [.Name x px, .Tuple [.Name y py, .Name z pz] k2 pu] k pt) (gTup K 2 (gCons (gName i) (gCons (gTup K 2 (gCons (gName j) (gCons (gName l) gNil))) gNil))) := by
  subst hK
  exact pg_tup hc (pgs_cons (pg_name hN hi (.inl hx) (.inr hx)) (pgs_cons (pg_tup hc (pgs_cons (pg_name hN hj (.inl hy) (.inr hy)) (pgs_cons (pg_name hN hl (.inl hz) (.inr hz)) pgs_nil))) pgs_nil))
end Ag

end
/-! ## Sel -/
section
set_option linter.all false
set_option maxRecDepth 100000
namespace Ag
open PySem PySem.Spec PyProof.Rows L2
/-- a comprehension with a pure test and a pure value at each place, under which things may be made -/
theorem lc_sel {J : It} {n : Nat} {G : Hp → Prop} {Y : Nat → Hp → V → Hp → Prop} (w : Walk J n G Y) {g : TG} {tt : TT} {te : TE} {vs : List Nat} {σ : L2.St} {H1 : Hp} {D : Addr} {Qd : Hp → Prop}
    (t : Nat → Bool) (e : Nat → V) (hn : n ≤ 16000000) (hD : H1 D = none) (hG : ∀ H, Same H1 H → G H)
    (hs : ∀ i x H H' (k : VK) (k0 : Hp → Prop), i < n → Same H1 H → Y i H x H' → (t i = true → ∀ H4, Same H H4 → k (e i) H4) → (t i = false → ∀ H4, Same H H4 → k0 H4) →
      g x (wipe σ vs) H' fun σ2 H2 => wipe σ2 vs = wipe σ vs ∧ tt σ2 H2 fun b H3 => if b = true then te σ2 H3 k else k0 H3)
    (hd : ∀ H, Same H1 H → H D = some (.lst (((List.range n).filter t).map e)) → Qd H) :
    ∃ W : Nat → Nat → Hp → Prop, (∃ m, W 0 m (upd H1 D (.lst []))) ∧ ∀ i m H, W i m H →
      (J.stop i H ∧ Qd H) ∨ (J.go i H ∧ ∃ Nx : Hp → Prop, (∀ H', Nx H' → ∃ m', m' < m ∧ W (i + 1) m' H') ∧ ∀ x H', J.yld i H x H' → g x (wipe σ vs) H' fun σ2 H2 => wipe σ2 vs = wipe σ vs ∧ tt σ2 H2 fun b H3 =>
        if b = true then te σ2 H3 fun y H4 => ∃ acc, H4 D = some (.lst acc) ∧ acc.length < sizeLine ∧ Nx (upd H4 D (.lst (acc ++ [y]))) else Nx H3) := by
  have put : ∀ (H : Hp) (o : HO), Same H1 H → Same H1 (upd H D o) := fun H o s b u eb => by
    rw [upd_ne (ne_of_none eb hD)]
    exact s b u eb
  have step : ∀ i, (List.range (i + 1)).filter t = (List.range i).filter t ++ (if t i = true then [i] else []) := fun i => by
    rw [List.range_succ, List.filter_append]
    cases h : t i <;> simp [h]
  refine lc_it (g := g) (tt := tt) (te := te) (vs := vs) (σ := σ) w (fun i H => Same H1 H ∧ H D = some (.lst (((List.range i).filter t).map e))) ⟨put _ _ (Same.refl _), by simpa using upd_same⟩ (fun i H _ h => hG H h.1) (fun i x H H' hi h hy => ?_) (fun H h => hd H h.1 h.2)
  obtain ⟨s1, h1⟩ := h
  have hl : (((List.range i).filter t).map e).length ≤ i := by
    rw [List.length_map]
    exact Nat.le_trans (List.length_filter_le _ _) (by rw [List.length_range]; exact Nat.le_refl _)
  refine hs i x H H' _ _ hi s1 hy (fun ht H4 s4 => ?_) (fun ht H4 s4 => ?_)
  · refine ⟨_, s4 _ _ h1, by rw [sizeLine_eq]; omega, put _ _ (s1.trans s4), ?_⟩
    rw [upd_same, step, if_pos ht, List.map_append]
    rfl
  · refine ⟨s1.trans s4, ?_⟩
    rw [step, if_neg (by rw [ht]; decide), List.append_nil]
    exact s4 _ _ h1
/-- len of a list or a tuple, where a comprehension's block runs -/
def rLenK (K : PySem.W.Frag) : List V → Hp → VK → Prop := fun xs H Q => ∃ p ys, xs = [.ref p] ∧ (SqL K H p ys ∨ SqT K H p ys) ∧ Q (.int ys.length) H
theorem call_lenK {X : Cx} (K : PySem.W.Frag) (hK : X.K = K) : CallR X (.builtin "len") (rLenK K) := by
  subst hK
  exact call_len_seq
theorem filt_all {n : Nat} (e : Nat → V) : ((List.range n).filter fun _ => true).map e = (List.range n).map e := by rw [List.filter_eq_self.mpr fun _ _ => rfl]
/-- bools by place -/
theorem bls_map {n : Nat} (b : Nat → Bool) : (List.range n).map (fun i => V.bl (b i)) = ((List.range n).map b).map V.bl := by rw [List.map_map]; rfl
theorem all_at {α : Type} (l : List α) (t : α → Bool) (d : α) : ((List.range l.length).map fun i => t (l.getD i d)).all id = l.all t := by
  induction l with
  | nil => rfl
  | cons a l ih =>
    rw [List.length_cons, List.range_succ_eq_map, List.map_cons, List.all_cons, List.map_map, List.all_cons, ← ih]
    rfl
theorem none_at {α : Type} (l : List α) (t : α → Bool) (d : α) : decide (((List.range l.length).filter fun i => !t (l.getD i d)) = []) = l.all t := by
  rw [Bool.eq_iff_iff, decide_eq_true_eq, List.filter_eq_nil_iff, List.all_eq_true]
  constructor
  · intro h a ha
    obtain ⟨i, hi, rfl⟩ := List.mem_iff_getElem.mp ha
    have := h i (List.mem_range.mpr hi)
    rw [List.getD_eq_getElem?_getD, List.getElem?_eq_getElem hi] at this
    simpa using this
  · intro h i hi
    have hi := List.mem_range.mp hi
    rw [List.getD_eq_getElem?_getD, List.getElem?_eq_getElem hi]
    simpa using h _ (List.getElem_mem hi)
theorem eqv_map_nil {α : Type} (l : List α) (e : α → PyData) : PyData.eqv (.list (l.map e)) (.list []) = decide (l = []) := by
  cases l <;> simp [PyData.eqv, PyData.eqvAll]
theorem dp_const {K : PySem.W.Frag} {H : Hp} {α : Type} : ∀ l : List α, DpAll K H (l.map fun _ => V.int 1) (l.map fun _ => PyData.int 1)
  | [] => .nil
  | _ :: l => .cons (.int 1) (dp_const l)
end Ag

end
/-! ## Fair -/
section
/-! turns by weights: a ready turn that is due first keeps every turn in its window -/
namespace Fair
def sumN : Nat → (Nat → Nat) → Nat
  | 0, _ => 0
  | n + 1, f => sumN n f + f n
theorem sum_le {n : Nat} {f g : Nat → Nat} (h : ∀ i, i < n → f i ≤ g i) : sumN n f ≤ sumN n g := by
  induction n with
  | zero => exact Nat.le_refl _
  | succ n ih => exact Nat.add_le_add (ih fun i hi => h i (by omega)) (h n (by omega))
theorem sum_congr {n : Nat} {f g : Nat → Nat} (h : ∀ i, i < n → f i = g i) : sumN n f = sumN n g := by
  induction n with
  | zero => rfl
  | succ n ih =>
    show sumN n f + f n = sumN n g + g n
    rw [ih fun i hi => h i (by omega), h n (by omega)]
theorem sum_mul (n : Nat) (f : Nat → Nat) (c : Nat) : sumN n (fun i => f i * c) = sumN n f * c := by
  induction n with
  | zero => show 0 = 0 * c; rw [Nat.zero_mul]
  | succ n ih =>
    show sumN n (fun i => f i * c) + f n * c = (sumN n f + f n) * c
    rw [ih, Nat.add_mul]
theorem sum_pos {n : Nat} {f : Nat → Nat} {i : Nat} (hi : i < n) : f i ≤ sumN n f := by
  induction n with
  | zero => omega
  | succ n ih =>
    show f i ≤ sumN n f + f n
    by_cases e : i = n
    · subst e; omega
    · have := ih (by omega); omega
/-- one more at i -/
def bump (k : Nat → Nat) (i : Nat) : Nat → Nat := fun j => if j = i then k j + 1 else k j
theorem sum_bump {n i : Nat} (k : Nat → Nat) (hi : i < n) : sumN n (bump k i) = sumN n k + 1 := by
  induction n with
  | zero => omega
  | succ n ih =>
    show sumN n (bump k i) + bump k i n = sumN n k + k n + 1
    by_cases e : i = n
    · subst e
      have : sumN i (bump k i) = sumN i k := sum_congr fun j hj => by unfold bump; rw [if_neg (by omega)]
      rw [this]
      unfold bump
      rw [if_pos rfl]
      omega
    · rw [ih (by omega)]
      unfold bump
      rw [if_neg (by omega)]
      omega
/-- one fewer at i -/
theorem sum_less {n i : Nat} {f g : Nat → Nat} (hi : i < n) (h : ∀ j, j < n → j ≠ i → f j ≤ g j) (hf : f i + 1 ≤ g i) : sumN n f + 1 ≤ sumN n g := by
  have e : sumN n (bump f i) = sumN n f + 1 := sum_bump f hi
  rw [← e]
  refine sum_le fun j hj => ?_
  unfold bump
  by_cases q : j = i
  · subst q; rw [if_pos rfl]; exact hf
  · rw [if_neg q]; exact h j hj q
section
variable (n : Nat) (w : Nat → Nat)
def tot : Nat := sumN n w
/-- the next turn of i is ready at t -/
def rdy (k : Nat → Nat) (i t : Nat) : Prop := k i * tot n w / w i < t
def due (k : Nat → Nat) (i : Nat) : Nat := ((k i + 1) * tot n w + w i - 1) / w i
/-- the one that is given the turn at t -/
structure Pick (k : Nat → Nat) (t i : Nat) : Prop where
  lt : i < n
  rd : rdy n w k i t
  least : ∀ j, j < n → rdy n w k j t → due n w k i < due n w k j ∨ (due n w k i = due n w k j ∧ i ≤ j)
theorem Pick.uniq {k : Nat → Nat} {t i j : Nat} (a : Pick n w k t i) (b : Pick n w k t j) : i = j := by
  have h1 := a.least j b.lt b.rd
  have h2 := b.least i a.lt a.rd
  omega
/-- what holds after t turns -/
structure Inv (k : Nat → Nat) (t : Nat) : Prop where
  sum : sumN n k = t
  dem : ∀ d, t ≤ d → sumN n (fun i => d * w i / tot n w - k i) + t ≤ d
  up : ∀ i, i < n → k i ≤ (t * w i + tot n w - 1) / tot n w
variable {n w}
theorem rdy_iff {k : Nat → Nat} {i t : Nat} (hw : 1 ≤ w i) : rdy n w k i t ↔ k i * tot n w < t * w i := by
  unfold rdy
  rw [Nat.div_lt_iff_lt_mul (by omega)]
theorem due_le {k : Nat → Nat} {i d : Nat} (hw : 1 ≤ w i) : due n w k i ≤ d ↔ (k i + 1) * tot n w ≤ d * w i := by
  unfold due
  rw [Nat.div_le_iff_le_mul_add_pred (by omega), Nat.mul_comm (w i) d]
  omega
theorem tot_pos (hn : 1 ≤ n) (hw : ∀ i, i < n → 1 ≤ w i) : 1 ≤ tot n w := Nat.le_trans (hw 0 (by omega)) (sum_pos (f := w) (by omega))
theorem start (hn : 1 ≤ n) (hw : ∀ i, i < n → 1 ≤ w i) : Inv n w (fun _ => 0) 0 := by
  have tp := tot_pos hn hw
  refine ⟨?_, fun d _ => ?_, fun i _ => Nat.zero_le _⟩
  · clear hn hw tp
    induction n with
    | zero => rfl
    | succ n ih => exact ih
  · have h1 : sumN n (fun i => d * w i / tot n w - 0) * tot n w ≤ d * tot n w := by
      rw [← sum_mul]
      refine Nat.le_trans (sum_le (g := fun i => w i * d) fun i _ => ?_) ?_
      · show (d * w i / tot n w - 0) * tot n w ≤ w i * d
        rw [Nat.sub_zero, Nat.mul_comm (w i) d]
        exact Nat.div_mul_le_self _ _
      · rw [sum_mul, Nat.mul_comm]
        exact Nat.le_refl _
    have := Nat.le_of_mul_le_mul_right h1 tp
    omega
/-- at each time some position is ready -/
theorem some_ready (hn : 1 ≤ n) (hw : ∀ i, i < n → 1 ≤ w i) {k : Nat → Nat} {t : Nat} (h : sumN n k = t) : ∃ i, i < n ∧ rdy n w k i (t + 1) := by
  refine Classical.byContradiction fun no => ?_
  have tp := tot_pos hn hw
  have h1 : ∀ i, i < n → w i * (t + 1) ≤ k i * tot n w := fun i hi => by
    refine Nat.le_of_not_lt fun z => no ⟨i, hi, (rdy_iff (hw i hi)).mpr ?_⟩
    rw [Nat.mul_comm (t + 1)]
    exact z
  have h2 := sum_le h1
  rw [sum_mul, sum_mul, h, Nat.mul_comm] at h2
  have := Nat.le_of_mul_le_mul_right (show (t + 1) * tot n w ≤ t * tot n w from h2) tp
  omega
/-- no turn is late -/
theorem Inv.dueT {k : Nat → Nat} {t : Nat} (I : Inv n w k t) (hw : ∀ i, i < n → 1 ≤ w i) (hn : 1 ≤ n) {i : Nat} (hi : i < n) : t + 1 ≤ due n w k i := by
  refine Nat.lt_of_not_le fun z => ?_
  have tp := tot_pos hn hw
  have h1 := (due_le (hw i hi)).mp z
  have h2 : k i + 1 ≤ t * w i / tot n w := (Nat.le_div_iff_mul_le (by omega)).mpr h1
  have h3 := I.dem t (Nat.le_refl _)
  have h4 := sum_pos (f := fun i => t * w i / tot n w - k i) hi
  have h4 : t * w i / tot n w - k i ≤ _ := h4
  omega
theorem Inv.low {k : Nat → Nat} {t : Nat} (I : Inv n w k t) {i : Nat} (hi : i < n) : t * w i / tot n w ≤ k i := by
  have h3 := I.dem t (Nat.le_refl _)
  have h4 : t * w i / tot n w - k i ≤ _ := sum_pos (f := fun i => t * w i / tot n w - k i) hi
  omega
theorem Inv.step {k : Nat → Nat} {t i : Nat} (I : Inv n w k t) (hn : 1 ≤ n) (hw : ∀ i, i < n → 1 ≤ w i) (P : Pick n w k (t + 1) i) : Inv n w (bump k i) (t + 1) := by
  have tp := tot_pos hn hw
  refine ⟨by rw [sum_bump k P.lt, I.sum], fun d hd => ?_, fun j hj => ?_⟩
  · have hI := I.dem d (by omega)
    by_cases hS : ∃ j, j < n ∧ k j < d * w j / tot n w ∧ rdy n w k j (t + 1)
    · -- some turn that is due by then is ready: such a one is given
      obtain ⟨j, hj, hk, hr⟩ := hS
      have dj : due n w k j ≤ d := (due_le (hw j hj)).mpr ((Nat.le_div_iff_mul_le (by omega)).mp hk)
      have di : due n w k i ≤ d := by
        have := P.least j hj hr
        omega
      have hi : k i + 1 ≤ d * w i / tot n w := (Nat.le_div_iff_mul_le (by omega)).mpr ((due_le (hw i P.lt)).mp di)
      have := sum_less (f := fun j => d * w j / tot n w - bump k i j) (g := fun j => d * w j / tot n w - k j) P.lt (fun j _ q => by
        show _ - bump k i j ≤ _
        unfold bump
        rw [if_neg q]
        exact Nat.le_refl _) (by
        show d * w i / tot n w - bump k i i + 1 ≤ _ - k i
        unfold bump
        rw [if_pos rfl]
        omega)
      omega
    · -- none is: what is left is at most the times behind
      have h1 : ∀ j, j < n → (d * w j / tot n w - bump k i j) * tot n w ≤ w j * (d - (t + 1)) := fun j hj => by
        have hb : k j ≤ bump k i j := by unfold bump; split <;> omega
        by_cases hk : k j < d * w j / tot n w
        · have nr : ¬ rdy n w k j (t + 1) := fun z => hS ⟨j, hj, hk, z⟩
          rw [rdy_iff (hw j hj)] at nr
          have e1 : (d * w j / tot n w - bump k i j) * tot n w ≤ (d * w j / tot n w - k j) * tot n w := Nat.mul_le_mul_right _ (by omega)
          refine Nat.le_trans e1 ?_
          rw [Nat.sub_mul, Nat.mul_comm (w j), Nat.sub_mul]
          have e2 := Nat.div_mul_le_self (d * w j) (tot n w)
          omega
        · rw [show d * w j / tot n w - bump k i j = 0 by omega, Nat.zero_mul]
          exact Nat.zero_le _
      have h2 := sum_le h1
      rw [sum_mul, sum_mul, Nat.mul_comm (sumN n w)] at h2
      have := Nat.le_of_mul_le_mul_right (show _ * tot n w ≤ (d - (t + 1)) * tot n w from h2) tp
      omega
  · have hu := I.up j hj
    unfold bump
    by_cases q : j = i
    · subst q
      rw [if_pos rfl]
      have hr := (rdy_iff (hw j hj)).mp P.rd
      refine (Nat.le_div_iff_mul_le (by omega)).mpr ?_
      rw [Nat.add_mul, Nat.one_mul]
      omega
    · rw [if_neg q]
      refine Nat.le_trans hu (Nat.div_le_div_right ?_)
      have : t * w j ≤ (t + 1) * w j := Nat.mul_le_mul_right _ (by omega)
      omega
/-- after a whole round each has its weight -/
theorem Inv.round {k : Nat → Nat} (hn : 1 ≤ n) (hw : ∀ i, i < n → 1 ≤ w i) (I : Inv n w k (tot n w)) {i : Nat} (hi : i < n) : k i = w i := by
  have tp := tot_pos hn hw
  have h1 := I.low hi
  have h2 := I.up i hi
  rw [Nat.mul_comm, Nat.mul_div_cancel _ (by omega)] at h1
  have e : (tot n w * w i + tot n w - 1) / tot n w = w i := by
    rw [Nat.div_eq_iff (by omega), Nat.mul_comm]
    have : tot n w * w i + tot n w - 1 = w i * tot n w + (tot n w - 1) := by rw [Nat.mul_comm]; omega
    constructor <;> omega
  omega
/-- the turns repeat -/
theorem pick_round (hw : ∀ i, i < n → 1 ≤ w i) {k : Nat → Nat} {i m : Nat} : Pick n w k m i ↔ Pick n w (fun j => k j + w j) (m + tot n w) i := by
  have r : ∀ j, j < n → (rdy n w k j m ↔ rdy n w (fun j => k j + w j) j (m + tot n w)) := fun j hj => by
    rw [rdy_iff (hw j hj), rdy_iff (hw j hj)]
    show _ ↔ (k j + w j) * tot n w < (m + tot n w) * w j
    rw [Nat.add_mul, Nat.add_mul, Nat.mul_comm (w j)]
    omega
  have d : ∀ j, j < n → due n w (fun j => k j + w j) j = due n w k j + tot n w := fun j hj => by
    unfold due
    show ((k j + w j + 1) * tot n w + w j - 1) / w j = _
    have e : (k j + w j + 1) * tot n w + w j - 1 = (k j + 1) * tot n w + w j - 1 + tot n w * w j := by
      have : (k j + w j + 1) * tot n w = (k j + 1) * tot n w + tot n w * w j := by rw [show k j + w j + 1 = k j + 1 + w j by omega, Nat.add_mul, Nat.mul_comm (w j)]
      have := hw j hj
      omega
    rw [e, Nat.add_mul_div_right _ _ (hw j hj)]
  constructor
  · rintro ⟨a, b, c⟩
    exact ⟨a, (r i a).mp b, fun j hj hr => by rw [d i a, d j hj]; have := c j hj ((r j hj).mpr hr); omega⟩
  · rintro ⟨a, b, c⟩
    exact ⟨a, (r i a).mpr b, fun j hj hr => by have := c j hj ((r j hj).mp hr); rw [d i a, d j hj] at this; omega⟩
theorem pick_congr {k k' : Nat → Nat} {t i : Nat} (h : ∀ j, j < n → k j = k' j) (p : Pick n w k t i) : Pick n w k' t i := by
  have r : ∀ j, j < n → (rdy n w k j t ↔ rdy n w k' j t) := fun j hj => by unfold rdy; rw [h j hj]
  have d : ∀ j, j < n → due n w k j = due n w k' j := fun j hj => by unfold due; rw [h j hj]
  obtain ⟨a, b, c⟩ := p
  exact ⟨a, (r i a).mp b, fun j hj hr => by have := c j hj ((r j hj).mpr hr); rw [d i a, d j hj] at this; exact this⟩
/-- one is given the turn -/
theorem exists_pick (hn : 1 ≤ n) (hw : ∀ i, i < n → 1 ≤ w i) {k : Nat → Nat} {t : Nat} (h : sumN n k = t) : ∃ i, Pick n w k (t + 1) i := by
  have key : ∀ m i, i < n → rdy n w k i (t + 1) → due n w k i * n + i ≤ m → ∃ i, Pick n w k (t + 1) i := by
    intro m
    induction m with
    | zero =>
      intro i hi hr hm
      refine ⟨i, hi, hr, fun j hj hrj => ?_⟩
      have h0 : due n w k i * n = 0 := by omega
      have : due n w k i = 0 := by
        rcases Nat.mul_eq_zero.mp h0 with z | z
        · exact z
        · omega
      omega
    | succ m ih =>
      intro i hi hr hm
      by_cases q : ∃ j, j < n ∧ rdy n w k j (t + 1) ∧ ¬ (due n w k i < due n w k j ∨ (due n w k i = due n w k j ∧ i ≤ j))
      · obtain ⟨j, hj, hrj, hq⟩ := q
        refine ih j hj hrj ?_
        by_cases e : due n w k i = due n w k j
        · rw [← e]
          omega
        · have hlt : due n w k j + 1 ≤ due n w k i := by omega
          have := Nat.mul_le_mul_right n hlt
          rw [Nat.add_mul] at this
          omega
      · exact ⟨i, hi, hr, fun j hj hrj => Classical.byContradiction fun z => q ⟨j, hj, hrj, z⟩⟩
  obtain ⟨i, hi, hr⟩ := some_ready hn hw h
  exact key _ i hi hr (Nat.le_refl _)
variable (n w) in
/-- the counts after t turns -/
inductive Run : (Nat → Nat) → Nat → Prop where
  | zero : Run (fun _ => 0) 0
  | step {k : Nat → Nat} {t i : Nat} : Run k t → Pick n w k (t + 1) i → Run (bump k i) (t + 1)
theorem Run.inv (hn : 1 ≤ n) (hw : ∀ i, i < n → 1 ≤ w i) {k : Nat → Nat} {t : Nat} (r : Run n w k t) : Inv n w k t := by
  induction r with
  | zero => exact start hn hw
  | step _ p ih => exact ih.step hn hw p
theorem Run.uniq {k : Nat → Nat} {t : Nat} (r : Run n w k t) : ∀ {k' : Nat → Nat}, Run n w k' t → k = k' := by
  induction r with
  | zero => intro k' r'; cases r'; rfl
  | step _ p ih =>
    intro k' r'
    cases r' with
    | step r2 p2 =>
      have e := ih r2
      subst e
      rw [p.uniq n w p2]
theorem Run.ex (hn : 1 ≤ n) (hw : ∀ i, i < n → 1 ≤ w i) : ∀ t, ∃ k, Run n w k t
  | 0 => ⟨_, .zero⟩
  | t + 1 => by
    obtain ⟨k, r⟩ := Run.ex hn hw t
    obtain ⟨i, p⟩ := exists_pick hn hw (r.inv hn hw).sum
    exact ⟨_, r.step p⟩
theorem Run.out {k : Nat → Nat} {t : Nat} (r : Run n w k t) {j : Nat} (hj : n ≤ j) : k j = 0 := by
  induction r with
  | zero => rfl
  | step _ p ih =>
    unfold bump
    have := p.lt
    rw [if_neg (by omega)]
    exact ih
/-- a round more -/
def shift (n : Nat) (w k : Nat → Nat) : Nat → Nat := fun j => k j + if j < n then w j else 0
theorem Run.shift (hn : 1 ≤ n) (hw : ∀ i, i < n → 1 ≤ w i) {k : Nat → Nat} {t : Nat} (r : Run n w k t) : Run n w (Fair.shift n w k) (t + tot n w) := by
  induction r with
  | zero =>
    obtain ⟨k, r⟩ := Run.ex hn hw (tot n w)
    have e : k = Fair.shift n w (fun _ => 0) := by
      funext j
      unfold Fair.shift
      by_cases hj : j < n
      · rw [if_pos hj, (r.inv hn hw).round hn hw hj, Nat.zero_add]
      · rw [if_neg hj, r.out (by omega)]
    rw [Nat.zero_add, ← e]
    exact r
  | @step k t i r p ih =>
    have p2 := (pick_round hw (k := k) (m := t + 1) (i := i)).mp p
    have p3 : Pick n w (Fair.shift n w k) (t + tot n w + 1) i := by
      rw [show t + tot n w + 1 = t + 1 + tot n w by omega]
      refine pick_congr (fun j hj => ?_) p2
      unfold Fair.shift
      rw [if_pos hj]
    have e : Fair.shift n w (bump k i) = bump (Fair.shift n w k) i := by
      funext j
      unfold Fair.shift bump
      dsimp only
      split <;> split <;> omega
    rw [e, show t + 1 + tot n w = t + tot n w + 1 by omega]
    exact ih.step p3
/-- at any time: the whole rounds, and the counts of the last one -/
theorem Run.rounds (hn : 1 ≤ n) (hw : ∀ i, i < n → 1 ≤ w i) {k : Nat → Nat} {t : Nat} (r : Run n w k t) : ∀ q, Run n w (fun j => k j + if j < n then q * w j else 0) (t + q * tot n w)
  | 0 => by
    have e : (fun j => k j + if j < n then 0 * w j else 0) = k := by
      funext j
      split <;> omega
    rw [e, Nat.zero_mul, Nat.add_zero]
    exact r
  | q + 1 => by
    have := (Run.rounds hn hw r q).shift hn hw
    have e : Fair.shift n w (fun j => k j + if j < n then q * w j else 0) = fun j => k j + if j < n then (q + 1) * w j else 0 := by
      funext j
      unfold Fair.shift
      dsimp only
      split
      · rw [Nat.add_mul, Nat.one_mul]
        omega
      · omega
    rw [e] at this
    rw [Nat.add_mul, Nat.one_mul, ← Nat.add_assoc]
    exact this
end
end Fair

end
/-! ## SetS -/
section
set_option linter.all false
set_option maxRecDepth 100000
namespace Ag
open PySem PySem.Spec PyProof.Rows L2
/-! ### set(xs) of a list of unlike texts, its length -/
section
variable {P : Program} {w : World} {A : Around}
/-- the first i of the texts are in the set -/
abbrev InS (P : Program) (w : World) (h : Heap) (S : Addr) (ks : List Str) (i : Nat) : Prop := h.SetOf (strKind P w) S (fun k => decide (k ∈ ks.take i)) i
theorem InS.at_ {h h' : Heap} {S : Addr} {ks : List Str} {i : Nat} (q : InS P w h S ks i) (k : ∀ o, h.get? S = some o → h'.get? S = some o) : InS P w h' S ks i := by
  obtain ⟨o, es, ep, tb, ho, r⟩ := q
  exact ⟨o, es, ep, tb, k o ho, r⟩
theorem fill {I S : Addr} {fp wr : List Addr} {G : Array GenState → Array GenState → Prop} {n : Nat} {Pv : Nat → Value → Prop} {St : Nat → Shared → Prop} {R : Result → Shared → Prop} {ks : List Str}
    (W : WalksS P w A.in1 I fp wr G n Pv St) (nS : S ∉ fp) (hn : ks.length = n) (hb : n + 1 < scanBound) (nd : ks.Nodup) (hv : ∀ i v, Pv i v → ∃ k t, ks[i]? = some k ∧ v = .str k t) (m : Nat) :
    ∀ (i : Nat) (s : Shared), i + m = n → St i s → InS P w s.heap S ks i → (∀ s', Moved (S :: wr) G s s' → InS P w s'.heap S ks n → R (.ok (.ret .none)) s') → codeAny (model P w) A (.builtin "set.update.loop" ⟨[.ref S, .ref I], []⟩) R s := by
  have nW : S ∉ wr := fun z => nS (W.sub _ z)
  have more : ∀ b ∈ wr, b ∈ S :: wr := fun b z => List.mem_cons_of_mem _ z
  induction m with
  | zero =>
    rintro i s rfl st q fin
    refine codeAny_builtin F.entry_set_update_loop (by
      rw [Around.under_plainId F.plain_set_update_loop _]
      exact show wpAny _ A.in1 (pyNext (.ref I) >>= _) _ _ s from wpAny_bind (W.done s _ _ st fun s' mv => show wpAny _ A.in1 (ret Value.none) _ _ s' from wpAny_pure (fin s' (mv.mono more) (q.at_ fun o e => mv.heap S o nW e))))
  | succ m ih =>
    rintro i s hi st q fin
    have lt : i < n := by omega
    refine codeAny_builtin F.entry_set_update_loop ?_
    rw [Around.under_plainId F.plain_set_update_loop _]
    refine show wpAny _ A.in1 (pyNext (.ref I) >>= _) _ _ s from wpAny_bind (W.item i s _ _ lt st fun v s1 pv st1 mv => ?_)
    obtain ⟨k, t, hk, rfl⟩ := hv i v pv
    have new : k ∉ ks.take i := by
      intro z
      obtain ⟨j, hj, e⟩ := List.mem_iff_getElem.mp z
      rw [List.length_take] at hj
      rw [List.getElem_take] at e
      have e2 : ks[j]? = ks[i]? := by rw [hk, List.getElem?_eq_getElem (by omega), e]
      have := (List.getElem?_inj (by omega) nd).mp e2
      omega
    have q1 := q.at_ fun o e => mv.heap S o nW e
    refine show wpAny _ A.in1 (holding [Value.str k t] (setAdd S (.str k t)) >>= _) _ _ s1 from wpAny_bind (wpAny_holding ?_)
    unfold setAdd
    refine wpAny_holding (wpAny_bind ((strKind P w).pyHash (k := k) (strKind_is _ _ _ _) (wpAny_setAddHashed_of (knd := strKind P w) (s := { s1 with toks := s1.toks + 1 }) (strKind_is _ _ _ _) rfl q1 (by omega) fun h' but q2 => ?_)))
    rw [show decide (k ∈ ks.take i) = false from decide_eq_false new] at q2
    have q3 : InS P w h' S ks (i + 1) := SetOf_congr q2 (fun j => by
      rw [List.take_add_one, hk]
      simp [List.mem_append]) rfl
    have out : ∀ b o, b ≠ S → s1.heap.get? b = some o → h'.get? b = some o := fun b o z e => (but.2 b z).trans e
    refine wpAny_pure ⟨plainId_quiet F.plain_set_update_loop _, ih (i + 1) _ (by omega) (W.frame _ s1 _ _ st1 (Nat.le_succ _) fun b z o e => out b o (fun y => nS (y ▸ z)) e) q3 fun s2 mv2 q4 => ?_⟩
    exact fin s2 (Moved.trans W.gtrans ((mv.mono more).then_heap (Nat.le_succ _) fun b o z e => out b o (fun y => z (y ▸ List.mem_cons_self)) e) mv2) q4
end
theorem txt_at : ∀ {vs : List Value} {ks : List Str}, StrsAre vs ks → ∀ (i : Nat) (v : Value), vs[i]? = some v → ∃ k t, ks[i]? = some k ∧ v = .str k t
  | _, _, .nil, i, v, e => by simp at e
  | _, _, .cons x t r, 0, v, e => ⟨x, t, rfl, (Option.some.inj e).symm⟩
  | _, _, .cons x t r, i + 1, v, e => txt_at r i v e
section
variable {P : Program} {w : World} {A : Around} {E : Value → Shared → Prop} {s : Shared}
/-- a set's object as it is made -/
abbrev nilSet (w : World) : Obj := { cls := .type "set", dict := none, data := .set #[] 0 (.fresh 0 0 (!w.params.followText "set-order")) }
set_option maxHeartbeats 3200000 in
theorem set_txt {l : Addr} {its : Array Value} (ks : List Str) {Q : Value → Shared → Prop} (hh : A.handled = none) (hl : s.heap.IsList l its) (hit : StrsAre its.toList ks) (hb : ks.length + 1 < scanBound) (nd : ks.Nodup)
    (fin : ∀ (h' : Heap) (tk : Nat), InS P w h' s.heap.objs.size ks ks.length → (∀ b o, s.heap.get? b = some o → h'.get? b = some o) → Q (.ref s.heap.objs.size) { s with heap := h', toks := tk }) :
    wpAny (model P w) A (call (.type "set") [.ref l]) Q E s := by
  have esz : its.size = ks.length := by
    have q := StrsAre.len_eq hit
    rwa [Array.length_toList] at q
  obtain ⟨cc, tl, m0⟩ := F.called_set.mro
  have m1 := F.called_set.made
  have m2 := F.called_set.sub
  refine wpAny_call (codeAny_of_tree (show wpAny _ _ (callAny (.type "set") _) _ _ _ from wpAny_pure ⟨Code.quiet_builtin _ (by decide +kernel), codeAny_builtin F.entry_type_call ?_⟩))
  rw [Around.under_plain (weight_type_call_type "set" [.ref l] []) rfl]
  have m3 := F.called_set.notType
  have m4 := F.called_set.canCreate
  have m5 := F.typeCall_set_1 (.ref l)
  repeat (any_goals (first | assumption | wp_step))
  refine codeAny_mono (code_set_led1 (.ref l) (E := E) (Q₁ := fun ob s1 => ob = .ref s.heap.objs.size ∧ s1 = { s with heap := s.heap.push (nilSet w) }) ⟨rfl, rfl⟩) fun r s1 hr => ?_
  match r, hr with
  | .error e, hr => exact hr
  | .ok .next, hr => exact hr.elim
  | .ok .brk, hr => exact hr.elim
  | .ok .cont, hr => exact hr.elim
  | .ok (.ret ob), hr =>
    obtain ⟨rfl, rfl⟩ := hr
    have g1 : (s.heap.push (nilSet w)).get? s.heap.objs.size = some (nilSet w) := Heap.get?_push_size _ rfl
    have g2 : Shared.TypeIs { s with heap := s.heap.push (nilSet w) } (.ref s.heap.objs.size) "set" := ⟨_, g1, rfl⟩
    have m6 := F.called_set.init.lookup
    have m7 := F.called_set.init.bind (.ref s.heap.objs.size)
    repeat (any_goals (first | assumption | wp_step))
    refine codeAny_mono (codeAny_call_builtin (R := wants (fun r s2 => r = .none ∧ ∃ h' tk, s2 = { s with heap := h', toks := tk } ∧ InS P w h' s.heap.objs.size ks ks.length ∧
        (∀ b o, s.heap.get? b = some o → h'.get? b = some o)) E) F.called_set.init.plain F.entry_set_init (check_set_init_1 g2 ?_)) fun r2 s2 hr2 => ?_
    · obtain ⟨ol, e1, e2, nl, e3⟩ := hl
      obtain ⟨k1, k2, k3, k4⟩ := ol
      simp only at e2 e3
      subst e2 e3
      have g3 : (s.heap.push (nilSet w)).get? l = some { cls := .type "list", dict := k2, data := .seq its nl, slots := k4 } := Heap.get?_push_of_some _ e1
      have m8 := F.sub_list_set
      have m9 := F.sub_list_frozenset
      have ma : (Value.type "list" == Value.type "dict") = false := by decide
      have hl1 : (s.heap.push (nilSet w)).IsList l its := ⟨_, g3, rfl, nl, rfl⟩
      unfold Builtin.«set.__init__» noKeywords Builtin.Frozenset.updateFrom
      generalize hPI : pyIter = PI
      wp_walk
      subst hPI
      refine wpAny_pyIter_list hl1 (wpAny_bind (wpAny_runValue ?_))
      have lt := Heap.lt_size e1
      have hh3 : A.in1.in1.in1.handled = none := by simp [hh]
      have nI : l ≠ (s.heap.push (nilSet w)).objs.size := by
        rw [Heap.size_push]
        exact Nat.ne_of_lt (Nat.lt_succ_of_lt lt)
      have nS : s.heap.objs.size ∉ [(s.heap.push (nilSet w)).objs.size, l] := by
        rw [Heap.size_push]
        intro z
        rcases List.mem_cons.mp z with z | z
        · exact Nat.ne_of_lt (Nat.lt_succ_self _) z
        · exact Nat.ne_of_gt lt (List.mem_singleton.mp z)
      have vals : ∀ (i : Nat) (v : Value), its[i]? = some v → ∃ k t, ks[i]? = some k ∧ v = .str k t := fun i v hv => txt_at hit i v (by rw [Array.getElem?_toList]; exact hv)
      refine fill ((Walks.list hh3 _ l nI its).toS) nS esz.symm (by omega) nd vals its.size 0 _ (by omega) ⟨⟨_, Heap.get?_push_size _ rfl, rfl, rfl⟩, (hl1.push _)⟩ ?_ ?_
      · exact SetOf_congr ((setObjOf_fresh (knd := strKind P w) _).setOf (Heap.get?_push_of_some _ g1) (by unfold scanBound; omega)) (fun _ => rfl) rfl
      · intro s' hm hS'
        obtain ⟨h', q1, q2, tk', q3⟩ := s'
        obtain rfl : q1 = s.gens := hm.gens
        obtain rfl : q2 = s.drawn := hm.drawn
        obtain rfl : q3 = s.os := hm.os
        rw [esz] at hS'
        refine show wpAny _ _ _ _ _ _ from wpAny_pure (show wpAny _ _ (ret Value.none) _ _ _ from wpAny_pure ⟨rfl, h', tk', rfl, hS', fun b o e => ?_⟩)
        have b0 : b < s.heap.objs.size := Heap.lt_size e
        refine hm.heap b o ?_ (Heap.get?_push_of_some _ (Heap.get?_push_of_some _ e))
        rw [Heap.size_push]
        intro z
        rcases List.mem_cons.mp z with z | z
        · exact Nat.ne_of_lt b0 z
        · exact Nat.ne_of_lt (Nat.lt_succ_of_lt b0) (List.mem_singleton.mp z)
    · match r2, hr2 with
      | .error e, hr2 => exact hr2
      | .ok .next, hr2 => exact hr2.elim
      | .ok .brk, hr2 => exact hr2.elim
      | .ok .cont, hr2 => exact hr2.elim
      | .ok (.ret r), hr2 =>
        obtain ⟨rfl, h', tk, rfl, a1, a3⟩ := hr2
        repeat (any_goals (first | assumption | wp_step))
        exact fin _ _ a1 a3
end
end Ag

end
/-! ## SetS2 -/
section
set_option linter.all false
set_option maxRecDepth 100000
namespace Ag
open PySem PySem.Spec PyProof.Rows L2
section
variable {P : Program} {w : World}
/-- a set of unlike texts -/
def SetSO (P : Program) (w : World) (a : Addr) (ks : List Str) : HO := .ext fun h => InS P w h a ks ks.length
theorem setSO_new {H : Hp} {h : Heap} {a : Addr} {ks : List Str} (R : InS P w h a ks ks.length) : ObjOk P w H h a (SetSO P w a ks) := by
  have ⟨o, _, _, _, ho, _⟩ := R
  exact ⟨R, ⟨o, ho⟩, fun h1 h2 p k => InS.at_ p k⟩
section
variable {X : Cx}
def rSetS (K : PySem.W.Frag) (P : Program) (w : World) : List V → Hp → VK → Prop := fun xs H Q => ∃ (l : Addr) (ks : List Str), xs = [.ref l] ∧ SqL K H l (ks.map V.str) ∧ ks.length ≤ 1000 ∧ ks.Nodup ∧
  ∀ a, H a = none → Q (.ref a) (upd H a (SetSO P w a ks))
theorem cr_setS (hc : X.calm = true) : CallR X (.type "set") (rSetS X.K X.prog X.w) := by
  intro pins s σ H xs us Q I r h
  obtain ⟨l, ks, rfl, hs, hz, nd, q⟩ := h
  rw [Vals.ref1 r]
  obtain ⟨its, rv, pl, _⟩ := I.list hs
  refine set_txt ks (I.ok.hd hc) pl.isList (by simpa using Vals.strs rv) (by unfold scanBound; omega) nd fun h' tk R kp => ?_
  exact ⟨.ref _, _, I.laid (t' := tk) kp (Nat.le_refl _) (setSO_new R), rfl, q _ (I.hok.fresh (Nat.le_refl _))⟩
def rLenSetS (P : Program) (w : World) : List V → Hp → VK → Prop := fun xs H Q => ∃ (a : Addr) (ks : List Str), xs = [.ref a] ∧ H a = some (SetSO P w a ks) ∧ ks.length ≤ 1000 ∧ Q (.int (ks.length : Nat)) H
theorem cr_lenSetS : CallR X (.builtin "len") (rLenSetS X.prog X.w) := by
  intro pins s σ H xs us Q I r h
  obtain ⟨a, ks, rfl, ha, hn, q⟩ := h
  rw [Vals.ref1 r]
  obtain ⟨o, es, ep, t, ho, hex, hd, _, _, _, hf, he⟩ := (I.hok a _ ha).1
  exact call_len_set ho hex hd hf (by rw [he]; omega) ⟨.int ks.length, H, I.tok _, ⟨_, by rw [he]⟩, q⟩
end
end
end Ag

end
/-! ## T1 -/
section
set_option linter.all false
set_option maxRecDepth 100000
namespace Ag
open PySem PySem.Spec PyProof.Rows L2
open SX (S S_len S_cat S_inj)
theorem sz {n : Nat} (h : n ≤ 16000000) : n ≤ sizeLine := by rw [sizeLine_eq]; omega
theorem same_new {H : Hp} {p : Addr} {o : HO} (h : H p = none) : Same H (upd H p o) := fun b x e => by
  rw [upd_ne (ne_of_none e h)]
  exact e
theorem ascii_S (l : List Nat) : Txt.isascii (S l) = l.all (· < 128) := by
  show (S l).cps.all _ = _
  rw [← Array.all_toList]
theorem printable_S (l : List Nat) : Txt.isprintable (S l) = l.all Unicode.isPrintable := by
  show (S l).cps.all _ = _
  rw [← Array.all_toList]
def azC (c : Nat) : Bool := decide (97 ≤ c) && decide (c ≤ 122)
def wordL (l : List Nat) : Bool := (decide (1 ≤ l.length) && decide (l.length ≤ 10)) && l.all azC
theorem alpha128 : ∀ c < 128, Unicode.isAlpha c = ((decide (65 ≤ c) && decide (c ≤ 90)) || azC c) := by decide +kernel
theorem lower128 : ∀ c < 128, Unicode.isLower c = azC c := by decide +kernel
theorem upper128 : ∀ c < 128, (Unicode.isUpper c || Unicode.isTitle c) = (decide (65 ≤ c) && decide (c ≤ 90)) := by decide +kernel
theorem word_of {l : List Nat} (ha : l.all (· < 128) = true) (hne : l ≠ []) : (Txt.isalpha (S l) && Txt.islower (S l)) = l.all azC := by
  have e1 : Txt.isalpha (S l) = l.all Unicode.isAlpha := by
    show (decide ((S l).length > 0) && (S l).cps.all _) = _
    rw [← Array.all_toList, S_len, decide_eq_true (by cases l; exact absurd rfl hne; simp), Bool.true_and]
  have e2 : Txt.islower (S l) = (l.any Unicode.isLower && !l.any fun c => Unicode.isUpper c || Unicode.isTitle c) := by
    show ((S l).cps.any _ && !(S l).cps.any _) = _
    rw [← Array.any_toList, ← Array.any_toList]
  have lt : ∀ c ∈ l, c < 128 := fun c hc => by simpa using List.all_eq_true.mp ha c hc
  rw [e1, e2, Bool.eq_iff_iff]
  simp only [Bool.and_eq_true, List.all_eq_true, List.any_eq_true, Bool.not_eq_true', List.any_eq_false]
  constructor
  · rintro ⟨h1, _, h3⟩ c hc
    have a1 := h1 c hc
    have a3 := h3 c hc
    rw [upper128 c (lt c hc)] at a3
    rw [alpha128 c (lt c hc), Bool.or_eq_true] at a1
    rcases a1 with a1 | a1
    · rw [a1] at a3
      exact absurd rfl a3
    · exact a1
  · intro h
    refine ⟨fun c hc => ?_, ?_, fun c hc => ?_⟩
    · rw [alpha128 c (lt c hc), h c hc, Bool.or_true]
    · cases l with
      | nil => exact absurd rfl hne
      | cons c l => exact ⟨c, List.mem_cons_self, by rw [lower128 c (lt c List.mem_cons_self)]; exact h c List.mem_cons_self⟩
    · rw [upper128 c (lt c hc)]
      have := h c hc
      simp only [azC, Bool.and_eq_true, decide_eq_true_eq] at this
      simp
      omega
theorem bl_t {p : Prop} [Decidable p] (h : p) {Q : VK} {H : Hp} (q : Q (.bl true) H) : Q (.bl (decide p)) H := by rw [decide_eq_true h]; exact q
theorem iteB {b : Bool} (h : b = true) {p q : Prop} (hp : p) : if b = true then p else q := by rw [if_pos h]; exact hp
theorem iteC {b : Bool} (h : b = false) {p q : Prop} (hq : q) : if b = true then p else q := by rw [if_neg (by rw [h]; decide)]; exact hq
theorem map_at {α β : Type} (l : List α) (F : Option α → β) : (List.range l.length).map (fun i => F l[i]?) = l.map fun e => F (some e) := by
  refine List.ext_getElem? fun i => ?_
  rw [List.getElem?_map, List.getElem?_map]
  by_cases h : i < l.length
  · rw [List.getElem?_range h, List.getElem?_eq_getElem h]
    simp [h]
  · rw [List.getElem?_eq_none (by simpa using h), List.getElem?_eq_none (by omega)]
    rfl
/-! ### pools -/
def PlI (H : Hp) (ts : List Addr) (ps : List (List Nat × Nat)) : Prop := ts.length = ps.length ∧ ∀ (j : Nat) (t : Addr), ts[j]? = some t → ∃ e : List Nat × Nat, ps[j]? = some e ∧ H t = some (.tup [.str (S e.1), .int (e.2 : Nat)])
structure PlOk (ps : List (List Nat × Nat)) : Prop where
  n1 : 1 ≤ ps.length
  n8 : ps.length ≤ 8
  wd : ∀ e ∈ ps, wordL e.1 = true
  wt : ∀ e ∈ ps, 1 ≤ e.2 ∧ e.2 ≤ 100
  nd : (ps.map Prod.fst).Nodup
structure Pool (a : Addr) (ts : List Addr) (ps : List (List Nat × Nat)) (H : Hp) : Prop where
  at_ : H a = some (.tup (ts.map V.ref))
  it : PlI H ts ps
  ok : PlOk ps
theorem PlI.to {H H' : Hp} {ts : List Addr} {ps : List (List Nat × Nat)} (h : PlI H ts ps) (s : Same H H') : PlI H' ts ps := ⟨h.1, fun j t e => by
  obtain ⟨x, h1, h2⟩ := h.2 j t e
  exact ⟨x, h1, s _ _ h2⟩⟩
theorem Pool.to {a : Addr} {ts : List Addr} {ps : List (List Nat × Nat)} {H H' : Hp} (p : Pool a ts ps H) (s : Same H H') : Pool a ts ps H' := ⟨s _ _ p.at_, p.it.to s, p.ok⟩
theorem PlI.get {H : Hp} {ts : List Addr} {ps : List (List Nat × Nat)} (h : PlI H ts ps) {j : Nat} {y : V} (hy : (ts.map V.ref)[j]? = some y) : ∃ t e, y = .ref t ∧ ts[j]? = some t ∧ ps[j]? = some e ∧ H t = some (.tup [.str (S e.1), .int (e.2 : Nat)]) := by
  rw [List.getElem?_map] at hy
  cases e : ts[j]? with
  | none => rw [e] at hy; cases hy
  | some t =>
    rw [e] at hy
    obtain ⟨x, h1, h2⟩ := h.2 j t e
    exact ⟨t, x, (Option.some.inj hy).symm, rfl, h1, h2⟩
/-- the weights by place -/
def wF (ps : List (List Nat × Nat)) (i : Nat) : Nat := ((ps[i]?).map Prod.snd).getD 0
theorem wF_at {ps : List (List Nat × Nat)} {i : Nat} {e : List Nat × Nat} (h : ps[i]? = some e) : wF ps i = e.2 := by
  unfold wF
  rw [h]
  rfl
theorem PlOk.w1 {ps : List (List Nat × Nat)} (o : PlOk ps) : ∀ i, i < ps.length → 1 ≤ wF ps i := fun i hi => by
  rw [wF_at (List.getElem?_eq_getElem hi)]
  exact (o.wt _ (List.getElem_mem hi)).1
theorem PlOk.w9 {ps : List (List Nat × Nat)} (o : PlOk ps) : ∀ i, i < ps.length → wF ps i ≤ 100 := fun i hi => by
  rw [wF_at (List.getElem?_eq_getElem hi)]
  exact (o.wt _ (List.getElem_mem hi)).2
/-- all weights together -/
def tW (ps : List (List Nat × Nat)) : Nat := Fair.tot ps.length (wF ps)
theorem sum_range (f : Nat → Nat) : ∀ n, ((List.range n).map fun i => ((f i : Nat) : Int)).sum = ((Fair.sumN n f : Nat) : Int)
  | 0 => rfl
  | n + 1 => by
    rw [List.range_succ, List.map_append, List.sum_append, sum_range f n]
    show _ + List.sum [((f n : Nat) : Int)] = ((Fair.sumN n f + f n : Nat) : Int)
    simp
theorem tW_pos {ps : List (List Nat × Nat)} (o : PlOk ps) : 1 ≤ tW ps := Fair.tot_pos o.n1 o.w1
theorem tW_le {ps : List (List Nat × Nat)} (o : PlOk ps) : tW ps ≤ 800 := by
  have h : Fair.sumN ps.length (wF ps) ≤ Fair.sumN ps.length (fun _ => 100) := Fair.sum_le o.w9
  have e : ∀ n, Fair.sumN n (fun _ => 100) = n * 100 := by
    intro n
    induction n with
    | zero => rfl
    | succ n ih =>
      show Fair.sumN n (fun _ => 100) + 100 = _
      rw [ih]
      omega
  rw [e] at h
  have := o.n8
  unfold tW Fair.tot
  omega
section
variable {P : Program} {w : World} {K : PySem.W.Frag} {mg : Str → Option Value} {base : Heap} {tw tp tg : Tok}
def spInteger : Sp := fun vs H Q _ => ∃ i : Int, vs = [.int i] ∧ Q (.bl true) H
theorem ok_is_integer {f : Addr} {fd : FuncData} (F : Fn K mg "is_integer" s_is_integer ["thing"] f fd) (B : Blt mg) : FnOk P w K mg base CX0 1 f fd ["thing"] spInteger := by
  refine F.F.ok sc_is_integer (fun vs H Q E h => ?_) (fun cdv A outer s H vs Q E hr h => ?_)
  · obtain ⟨x, rfl, _⟩ := h
    rfl
  · obtain ⟨x, rfl, q⟩ := h
    refine ⟨_, (pss_one (ps_ret (pe_and (pe_callB call_isi (by rfl) B.n_isinstance (by decide +kernel) (pa_cons (pv 0) (pa_cons (pe_bltn (v := .ty "int") (by rfl) B.n_int (by decide +kernel) rfl) pa_nil))) (pe_one (pe_not (pe_callB call_isi (by rfl) B.n_isinstance (by decide +kernel) (pa_cons (pv 0) (pa_cons (pe_bltn (v := .ty "bool") (by rfl) B.n_bool (by decide +kernel) rfl) pa_nil)))))))), ?_⟩
    refine ⟨.int x, rfl, .int x, .ty "int", _, _, true, rfl, .ty "int", .base (.int _), kit_ty (by decide +kernel), _, rfl, iteT ?_⟩
    exact ⟨.int x, rfl, .int x, .ty "bool", _, _, false, rfl, .ty "bool", .base (.int _), kit_ty (by decide +kernel), _, rfl, q⟩
def spWord : Sp := fun vs H Q _ => ∃ l : List Nat, vs = [.str (S l)] ∧ wordL l = true ∧ Q (.bl true) H
theorem ok_is_word {f : Addr} {fd : FuncData} (F : Fn K mg "is_word" s_is_word ["thing"] f fd) (B : Con mg tw tp tg) : FnOk P w K mg base CX0 1 f fd ["thing"] spWord := by
  refine F.F.ok sc_is_word (fun vs H Q E h => ?_) (fun cdv A outer s H vs Q E hr h => ?_)
  · obtain ⟨l, rfl, _⟩ := h
    rfl
  · obtain ⟨l, rfl, hw, q⟩ := h
    refine ⟨_, (pss_cons (ps_if (PW.pt (pw_or (pt_not (pt_val (pe_callB call_isi (by rfl) B.n_isinstance (by decide +kernel) (pa_cons (pv 0) (pa_cons (pe_bltn (v := .ty "str") (by rfl) B.n_str (by decide +kernel) rfl) pa_nil))))) (pw_or1 (pt_not (pt_chain op_le op_le pe_int (pe_callB call_len_str (by rfl) B.n_len PySem.boot_len (pa_cons (pv 0) pa_nil)) (pe_glob (v := .int 10) rfl B.g_WORD_MOST ⟨_, rfl⟩))))))
      (pss_one (ps_ret pe_bl))
      pss_nil)
      (pss_one (ps_ret (pe_and (pe_m0 PySem.F.slot_str_isascii PySem.F.type_str_isascii mt_isascii (pv 0)) (pe_and (pe_m0 PySem.F.slot_str_isalpha PySem.F.type_str_isalpha mt_isalpha (pv 0)) (pe_one (pe_m0 PySem.F.slot_str_islower PySem.F.type_str_islower mt_islower (pv 0)))))))), ?_⟩
    have hw' := hw
    unfold wordL at hw'
    rw [Bool.and_eq_true, Bool.and_eq_true, decide_eq_true_eq, decide_eq_true_eq] at hw'
    obtain ⟨⟨l1, l10⟩, haz⟩ := hw'
    refine ⟨_, rfl, .str (S l), .ty "str", _, _, true, rfl, .ty "str", .base (.str _), kit_ty (by decide +kernel), _, rfl, iteF ?_⟩
    refine ⟨_, rfl, S l, rfl, sz (by rw [S_len]; omega), _, _, rfl, rfl, _, rfl, ?_⟩
    rw [S_len, decide_eq_true (by omega : (1 : Int) ≤ (l.length : Int))]
    refine iteT ⟨_, _, rfl, rfl, _, rfl, ?_⟩
    have hne : l ≠ [] := by
      rintro rfl
      exact absurd l1 (by decide)
    have has : l.all (· < 128) = true := by
      rw [List.all_eq_true] at haz ⊢
      intro c hc
      have := haz c hc
      simp only [azC, Bool.and_eq_true, decide_eq_true_eq] at this ⊢
      omega
    have wo := word_of has hne
    rw [haz, Bool.and_eq_true] at wo
    have l10' : ((l.length : Nat) : Int) ≤ 10 := by omega
    refine (show (if (!decide (((l.length : Nat) : Int) ≤ 10)) = true then _ else _) from ?_)
    rw [decide_eq_true l10']
    refine iteF ?_
    refine ⟨.str (S l), rfl, ⟨_, rfl⟩, S l, rfl, rfl, trivial, _, rfl, ?_⟩
    rw [ascii_S, has]
    refine iteT ⟨.str (S l), rfl, ⟨_, rfl⟩, S l, rfl, rfl, trivial, _, rfl, ?_⟩
    refine iteB wo.1 ⟨.str (S l), rfl, ⟨_, rfl⟩, S l, rfl, rfl, trivial, ?_⟩
    rw [wo.2]
    exact q
def spShare : Sp := fun vs H Q _ => ∃ t l, ∃ w : Nat, vs = [.ref t] ∧ H t = some (.tup [.str (S l), .int w]) ∧ wordL l = true ∧ 1 ≤ w ∧ w ≤ 100 ∧ Q (.bl true) H
theorem ok_is_share {f f1 f2 : Addr} {fd fd1 fd2 : FuncData} (F : Fn K mg "is_share" s_is_share ["thing"] f fd) (B : Con mg tw tp tg) (F_is_word : Fn K mg "is_word" s_is_word ["thing"] f1 fd1) (F_is_integer : Fn K mg "is_integer" s_is_integer ["thing"] f2 fd2) : FnOk P w K mg base CX0 2 f fd ["thing"] spShare := by
  have G_is_word : FnOk P w K mg base CX0 1 f1 fd1 ["thing"] spWord := ok_is_word F_is_word B
  have G_is_integer : FnOk P w K mg base CX0 1 f2 fd2 ["thing"] spInteger := ok_is_integer F_is_integer B.toBlt
  refine F.F.ok sc_is_share (fun vs H Q E h => ?_) (fun cdv A outer s H vs Q E hr h => ?_)
  · obtain ⟨t, l, w, rfl, _⟩ := h
    rfl
  · obtain ⟨t, l, w, rfl, ht, hw, w1, w9, q⟩ := h
    refine ⟨_, (pss_cons (ps_if (PW.pt (pw_or (pt_not (pt_val (pe_callB call_isi (by rfl) B.n_isinstance (by decide +kernel) (pa_cons (pv 0) (pa_cons (pe_bltn (v := .ty "tuple") (by rfl) B.n_tuple (by decide +kernel) rfl) pa_nil))))) (pw_or1 (pt_cmpR op_ne (pe_callB call_len_seq (by rfl) B.n_len PySem.boot_len (pa_cons (pv 0) pa_nil)) pe_int (nomark _)))))
      (pss_one (ps_ret pe_bl))
      pss_nil)
      (pss_cons (ps_asg (pv 0) (pg_tup rfl (pgs_cons (pg_name (i := 1) sc_is_share.nd rfl (Or.inl rfl)) (pgs_cons (pg_name (i := 2) sc_is_share.nd rfl (Or.inl rfl)) pgs_nil))))
      (pss_one (ps_ret (pe_and (pe_call G_is_word (hr.mono (by decide)) (by rfl) F_is_word.g F_is_word.F.kp F_is_word.b .nil pass0 (pa_cons (pv 1) pa_nil)) (pe_and (pe_call G_is_integer (hr.mono (by decide)) (by rfl) F_is_integer.g F_is_integer.F.kp F_is_integer.b .nil pass0 (pa_cons (pv 2) pa_nil)) (pe_one (pe_chain op_le op_le pe_int (pv 2) (pe_glob (v := .int 100) rfl B.g_WEIGHT_MOST ⟨_, rfl⟩))))))))), ?_⟩
    refine ⟨_, rfl, .ref t, .ty "tuple", _, _, true, rfl, .ty "tuple", .base (.tup ht), kit_ty (by decide +kernel), _, rfl, iteF ?_⟩
    refine ⟨_, rfl, t, _, rfl, .inr (SqT.of ht), rfl, _, rfl, iteF ?_⟩
    refine ⟨_, rfl, t, _, rfl, SqT.of ht, rfl, _, _, rfl, _, _, rfl, rfl, ?_⟩
    refine ⟨_, rfl, l, rfl, hw, _, rfl, iteT ⟨_, rfl, w, rfl, _, rfl, iteT ⟨_, rfl, _, _, rfl, rfl, _, rfl, ?_⟩⟩⟩
    rw [decide_eq_true (by omega : (1 : Int) ≤ w)]
    exact iteT ⟨_, _, rfl, rfl, bl_t (by omega) q⟩
def spPool : Sp := fun vs H Q _ => ∃ a ts ps, vs = [.ref a] ∧ Pool a ts ps H ∧ ∀ H', Same H H' → Q (.bl true) H'
theorem ok_is_pool {f f1 : Addr} {fd fd1 : FuncData} (F : Fn K mg "is_pool" s_is_pool ["thing"] f fd) (B : Con mg tw tp tg) (F_is_share : Fn K mg "is_share" s_is_share ["thing"] f1 fd1) (G_is_share : FnOk P w K mg base CX0 2 f1 fd1 ["thing"] spShare) : FnOk P w K mg base CX0 3 f fd ["thing"] spPool := by
  refine F.F.ok sc_is_pool (fun vs H Q E h => ?_) (fun cdv A outer s H vs Q E hr h => ?_)
  · obtain ⟨a, ts, ps, rfl, _⟩ := h
    rfl
  · obtain ⟨a, ts, ps, rfl, p, q⟩ := h
    refine ⟨_, (pss_cons (ps_if (PW.pt (pw_or (pt_not (pt_val (pe_callB call_isi (by rfl) B.n_isinstance (by decide +kernel) (pa_cons (pv 0) (pa_cons (pe_bltn (v := .ty "tuple") (by rfl) B.n_tuple (by decide +kernel) rfl) pa_nil))))) (pw_or1 (pt_not (pt_chain op_le op_le pe_int (pe_callB call_len_seq (by rfl) B.n_len PySem.boot_len (pa_cons (pv 0) pa_nil)) (pe_glob (v := .int 8) rfl B.g_POOL_MOST ⟨_, rfl⟩))))))
      (pss_one (ps_ret pe_bl))
      pss_nil)
      (pss_cons (ps_if (pt_not (pt_val (pe_callB (cr_all rfl) (by rfl) B.n_all (by decide +kernel) (pa_cons (pe_lc (own := [("pair", 1)]) rfl sc_is_pool.nd (pi_tup (pv 0)) (blkOk_by (N := N_is_pool) (sc := defScope s_is_pool) (by decide +kernel)) (fun _ _ _ _ _ => (pg_name (i := 1) sc_is_pool.nd rfl (Or.inl rfl))) (fun _ _ _ _ _ => pts_nil) (fun _ _ _ _ _ => (pe_call G_is_share (hr.mono (by decide)) (by rfl) F_is_share.g F_is_share.F.kp F_is_share.b .nil pass0 (pa_cons (pv 1) pa_nil)))) pa_nil))))
      (pss_one (ps_ret pe_bl))
      pss_nil)
      (pss_one (ps_ret (pe_cmpR op_eq (pe_callB cr_lenSetS (by rfl) B.n_len PySem.boot_len (pa_cons (pe_callTy (cr_setS rfl) (by rfl) B.n_set (by decide +kernel) (pa_cons (pe_lc (own := [("pair", 1)]) rfl sc_is_pool.nd (pi_tup (pv 0)) (blkOk_by (N := N_is_pool) (sc := defScope s_is_pool) (by decide +kernel)) (fun _ _ _ _ _ => (pg_name (i := 1) sc_is_pool.nd rfl (Or.inl rfl))) (fun _ _ _ _ _ => pts_nil) (fun _ _ _ _ _ => (pe_ix (ix_tupK K rfl) (pv 1) pe_int (fun _ _ => rfl)))) pa_nil)) pa_nil)) (pe_callB call_len_seq (by rfl) B.n_len PySem.boot_len (pa_cons (pv 0) pa_nil)) (nomark _)))))), ?_⟩
    have ln := p.it.1
    have n1 := p.ok.n1
    have n8 := p.ok.n8
    refine ⟨_, rfl, .ref a, .ty "tuple", _, _, true, rfl, .ty "tuple", .base (.tup p.at_), kit_ty (by decide +kernel), _, rfl, iteF ?_⟩
    refine ⟨_, rfl, a, _, rfl, .inr (SqT.of p.at_), _, _, rfl, rfl, _, rfl, ?_⟩
    rw [List.length_map, decide_eq_true (by omega : (1 : Int) ≤ (ts.length : Int))]
    refine iteT ⟨_, _, rfl, rfl, _, rfl, ?_⟩
    refine (show (if (!decide (((ts.length : Nat) : Int) ≤ 8)) = true then _ else _) from ?_)
    rw [decide_eq_true (by omega : ((ts.length : Nat) : Int) ≤ 8)]
    refine iteF ⟨_, rfl, a, rfl, ⟨_, SqT.of p.at_⟩, fun D hD => ?_⟩
    refine lc_sel (walk_tup (K := K) (a := a) (xs := ts.map V.ref)) (fun _ => true) (fun _ => .bl true) (by rw [List.length_map]; omega) hD (fun H' s => SqT.of (s _ _ p.at_)) ?_ ?_
    · rintro j y H1 H2 k k0 hi s1 ⟨rfl, hy⟩ hk _
      obtain ⟨t, e, rfl, _, he, ht⟩ := (p.it.to s1).get hy
      have hm := List.mem_of_getElem? he
      exact ⟨rfl, _, rfl, t, e.1, e.2, rfl, ht, p.ok.wd e hm, (p.ok.wt e hm).1, (p.ok.wt e hm).2, hk rfl _ (Same.refl _)⟩
    · intro H1 s1 h1
      rw [filt_all, bls_map] at h1
      refine ⟨D, _, rfl, SqL.of h1, _, rfl, ?_⟩
      have eall : ((List.range (ts.map V.ref).length).map fun _ => true).all id = true := by simp
      rw [eall]
      have p1 := p.to s1
      refine iteF ⟨_, rfl, a, rfl, ⟨_, SqT.of p1.at_⟩, fun D2 hD2 => ?_⟩
      refine lc_sel (walk_tup (K := K) (a := a) (xs := ts.map V.ref)) (fun _ => true) (fun i => .str (S (((ps[i]?).map Prod.fst).getD []))) (by rw [List.length_map]; omega) hD2 (fun H' s => SqT.of (s _ _ p1.at_)) ?_ ?_
      · rintro j y H3 H4 k k0 hi s2 ⟨rfl, hy⟩ hk _
        obtain ⟨t, e, rfl, _, he, ht⟩ := (p1.it.to s2).get hy
        have hk := hk rfl _ (Same.refl _)
        rw [he] at hk
        exact ⟨rfl, _, rfl, t, _, _, _, rfl, rfl, SqT.of ht, rfl, hk⟩
      · intro H3 s3 h3
        have el : (List.range (ts.map V.ref).length).map (fun i => V.str (S (((ps[i]?).map Prod.fst).getD []))) = (ps.map fun e => S e.1).map V.str := by
          rw [List.length_map, ln, map_at ps fun o => V.str (S ((o.map Prod.fst).getD [])), List.map_map]
          rfl
        rw [filt_all, el] at h3
        have s13 := s1.trans s3
        refine ⟨D2, _, rfl, SqL.of h3, by rw [List.length_map]; omega, ?_, fun R hR => ⟨R, _, rfl, upd_same, by rw [List.length_map]; omega, ?_⟩⟩
        · have nd := p.ok.nd
          unfold List.Nodup at nd ⊢
          rw [List.pairwise_map] at nd ⊢
          exact nd.imp fun h z => h (S_inj z)
        · have s4 := s13.trans (same_new (o := SetSO P w R (ps.map fun e => S e.1)) hR)
          refine ⟨_, rfl, a, _, rfl, .inr (SqT.of (s4 _ _ p.at_)), rfl, ?_⟩
          refine bl_t ?_ (q _ s4)
          rw [List.length_map, List.length_map, ln]
def spWs : Sp := fun vs H Q _ => ∃ a ts ps, vs = [.ref a] ∧ Pool a ts ps H ∧ ∀ H', Same H H' → Q (.int (tW ps : Nat)) H'
theorem ok_ws {f : Addr} {fd : FuncData} (F : Fn K mg "weight_sum" s_weight_sum ["pool"] f fd) (B : Blt mg) : FnOk P w K mg base CX0 1 f fd ["pool"] spWs := by
  refine F.F.ok sc_weight_sum (fun vs H Q E h => ?_) (fun cdv A outer s H vs Q E hr h => ?_)
  · obtain ⟨a, ts, ps, rfl, _⟩ := h
    rfl
  · obtain ⟨a, ts, ps, rfl, p, q⟩ := h
    refine ⟨_, (pss_one (ps_ret (pe_callB (cr_sum rfl) (by rfl) B.n_sum (by decide +kernel) (pa_cons (pe_lc (own := [("_", 2), ("weight", 1)]) rfl sc_weight_sum.nd (pi_tup (pv 0)) (blkOk_by (N := N_weight_sum) (sc := defScope s_weight_sum) (by decide +kernel)) (fun _ _ _ _ _ => pg_two (i := 2) (j := 1) K rfl sc_weight_sum.nd rfl rfl rfl rfl rfl) (fun _ _ _ _ _ => pts_nil) (fun _ _ _ _ _ => (pv 1))) pa_nil)))), ?_⟩
    refine ⟨_, rfl, a, rfl, ⟨_, SqT.of p.at_⟩, fun D hD => ?_⟩
    have n8 := p.ok.n8
    have ln := p.it.1
    refine lc_sel (walk_tup (K := K) (a := a) (xs := ts.map V.ref)) (fun _ => true) (fun i => .int ((wF ps i : Nat) : Int)) (by rw [List.length_map]; omega) hD (fun H' s => SqT.of (s _ _ p.at_)) ?_ ?_
    · rintro j y H1 H2 k k0 hi s1 ⟨rfl, hy⟩ hk _
      obtain ⟨t, e, rfl, _, he, ht⟩ := (p.it.to s1).get hy
      have hk := hk rfl _ (Same.refl _)
      rw [wF_at he] at hk
      exact ⟨t, _, rfl, SqT.of ht, rfl, _, _, rfl, _, _, rfl, rfl, rfl, _, rfl, hk⟩
    · intro H1 s1 h1
      have e1 : (List.range (ts.map V.ref).length).map (fun i => V.int ((wF ps i : Nat) : Int)) = ((List.range ps.length).map fun i => ((wF ps i : Nat) : Int)).map V.int := by
        rw [List.length_map, ln, List.map_map]
        rfl
      rw [filt_all, e1] at h1
      refine ⟨D, _, rfl, SqL.of h1, ?_⟩
      rw [sum_range]
      exact q _ s1
/-- counts as values -/
def ctV (cs : List Nat) : List V := cs.map fun k => V.int ((k : Nat) : Int)
theorem ctV_len (cs : List Nat) : (ctV cs).length = cs.length := by simp [ctV]
theorem ctV_at {cs : List Nat} {j n : Nat} (h : cs[j]? = some n) : (ctV cs)[j]? = some (.int ((n : Nat) : Int)) := by
  unfold ctV
  rw [List.getElem?_map, h]
  rfl
theorem ctV_int (cs : List Nat) : ctV cs = (cs.map fun k => ((k : Nat) : Int)).map V.int := by
  unfold ctV
  rw [List.map_map]
  rfl
theorem sum_int : ∀ cs : List Nat, (cs.map fun k => ((k : Nat) : Int)).sum = ((cs.sum : Nat) : Int)
  | [] => rfl
  | c :: cs => by
    rw [List.map_cons, List.sum_cons, List.sum_cons, sum_int cs]
    omega
/-- counts stand at c, in a list or a tuple -/
def CtA (H : Hp) (c : Addr) (cs : List Nat) : Prop := H c = some (.lst (ctV cs)) ∨ H c = some (.tup (ctV cs))
theorem CtA.to {H H' : Hp} {c : Addr} {cs : List Nat} (h : CtA H c cs) (s : Same H H') : CtA H' c cs := by
  rcases h with h | h
  · exact .inl (s _ _ h)
  · exact .inr (s _ _ h)
theorem CtA.ix {K : PySem.W.Frag} {H : Hp} {c : Addr} {cs : List Nat} (h : CtA H c cs) {j n : Nat} (hj : cs[j]? = some n) {Q : VK} (q : Q (.int ((n : Nat) : Int)) H) : rIx K (.ref c) (.int ((j : Nat) : Int)) H Q := by
  rcases h with h | h
  · exact .inl ⟨c, _, _, _, rfl, rfl, SqL.of h, atI_nat (ctV_at hj), q⟩
  · exact .inr (.inl ⟨c, _, _, _, rfl, rfl, SqT.of h, atI_nat (ctV_at hj), q⟩)
theorem CtA.sum {K : PySem.W.Frag} {H : Hp} {c : Addr} {cs : List Nat} (h : CtA H c cs) {Q : VK} (q : Q (.int ((cs.sum : Nat) : Int)) H) : rSum K [.ref c] H Q ∨ rSumT K [.ref c] H Q := by
  rw [← sum_int] at q
  rcases h with h | h
  · rw [ctV_int] at h
    exact .inl ⟨c, _, rfl, SqL.of h, q⟩
  · rw [ctV_int] at h
    exact .inr ⟨c, _, rfl, SqT.of h, q⟩
def spLoads : Sp := fun vs H Q _ => ∃ a ts ps c, ∃ cs : List Nat, vs = [.ref a, .ref c] ∧ Pool a ts ps H ∧ H c = some (.tup (ctV cs)) ∧ cs.length = ps.length ∧ ∀ H', Same H H' → Q (.bl true) H'
theorem ok_loads {f f1 : Addr} {fd fd1 : FuncData} (F : Fn K mg "are_loads" s_are_loads ["pool", "thing"] f fd) (B : Blt mg) (F_is_integer : Fn K mg "is_integer" s_is_integer ["thing"] f1 fd1) : FnOk P w K mg base CX0 2 f fd ["pool", "thing"] spLoads := by
  have G_is_integer : FnOk P w K mg base CX0 1 f1 fd1 ["thing"] spInteger := ok_is_integer F_is_integer B
  refine F.F.ok sc_are_loads (fun vs H Q E h => ?_) (fun cdv A outer s H vs Q E hr h => ?_)
  · obtain ⟨a, ts, ps, c, cs, rfl, _⟩ := h
    rfl
  · obtain ⟨a, ts, ps, c, cs, rfl, p, hc, hl, q⟩ := h
    refine ⟨_, (pss_cons (ps_if (PW.pt (pw_or (pt_not (pt_val (pe_callB call_isi (by rfl) B.n_isinstance (by decide +kernel) (pa_cons (pv 1) (pa_cons (pe_bltn (v := .ty "tuple") (by rfl) B.n_tuple (by decide +kernel) rfl) pa_nil))))) (pw_or1 (pt_cmpR op_ne (pe_callB call_len_seq (by rfl) B.n_len PySem.boot_len (pa_cons (pv 1) pa_nil)) (pe_callB call_len_seq (by rfl) B.n_len PySem.boot_len (pa_cons (pv 0) pa_nil)) (nomark _)))))
      (pss_one (ps_ret pe_bl))
      pss_nil)
      (pss_one (ps_ret (pe_callB (cr_all rfl) (by rfl) B.n_all (by decide +kernel) (pa_cons (pe_lc (own := [("load", 2)]) rfl sc_are_loads.nd (pi_tup (pv 1)) (blkOk_by (N := N_are_loads) (sc := defScope s_are_loads) (by decide +kernel)) (fun _ _ _ _ _ => (pg_name (i := 2) sc_are_loads.nd rfl (Or.inl rfl))) (fun _ _ _ _ _ => pts_nil) (fun _ _ _ _ _ => (pe_and (pe_call G_is_integer (hr.mono (by decide)) (by rfl) F_is_integer.g F_is_integer.F.kp F_is_integer.b .nil pass0 (pa_cons (pv 2) pa_nil)) (pe_one (pe_cmpR op_ge (pv 2) pe_int (nomark _)))))) pa_nil))))), ?_⟩
    have n8 := p.ok.n8
    have ln := p.it.1
    refine ⟨_, rfl, .ref c, .ty "tuple", _, _, true, rfl, .ty "tuple", .base (.tup hc), kit_ty (by decide +kernel), _, rfl, iteF ?_⟩
    refine ⟨_, rfl, c, _, rfl, .inr (SqT.of hc), _, rfl, a, _, rfl, .inr (SqT.of p.at_), rfl, _, rfl, ?_⟩
    rw [decide_eq_true (by rw [ctV_len, List.length_map, hl, ln])]
    refine iteF ⟨_, rfl, c, rfl, ⟨_, SqT.of hc⟩, fun D hD => ?_⟩
    refine lc_sel (walk_tup (K := K) (a := c) (xs := ctV cs)) (fun _ => true) (fun _ => .bl true) (by rw [ctV_len]; omega) hD (fun H' s => SqT.of (s _ _ hc)) ?_ ?_
    · rintro j y H1 H2 k k0 hi s1 ⟨rfl, hy⟩ hk _
      have hk := hk rfl _ (Same.refl _)
      unfold ctV at hy
      rw [List.getElem?_map] at hy
      obtain ⟨n, hn, rfl⟩ : ∃ n : Nat, cs[j]? = some n ∧ V.int (n : Int) = y := by
        cases e : cs[j]? with
        | none => rw [e] at hy; cases hy
        | some n => rw [e] at hy; exact ⟨n, rfl, Option.some.inj hy⟩
      refine ⟨rfl, _, rfl, n, rfl, _, rfl, iteT ⟨_, rfl, _, _, rfl, rfl, bl_t (by omega) hk⟩⟩
    · intro H1 s1 h1
      rw [filt_all, bls_map] at h1
      refine ⟨D, _, rfl, SqL.of h1, ?_⟩
      have eall : ((List.range (ctV cs).length).map fun _ => true).all id = true := by simp
      rw [eall]
      exact q _ s1
end
end Ag

end
/-! ## T2 -/
section
set_option linter.all false
set_option maxRecDepth 100000
namespace Ag
open PySem PySem.Spec PyProof.Rows L2
/-- counts by place -/
def kF (cs : List Nat) (i : Nat) : Nat := (cs[i]?).getD 0
theorem kF_at {cs : List Nat} {i n : Nat} (h : cs[i]? = some n) : kF cs i = n := by
  unfold kF
  rw [h]
  rfl
theorem sum_kF (cs : List Nat) : Fair.sumN cs.length (kF cs) = cs.sum := by
  have key : ∀ l : List Nat, Fair.sumN l.reverse.length (kF l.reverse) = l.reverse.sum := by
    intro l
    induction l with
    | nil => rfl
    | cons x l ih =>
      rw [List.reverse_cons, List.length_append, List.sum_append, ← ih]
      show Fair.sumN l.reverse.length (kF (l.reverse ++ [x])) + kF (l.reverse ++ [x]) l.reverse.length = _
      have e1 : kF (l.reverse ++ [x]) l.reverse.length = x := kF_at (by simp)
      have e2 : Fair.sumN l.reverse.length (kF (l.reverse ++ [x])) = Fair.sumN l.reverse.length (kF l.reverse) := Fair.sum_congr fun i hi => by
        unfold kF
        rw [List.getElem?_append_left hi]
      rw [e1, e2]
      simp
  have := key cs.reverse
  rwa [List.reverse_reverse] at this
theorem ceil_neg {a w : Nat} (hw : 1 ≤ w) : -((-((a : Nat) : Int)) / ((w : Nat) : Int)) = (((a + w - 1) / w : Nat) : Int) := by
  generalize hq : (a + w - 1) / w = q
  have h1 := Nat.div_add_mod (a + w - 1) w
  have h2 := Nat.mod_lt (a + w - 1) (show 0 < w by omega)
  rw [hq] at h1
  generalize (a + w - 1) % w = r at h1 h2
  have key : (-((a : Nat) : Int)) / ((w : Nat) : Int) = -((q : Nat) : Int) ∧ (-((a : Nat) : Int)) % ((w : Nat) : Int) = ((w - 1 - r : Nat) : Int) := by
    refine (Int.ediv_emod_unique (by omega)).mpr ⟨?_, by omega, by omega⟩
    rw [Int.mul_neg, ← Int.natCast_mul]
    generalize w * q = z at h1 ⊢
    omega
  rw [key.1]
  omega
/-- the best of the first i -/
def Bst (n : Nat) (w k : Nat → Nat) (t i : Nat) (b d : V) : Prop := (b = .non ∧ d = .non ∧ ∀ j, j < i → ¬ Fair.rdy n w k j t) ∨
  ∃ m : Nat, b = .int (m : Int) ∧ d = .int ((Fair.due n w k m : Nat) : Int) ∧ m < i ∧ Fair.rdy n w k m t ∧ ∀ j, j < i → Fair.rdy n w k j t → Fair.due n w k m < Fair.due n w k j ∨ (Fair.due n w k m = Fair.due n w k j ∧ m ≤ j)
section
variable {P : Program} {w : World} {K : PySem.W.Frag} {mg : Str → Option Value} {base : Heap} {tw tp tg : Tok}
def spAfter : Sp := fun vs H Q _ => ∃ a ts ps c cs, vs = [.ref a, .ref c] ∧ Pool a ts ps H ∧ CtA H c cs ∧ cs.length = ps.length ∧ ∀ (i : Nat) H', Same H H' → Fair.Pick ps.length (wF ps) (kF cs) (cs.sum + 1) i → Q (.int (i : Int)) H'
set_option maxHeartbeats 1000000 in
theorem ok_after {f f1 : Addr} {fd fd1 : FuncData} (F : Fn K mg "turn_after" s_turn_after ["pool", "counts"] f fd) (B : Blt mg) (F_weight_sum : Fn K mg "weight_sum" s_weight_sum ["pool"] f1 fd1) : FnOk P w K mg base CX0 2 f fd ["pool", "counts"] spAfter := by
  have G_weight_sum : FnOk P w K mg base CX0 1 f1 fd1 ["pool"] spWs := ok_ws F_weight_sum B
  refine F.F.ok sc_turn_after (fun vs H Q E h => ?_) (fun cdv A outer s H vs Q E hr h => ?_)
  · obtain ⟨a, ts, ps, c, cs, rfl, _⟩ := h
    rfl
  · obtain ⟨a, ts, ps, c, cs, rfl, p, hc, hl, q⟩ := h
    refine ⟨_, (pss_cons (ps_set (i := 2) sc_turn_after.nd rfl (.inl rfl) (pe_call G_weight_sum (hr.mono (by decide)) (by rfl) F_weight_sum.g F_weight_sum.F.kp F_weight_sum.b .nil pass0 (pa_cons (pv 0) pa_nil)))
      (pss_cons (ps_set (i := 3) sc_turn_after.nd rfl (.inl rfl) (pe_op op_add (pe_callB (cr_sumA rfl) (by rfl) B.n_sum (by decide +kernel) (pa_cons (pv 1) pa_nil)) pe_int))
      (pss_cons (ps_asg (pe_tup (pa_cons pe_non (pa_cons pe_non pa_nil))) (pg_tup rfl (pgs_cons (pg_name (i := 4) sc_turn_after.nd rfl (Or.inl rfl)) (pgs_cons (pg_name (i := 5) sc_turn_after.nd rfl (Or.inl rfl)) pgs_nil))))
      (pss_cons (ps_for PassesOwn.never rfl (pi_enumT (by rfl) B.n_enumerate (pa_cons (pv 0) pa_nil)) (pg_tup rfl (pgs_cons (pg_name (i := 6) sc_turn_after.nd rfl (Or.inl rfl)) (pgs_cons (pg_tup rfl (pgs_cons (pg_name (i := 7) sc_turn_after.nd rfl (Or.inl rfl)) (pgs_cons (pg_name (i := 8) sc_turn_after.nd rfl (Or.inl rfl)) pgs_nil))) pgs_nil)))
      (pss_cons (ps_set (i := 9) sc_turn_after.nd rfl (.inl rfl) (pe_ix ix_seq (pv 1) (pv 6) (fun _ _ => rfl)))
        (pss_cons (ps_set (i := 10) sc_turn_after.nd rfl (.inl rfl) (pe_un un_neg (pe_op op_fdiv (pe_op op_mul (pe_un un_neg (pe_op op_add (pv 9) pe_int)) (pv 2)) (pv 8))))
        (pss_cons (ps_set (i := 11) sc_turn_after.nd rfl (.inl rfl) (pe_cmpR op_gt (pv 3) (pe_op op_fdiv (pe_op op_mul (pv 9) (pv 2)) (pv 8)) (nomark _)))
        (pss_one (ps_if (PW.pt (pw_and (pt_val (pv 11)) (pw_and1 (PW.pt (pw_or (pt_cmpR op_isN (pv 4) pe_non (nomark _)) (pw_or1 (pt_cmpR op_lt (pv 10) (pv 5) (nomark _))))))))
        (pss_one (ps_par (i := 4) (j := 5) (by rfl) sc_turn_after.nd rfl rfl (by decide) rfl rfl (pa_cons (pv 6) (pa_cons (pv 10) pa_nil)) (by rfl)))
        pss_nil))))))
      (pss_one (ps_ret (pv 4))))))), ?_⟩
    refine ⟨_, rfl, a, ts, ps, rfl, p, fun H1 s1 => ?_⟩
    refine ⟨_, rfl, (hc.to s1).sum ⟨_, _, rfl, rfl, ?_⟩⟩
    refine ⟨sz (by show 2 ≤ 16000000; decide), fun T hT => ⟨T, _, rfl, SqT.of upd_same, rfl, _, _, rfl, _, _, rfl, rfl, ?_⟩⟩
    have s2 := s1.trans (same_new (o := .tup [.non, .non]) hT)
    generalize upd H1 T (.tup [.non, .non]) = H2 at s2 ⊢
    have n8 := p.ok.n8
    have ln := p.it.1
    refine ⟨_, rfl, a, _, rfl, SqT.of (s2 _ _ p.at_), ?_⟩
    refine for_it (walk_enumT (K := K) (a := a) (xs := ts.map V.ref)) (fun j σ H' => ∃ (b d : V) (x6 x7 x8 x9 x10 x11 : Option V), σ = [some (.ref a), some (.ref c), some (.int (tW ps : Nat)), some (.int ((cs.sum : Nat) + 1)), some b, some d, x6, x7, x8, x9, x10, x11] ∧ Same H H' ∧ Bst ps.length (wF ps) (kF cs) (cs.sum + 1) j b d) ⟨_, _, none, none, none, none, none, none, rfl, s2, .inl ⟨rfl, rfl, fun j hj => by omega⟩⟩ (fun j σ H' _ z => ?_) ?_ ?_
    · obtain ⟨_, _, _, _, _, _, _, _, _, sm, _⟩ := z
      exact SqT.of (sm _ _ p.at_)
    · rintro j y σ H3 H4 hj ⟨b, d, x6, x7, x8, x9, x10, x11, rfl, s3, hb⟩ ⟨T2, x, rfl, hT2, rfl, hx⟩
      rw [List.length_map, ln] at hj
      have s4 := s3.trans (same_new (o := .tup [.int (j : Nat), x]) hT2)
      have h4 : upd H3 T2 (.tup [.int (j : Nat), x]) T2 = some (.tup [.int (j : Nat), x]) := upd_same
      generalize upd H3 T2 (.tup [.int (j : Nat), x]) = H4 at s4 h4 ⊢
      obtain ⟨t, e, rfl, _, he, ht⟩ := (p.it.to s4).get hx
      have hw := p.ok.wt e (List.mem_of_getElem? he)
      obtain ⟨k, hk⟩ : ∃ k, cs[j]? = some k := ⟨cs[j]'(by omega), List.getElem?_eq_getElem (by omega)⟩
      refine ⟨T2, _, rfl, SqT.of h4, rfl, _, _, rfl, _, _, rfl, ⟨t, _, rfl, SqT.of ht, rfl, _, _, rfl, _, _, rfl, rfl, rfl, ?_⟩⟩
      refine ⟨_, rfl, _, rfl, (hc.to s4).ix hk ?_⟩
      refine ⟨_, rfl, _, _, rfl, rfl, _, rfl, _, rfl, _, _, rfl, rfl, .inr ⟨by omega, by have := tW_le p.ok; omega⟩, _, rfl, _, _, rfl, rfl, ⟨by omega, by omega⟩, _, rfl, ?_⟩
      have hW : tW ps = Fair.tot ps.length (wF ps) := rfl
      have hD : Fair.due ps.length (wF ps) (kF cs) j = ((k + 1) * tW ps + e.2 - 1) / e.2 := by
        unfold Fair.due
        rw [kF_at hk, wF_at he, ← hW]
      have hdue : -(-((k : Int) + 1) * (tW ps : Int) / (e.2 : Int)) = ((Fair.due ps.length (wF ps) (kF cs) j : Nat) : Int) := by
        rw [hD, ← ceil_neg hw.1, Int.neg_mul, Int.natCast_mul]
        rfl
      have hrd : ((cs.sum : Nat) : Int) + 1 > (k : Int) * (tW ps : Int) / (e.2 : Int) ↔ Fair.rdy ps.length (wF ps) (kF cs) j (cs.sum + 1) := by
        unfold Fair.rdy
        rw [kF_at hk, wF_at he, ← hW, ← Int.natCast_mul, ← Int.natCast_ediv]
        omega
      refine ⟨_, rfl, _, rfl, _, rfl, _, _, rfl, rfl, .inr ⟨by omega, by have := tW_le p.ok; omega⟩, _, rfl, _, _, rfl, rfl, ⟨by omega, by omega⟩, _, _, rfl, rfl, ?_⟩
      refine ⟨_, rfl, _, rfl, ?_⟩
      by_cases hr : Fair.rdy ps.length (wF ps) (kF cs) j (cs.sum + 1)
      · refine iteB (decide_eq_true (hrd.mpr hr)) ?_
        rcases hb with ⟨rfl, rfl, hno⟩ | ⟨m, rfl, rfl, hm, hmr, hbest⟩
        · refine ⟨_, rfl, rfl, _, rfl, iteT (iteT ?_)⟩
          refine ⟨_, rfl, _, rfl, _, _, rfl, _, _, _, _, _, _, _, _, rfl, s4, .inr ⟨j, rfl, congrArg V.int hdue, by omega, hr, fun i hi hri => ?_⟩⟩
          by_cases z : i = j
          · subst z
            exact .inr ⟨rfl, Nat.le_refl _⟩
          · exact absurd hri (hno i (by omega))
        · refine ⟨_, rfl, rfl, _, rfl, iteF ⟨_, rfl, _, rfl, _, _, rfl, rfl, _, rfl, ?_⟩⟩
          by_cases hlt : Fair.due ps.length (wF ps) (kF cs) j < Fair.due ps.length (wF ps) (kF cs) m
          · refine iteB (decide_eq_true (show -(-((k : Int) + 1) * (tW ps : Int) / (e.2 : Int)) < _ by rw [hdue]; omega)) ?_
            refine ⟨_, rfl, _, rfl, _, _, rfl, _, _, _, _, _, _, _, _, rfl, s4, .inr ⟨j, rfl, congrArg V.int hdue, by omega, hr, fun i hi hri => ?_⟩⟩
            by_cases z : i = j
            · subst z
              exact .inr ⟨rfl, Nat.le_refl _⟩
            · have := hbest i (by omega) hri
              omega
          · refine iteC (decide_eq_false (show ¬ -(-((k : Int) + 1) * (tW ps : Int) / (e.2 : Int)) < _ by rw [hdue]; omega)) ?_
            refine ⟨_, _, _, _, _, _, _, _, rfl, s4, .inr ⟨m, rfl, rfl, by omega, hmr, fun i hi hri => ?_⟩⟩
            by_cases z : i = j
            · subst z
              omega
            · exact hbest i (by omega) hri
      · refine iteC (decide_eq_false fun z => hr (hrd.mp z)) ?_
        refine ⟨b, d, _, _, _, _, _, _, rfl, s4, ?_⟩
        rcases hb with ⟨rfl, rfl, hno⟩ | ⟨m, rfl, rfl, hm, hmr, hbest⟩
        · refine .inl ⟨rfl, rfl, fun i hi => ?_⟩
          by_cases z : i = j
          · subst z
            exact hr
          · exact hno i (by omega)
        · refine .inr ⟨m, rfl, rfl, by omega, hmr, fun i hi hri => ?_⟩
          by_cases z : i = j
          · subst z
            exact absurd hri hr
          · exact hbest i (by omega) hri
    · rintro σ H3 ⟨b, d, x6, x7, x8, x9, x10, x11, rfl, s3, hb⟩
      rw [List.length_map, ln] at hb
      rcases hb with ⟨rfl, rfl, hno⟩ | ⟨m, rfl, rfl, hm, hr, hbest⟩
      · obtain ⟨i, pk⟩ := Fair.exists_pick (n := ps.length) (w := wF ps) (k := kF cs) (t := cs.sum) p.ok.n1 p.ok.w1 (by rw [← hl, sum_kF])
        exact absurd pk.rd (hno i pk.lt)
      · exact ⟨_, rfl, q m H3 s3 ⟨hm, hr, hbest⟩⟩
end
end Ag

end
/-! ## T3 -/
section
set_option linter.all false
set_option maxRecDepth 100000
namespace Ag
open PySem PySem.Spec PyProof.Rows L2
/-! ### turns in a row -/
def kc (l : List Nat) : Nat → Nat := fun j => l.count j
inductive Tn (n : Nat) (w : Nat → Nat) : List Nat → Prop
  | nil : Tn n w []
  | snoc {l : List Nat} {i : Nat} : Tn n w l → Fair.Pick n w (kc l) (l.length + 1) i → Tn n w (l ++ [i])
theorem kc_snoc (l : List Nat) (i : Nat) : kc (l ++ [i]) = Fair.bump (kc l) i := by
  funext j
  unfold kc Fair.bump
  rw [List.count_append, List.count_singleton]
  by_cases h : j = i
  · subst h
    simp
  · rw [if_neg h]
    have : (i == j) = false := by simpa using fun z : i = j => h z.symm
    simp [this]
theorem Tn.run {n : Nat} {w : Nat → Nat} {l : List Nat} (t : Tn n w l) : Fair.Run n w (kc l) l.length := by
  induction t with
  | nil => exact .zero
  | snoc t p ih =>
    rw [kc_snoc, List.length_append]
    exact ih.step p
theorem Tn.lt {n : Nat} {w : Nat → Nat} {l : List Nat} (t : Tn n w l) : ∀ i ∈ l, i < n := by
  induction t with
  | nil => simp
  | snoc t p ih =>
    intro i hi
    rcases List.mem_append.mp hi with h | h
    · exact ih i h
    · rw [List.mem_singleton.mp h]
      exact p.lt
theorem Tn.uniq {n : Nat} {w : Nat → Nat} {l : List Nat} (t : Tn n w l) : ∀ {l' : List Nat}, Tn n w l' → l.length = l'.length → l = l' := by
  induction t with
  | nil =>
    intro l' _ h
    exact (List.eq_nil_of_length_eq_zero h.symm).symm
  | @snoc l i t p ih =>
    intro l' t' h
    cases t' with
    | nil => simp at h
    | @snoc k j t' p' =>
      simp only [List.length_append, List.length_singleton, Nat.add_right_cancel_iff] at h
      have e := ih t' h
      subst e
      rw [p.uniq n w p']
theorem Tn.take {n : Nat} {w : Nat → Nat} {l : List Nat} (t : Tn n w l) : ∀ m, m ≤ l.length → Tn n w (l.take m) := by
  induction t with
  | nil => intro m _; simpa using Tn.nil
  | @snoc l i t p ih =>
    intro m hm
    by_cases h : m ≤ l.length
    · rw [List.take_append_of_le_length h]
      exact ih m h
    · rw [List.length_append, List.length_singleton] at hm
      rw [List.take_of_length_le (by simp; omega)]
      exact t.snoc p
/-- the counts of a row, by place -/
def csOf (n : Nat) (l : List Nat) : List Nat := (List.range n).map fun j => l.count j
theorem csOf_len (n : Nat) (l : List Nat) : (csOf n l).length = n := by simp [csOf]
theorem csOf_at {n : Nat} {l : List Nat} {j : Nat} (h : j < n) : (csOf n l)[j]? = some (l.count j) := by
  unfold csOf
  rw [List.getElem?_map, List.getElem?_range h]
  rfl
theorem kF_csOf {n : Nat} {w : Nat → Nat} {l : List Nat} (t : Tn n w l) : kF (csOf n l) = kc l := by
  funext j
  by_cases h : j < n
  · exact kF_at (csOf_at h)
  · unfold kF kc
    rw [List.getElem?_eq_none (by rw [csOf_len]; omega)]
    exact (List.count_eq_zero.mpr fun z => h (t.lt j z)).symm
theorem csOf_sum {n : Nat} {w : Nat → Nat} {l : List Nat} (hn : 1 ≤ n) (hw : ∀ i, i < n → 1 ≤ w i) (t : Tn n w l) : (csOf n l).sum = l.length := by
  rw [← sum_kF, csOf_len, kF_csOf t]
  exact (t.run.inv hn hw).sum
theorem csOf_snoc {n : Nat} {l : List Nat} {i : Nat} (hi : i < n) : (ctV (csOf n l)).set i (.int ((l.count i : Nat) + 1)) = ctV (csOf n (l ++ [i])) := by
  refine List.ext_getElem? fun j => ?_
  rw [List.getElem?_set]
  by_cases hj : j < n
  · rw [ctV_at (csOf_at (l := l ++ [i]) hj)]
    by_cases h : i = j
    · subst h
      rw [if_pos rfl, if_pos (by rw [ctV_len, csOf_len]; exact hj)]
      simp [List.count_append]
    · rw [if_neg h, ctV_at (csOf_at hj), List.count_append, List.count_singleton]
      have : (i == j) = false := by simpa using h
      simp [this]
  · rw [if_neg (by omega), List.getElem?_eq_none (by rw [ctV_len, csOf_len]; omega), List.getElem?_eq_none (by rw [ctV_len, csOf_len]; omega)]
theorem rep0 (n : Nat) : (List.replicate n [V.int 0]).flatten = ctV (csOf n []) := by
  refine List.ext_getElem? fun j => ?_
  have e : (List.replicate n [V.int 0]).flatten = List.replicate n (V.int 0) := by
    induction n with
    | zero => rfl
    | succ n ih => rw [List.replicate_succ, List.flatten_cons, ih, List.replicate_succ]; rfl
  rw [e]
  by_cases hj : j < n
  · rw [ctV_at (csOf_at hj), List.getElem?_replicate, if_pos hj]
    rfl
  · rw [List.getElem?_eq_none (by simpa using hj), List.getElem?_eq_none (by rw [ctV_len, csOf_len]; omega)]
theorem ixN_nat {n i : Nat} (h : i < n) : ixN n ((i : Nat) : Int) = some i := by
  unfold ixN
  rw [if_pos (by omega), if_pos (by omega), show ((i : Nat) : Int).toNat = i by simp]
section
variable {P : Program} {w : World} {K : PySem.W.Frag} {mg : Str → Option Value} {base : Heap} {tw tp tg : Tok}
def spFirst : Sp := fun vs H Q _ => ∃ a ts ps, ∃ many : Nat, vs = [.ref a, .int many] ∧ Pool a ts ps H ∧ many ≤ 100000 ∧ ∀ L given H', Same H H' → H' L = some (.lst (ctV given)) → Tn ps.length (wF ps) given → given.length = many → Q (.ref L) H'
set_option maxHeartbeats 1000000 in
theorem ok_first {f f1 : Addr} {fd fd1 : FuncData} (F : Fn K mg "first_turns" s_first_turns ["pool", "many"] f fd) (B : Blt mg) (F_turn_after : Fn K mg "turn_after" s_turn_after ["pool", "counts"] f1 fd1) (G_turn_after : FnOk P w K mg base CX0 2 f1 fd1 ["pool", "counts"] spAfter) : FnOk P w K mg base CX0 3 f fd ["pool", "many"] spFirst := by
  refine F.F.ok sc_first_turns (fun vs H Q E h => ?_) (fun cdv A outer s H vs Q E hr h => ?_)
  · obtain ⟨a, ts, ps, many, rfl, _⟩ := h
    rfl
  · obtain ⟨a, ts, ps, many, rfl, p, hm, q⟩ := h
    refine ⟨_, (pss_cons (ps_set (i := 2) sc_first_turns.nd rfl (.inl rfl) (pe_op op_rep (pe_lst (pa_cons pe_int pa_nil)) (pe_callB call_len_seq (by rfl) B.n_len PySem.boot_len (pa_cons (pv 0) pa_nil))))
      (pss_cons (ps_set (i := 3) sc_first_turns.nd rfl (.inl rfl) (pe_lst pa_nil))
      (pss_cons (ps_for PassesOwn.never rfl (pi_range1 (by rfl) B.n_range (pa_cons (pv 1) pa_nil)) (pg_name (i := 4) sc_first_turns.nd rfl (Or.inl rfl))
      (pss_cons (ps_set (i := 5) sc_first_turns.nd rfl (.inl rfl) (pe_call G_turn_after (hr.mono (by decide)) (by rfl) F_turn_after.g F_turn_after.F.kp F_turn_after.b .nil pass0 (pa_cons (pv 0) (pa_cons (pv 2) pa_nil))))
        (pss_cons (ps_augS (pv 2) (pv 5) get_list pe_int ip_add set_list)
        (pss_one (ps_expr (pe_bm PySem.F.plainAttrs_list PySem.F.slot_list_append PySem.F.type_list_append mt_append (pv 3) (pa_cons (pv 5) pa_nil)))))))
      (pss_one (ps_ret (pv 3)))))), ?_⟩
    have n8 := p.ok.n8
    have ln := p.it.1
    refine ⟨sz (by show 1 ≤ 16000000; decide), fun Z hZ => ?_⟩
    have s1 := same_new (o := .lst [.int 0]) hZ
    have h1 : upd H Z (.lst [.int 0]) Z = some (.lst [.int 0]) := upd_same
    generalize upd H Z (.lst [.int 0]) = H1 at s1 h1 ⊢
    refine ⟨_, rfl, a, _, rfl, .inr (SqT.of (s1 _ _ p.at_)), Z, _, _, rfl, rfl, h1, by rw [List.length_map]; omega, by rw [List.length_map]; omega, ?_, fun C hC => ?_⟩
    · rw [List.length_map, sizeLine_eq]
      simp
      omega
    rw [List.length_map, ln, show ((ps.length : Nat) : Int).toNat = ps.length by simp, rep0]
    have nC : H C = none := s1.free hC
    have s2 := s1.trans (same_new (o := .lst (ctV (csOf ps.length []))) hC)
    have h2 : upd H1 C (.lst (ctV (csOf ps.length []))) C = some (.lst (ctV (csOf ps.length []))) := upd_same
    generalize upd H1 C (.lst (ctV (csOf ps.length []))) = H2 at s2 h2 ⊢
    refine ⟨Nat.zero_le _, fun D hD => ?_⟩
    have nD : H D = none := s2.free hD
    have nCD : C ≠ D := ne_of_none h2 hD
    have s3 := s2.trans (same_new (o := .lst []) hD)
    refine ⟨_, rfl, _, rfl, by omega, by omega, ?_⟩
    refine for_range (lo := 0) (n := ((many : Nat) : Int).toNat) (fun j σ H' => ∃ (l : List Nat) (x4 x5 : Option V), σ = [some (.ref a), some (.int many), some (.ref C), some (.ref D), x4, x5] ∧ Same H H' ∧ H' C = some (.lst (ctV (csOf ps.length l))) ∧ H' D = some (.lst (ctV l)) ∧ Tn ps.length (wF ps) l ∧ l.length = j) ⟨[], none, none, rfl, s3, by rw [upd_ne nCD]; exact h2, upd_same, .nil, rfl⟩ ?_ ?_
    · rintro j σ H4 hj ⟨l, x4, x5, rfl, s4, hc4, hd4, tn, hlen⟩
      refine ⟨_, rfl, _, rfl, a, ts, ps, C, csOf ps.length l, rfl, p.to s4, .inl hc4, csOf_len _ _, fun i H5 s5 pk => ?_⟩
      rw [kF_csOf tn, csOf_sum p.ok.n1 p.ok.w1 tn] at pk
      have hi := pk.lt
      refine ⟨_, rfl, _, rfl, C, _, i, _, rfl, rfl, SqL.of (s5 _ _ hc4), ctV_at (csOf_at hi), _, _, rfl, rfl, C, _, _, i, rfl, rfl, s5 _ _ hc4, ixN_nat (by rw [ctV_len, csOf_len]; exact hi), ?_⟩
      rw [csOf_snoc hi]
      have hd6 : upd H5 C (.lst (ctV (csOf ps.length (l ++ [i])))) D = some (.lst (ctV l)) := by
        rw [upd_ne nCD.symm]
        exact s5 _ _ hd4
      refine ⟨_, rfl, .inl ⟨rfl, _, SqL.of hd6⟩, _, rfl, D, _, _, rfl, rfl, hd6, ?_, ?_⟩
      · rw [ctV_len, sizeLine_eq]
        omega
      · refine ⟨l ++ [i], _, _, rfl, fun b o e => ?_, ?_, ?_, tn.snoc pk, by simp [hlen]⟩
        · rw [upd_ne (ne_of_none e nD), upd_ne (ne_of_none e nC)]
          exact s5 _ _ (s4 _ _ e)
        · rw [upd_ne nCD, upd_same]
        · rw [upd_same]
          unfold ctV
          rw [List.map_append]
          rfl
    · rintro σ H4 ⟨l, x4, x5, rfl, s4, hc4, hd4, tn, hlen⟩
      exact ⟨_, rfl, q D l H4 s4 hd4 tn (by rw [hlen]; simp)⟩
end
end Ag

end
/-! ## T4 -/
section
set_option linter.all false
set_option maxRecDepth 100000
namespace Ag
open PySem PySem.Spec PyProof.Rows L2
theorem count_int (l : List Nat) (j : Nat) : (l.map fun k => ((k : Nat) : Int)).count ((j : Nat) : Int) = l.count j := by
  induction l with
  | nil => rfl
  | cons x l ih =>
    rw [List.map_cons, List.count_cons, List.count_cons, ih]
    have e : (((x : Nat) : Int) == ((j : Nat) : Int)) = (x == j) := by
      rw [Bool.eq_iff_iff, beq_iff_eq, beq_iff_eq]
      omega
    rw [e]
theorem mt_lcountK {X : Cx} (K : PySem.W.Frag) (hK : X.K = K) : MtR X "list.count" (rCntI K) := by
  subst hK
  exact mt_lcount
/-- the counts behind whole rounds and a row of turns -/
def ksOf (ps : List (List Nat × Nat)) (r : Nat) (l : List Nat) : List Nat := (List.range ps.length).map fun j => r * wF ps j + l.count j
theorem ksOf_len (ps : List (List Nat × Nat)) (r : Nat) (l : List Nat) : (ksOf ps r l).length = ps.length := by simp [ksOf]
theorem ksOf_run {ps : List (List Nat × Nat)} {r : Nat} {l : List Nat} (o : PlOk ps) (t : Tn ps.length (wF ps) l) : Fair.Run ps.length (wF ps) (kF (ksOf ps r l)) (l.length + r * tW ps) := by
  have h := t.run.rounds o.n1 o.w1 r
  have e : (fun j => kc l j + if j < ps.length then r * wF ps j else 0) = kF (ksOf ps r l) := by
    funext j
    unfold kF ksOf
    by_cases hj : j < ps.length
    · rw [if_pos hj, List.getElem?_map, List.getElem?_range hj]
      show kc l j + _ = r * wF ps j + l.count j
      unfold kc
      omega
    · rw [if_neg hj, List.getElem?_eq_none (by simp; omega), t.run.out (by omega)]
      rfl
  rw [e] at h
  exact h
theorem kF_ext {a b : List Nat} (hl : a.length = b.length) (h : kF a = kF b) : a = b := by
  refine List.ext_getElem? fun i => ?_
  by_cases hi : i < a.length
  · have := congrFun h i
    rw [kF_at (List.getElem?_eq_getElem hi), kF_at (List.getElem?_eq_getElem (by omega : i < b.length))] at this
    rw [List.getElem?_eq_getElem hi, List.getElem?_eq_getElem (by omega : i < b.length), this]
  · rw [List.getElem?_eq_none (by omega), List.getElem?_eq_none (by omega)]
theorem eqv_ctD (cs : List Nat) : PyData.eqvAll (cs.map fun k => PyData.int ((k : Nat) : Int)) (cs.map fun k => PyData.int ((k : Nat) : Int)) = true := by
  induction cs with
  | nil => simp [PyData.eqvAll]
  | cons c cs ih => simp only [List.map_cons, PyData.eqvAll, PyData.eqv, ih]; simp
theorem dp_ct {K : PySem.W.Frag} {H : Hp} : ∀ cs : List Nat, DpAll K H (ctV cs) (cs.map fun k => PyData.int ((k : Nat) : Int))
  | [] => .nil
  | c :: cs => .cons (.int _) (dp_ct cs)
theorem lay_ct : ∀ cs : List Nat, PyData.canLayAll0 (cs.map fun k => PyData.int ((k : Nat) : Int)) = true ∧ PyData.depthAll (cs.map fun k => PyData.int ((k : Nat) : Int)) = 0
  | [] => by simp [PyData.canLayAll0, PyData.depthAll]
  | c :: cs => by
    obtain ⟨h1, h2⟩ := lay_ct cs
    simp [PyData.canLayAll0, PyData.canLay0, PyData.depthAll, PyData.depth, h1, h2]
theorem shaped_ct (cs : List Nat) : SeqAt.shaped (.tuple (cs.map fun k => PyData.int ((k : Nat) : Int))) = true := by
  obtain ⟨h1, h2⟩ := lay_ct cs
  simp [SeqAt.shaped, PyData.canLay0, PyData.depth, h1, h2]
section
variable {P : Program} {w : World} {K : PySem.W.Frag} {mg : Str → Option Value} {base : Heap} {tw tp tg : Tok}
def spFrom : Sp := fun vs H Q _ => ∃ a ts ps, ∃ many : Nat, vs = [.ref a, .int many] ∧ Pool a ts ps H ∧ ∀ t ks H', Same H H' → H' t = some (.tup (ctV ks)) → ks.length = ps.length → Fair.Run ps.length (wF ps) (kF ks) many → Q (.ref t) H'
set_option maxHeartbeats 1000000 in
theorem ok_from {f f1 f2 : Addr} {fd fd1 fd2 : FuncData} (F : Fn K mg "counts_from_start" s_counts_from_start ["pool", "many"] f fd) (B : Blt mg) (F_weight_sum : Fn K mg "weight_sum" s_weight_sum ["pool"] f1 fd1)
    (F_first_turns : Fn K mg "first_turns" s_first_turns ["pool", "many"] f2 fd2) (G_first_turns : FnOk P w K mg base CX0 3 f2 fd2 ["pool", "many"] spFirst) : FnOk P w K mg base CX0 4 f fd ["pool", "many"] spFrom := by
  have G_weight_sum : FnOk P w K mg base CX0 1 f1 fd1 ["pool"] spWs := ok_ws F_weight_sum B
  refine F.F.ok sc_counts_from_start (fun vs H Q E h => ?_) (fun cdv A outer s H vs Q E hr h => ?_)
  · obtain ⟨a, ts, ps, many, rfl, _⟩ := h
    rfl
  · obtain ⟨a, ts, ps, many, rfl, p, q⟩ := h
    refine ⟨_, (pss_cons (ps_asg (pe_callB call_divmod (by rfl) B.n_divmod (by decide +kernel) (pa_cons (pv 1) (pa_cons (pe_call G_weight_sum (hr.mono (by decide)) (by rfl) F_weight_sum.g F_weight_sum.F.kp F_weight_sum.b .nil pass0 (pa_cons (pv 0) pa_nil)) pa_nil))) (pg_tup rfl (pgs_cons (pg_name (i := 2) sc_counts_from_start.nd rfl (Or.inr rfl)) (pgs_cons (pg_name (i := 3) sc_counts_from_start.nd rfl (Or.inl rfl)) pgs_nil))))
      (pss_cons (ps_set (i := 4) sc_counts_from_start.nd rfl (.inr rfl) (pe_call G_first_turns (hr.mono (by decide)) (by rfl) F_first_turns.g F_first_turns.F.kp F_first_turns.b .nil pass0 (pa_cons (pv 0) (pa_cons (pv 3) pa_nil))))
      (pss_one (ps_ret (pe_callTy call_tuple_of (by rfl) B.n_tuple (by decide +kernel) (pa_cons (pe_lc (own := [("at", 6), ("_", 7), ("weight", 5)]) rfl sc_counts_from_start.nd (pi_enumT (by rfl) B.n_enumerate (pa_cons (pv 0) pa_nil)) (blkOk_by (N := N_counts_from_start) (sc := defScope s_counts_from_start) (by decide +kernel)) (fun _ _ _ _ _ => pg_nest (i := 6) (j := 7) (l := 5) K rfl sc_counts_from_start.nd rfl rfl rfl rfl rfl rfl rfl) (fun _ _ _ _ _ => pts_nil) (fun _ _ _ _ _ => (pe_op op_add (pe_op op_mul (pv 2) (pv 5)) (pe_of_K K (fun K => tBM K "list" (rCntI K) (tVar 4) (tCons (tVar 6) tNil)) rfl (pe_bm PySem.F.plainAttrs_list PySem.F.slot_list_count PySem.F.type_list_count mt_lcount (pv 4) (pa_cons (pv 6) pa_nil)))))) pa_nil)))))), ?_⟩
    have n8 := p.ok.n8
    have ln := p.it.1
    have wp := tW_pos p.ok
    have w8 := tW_le p.ok
    refine ⟨_, rfl, _, rfl, a, ts, ps, rfl, p, fun H1 s1 => ?_⟩
    refine ⟨_, _, rfl, ⟨by omega, by omega⟩, fun T hT => ⟨T, _, rfl, SqT.of upd_same, rfl, _, _, rfl, _, _, rfl, rfl, ?_⟩⟩
    have s2 := s1.trans (same_new (o := .tup [.int ((many : Int) / (tW ps : Nat)), .int ((many : Int) % (tW ps : Nat))]) hT)
    generalize upd H1 T (.tup [.int ((many : Int) / (tW ps : Nat)), .int ((many : Int) % (tW ps : Nat))]) = H2 at s2 ⊢
    have er : ((many : Int) % ((tW ps : Nat) : Int)) = ((many % tW ps : Nat) : Int) := (Int.natCast_emod _ _).symm
    have eq : ((many : Int) / ((tW ps : Nat) : Int)) = ((many / tW ps : Nat) : Int) := (Int.natCast_ediv _ _).symm
    rw [er, eq]
    have dm := Nat.div_add_mod many (tW ps)
    have lt := Nat.mod_lt many (show 0 < tW ps by omega)
    generalize many % tW ps = rest at dm lt ⊢
    generalize many / tW ps = rounds at dm ⊢
    refine ⟨_, rfl, _, rfl, a, ts, ps, rest, rfl, p.to s2, by omega, fun D given H3 s3 hD3 tn hlen => ?_⟩
    have s4 := s2.trans s3
    refine ⟨_, rfl, a, _, rfl, SqT.of (s4 _ _ p.at_), fun E hE => ?_⟩
    refine lc_sel (walk_enumT (K := K) (a := a) (xs := ts.map V.ref)) (fun _ => true) (fun j => .int ((rounds * wF ps j + given.count j : Nat) : Int)) (by rw [List.length_map]; omega) hE (fun H' s => SqT.of (s _ _ (s4 _ _ p.at_))) ?_ ?_
    · rintro j y H5 H6 k k0 hj s5 ⟨T2, x, rfl, hT2, rfl, hx⟩ hk _
      rw [List.length_map, ln] at hj
      have s6 : Same H5 (upd H5 T2 (.tup [.int (j : Nat), x])) := same_new hT2
      have h6 : upd H5 T2 (.tup [.int (j : Nat), x]) T2 = some (.tup [.int (j : Nat), x]) := upd_same
      generalize upd H5 T2 (.tup [.int (j : Nat), x]) = H6 at s6 h6 ⊢
      have s56 := s5.trans s6
      obtain ⟨t, e, rfl, _, he, ht⟩ := ((p.it.to s4).to s56).get hx
      refine ⟨T2, _, rfl, SqT.of h6, rfl, _, _, rfl, _, _, rfl, ⟨t, _, rfl, SqT.of ht, rfl, _, _, rfl, _, _, rfl, rfl, rfl, rfl, ?_⟩⟩
      have hk := hk rfl _ s6
      have hw := p.ok.wt e (List.mem_of_getElem? he)
      rw [wF_at he] at hk
      refine ⟨_, rfl, _, rfl, _, _, rfl, rfl, .inr ⟨by omega, by omega⟩, _, rfl, .inl ⟨rfl, _, SqL.of (s56 _ _ hD3)⟩, _, rfl, D, given.map (fun k => ((k : Nat) : Int)), _, rfl, rfl, SqL.of ((s56 _ _ hD3).trans (by rw [ctV_int])), ?_⟩
      rw [count_int]
      refine ⟨_, _, rfl, rfl, ?_⟩
      have ev : V.int ((rounds : Int) * (e.2 : Nat) + ((given.count j : Nat) : Int)) = .int ((rounds * e.2 + given.count j : Nat) : Int) := by
        rw [Int.natCast_add, Int.natCast_mul]
      exact (show k (V.int ((rounds : Int) * (e.2 : Nat) + ((given.count j : Nat) : Int))) H6 by rw [ev]; exact hk)
    · intro H5 s5 h5
      have e1 : (List.range (ts.map V.ref).length).map (fun j => V.int ((rounds * wF ps j + given.count j : Nat) : Int)) = ctV (ksOf ps rounds given) := by
        unfold ctV ksOf
        rw [List.length_map, ln, List.map_map]
        rfl
      rw [filt_all, e1] at h5
      refine ⟨E, _, rfl, .inl ⟨SqL.of h5, fun t ht => ?_⟩⟩
      refine q t (ksOf ps rounds given) _ (s4.trans (s5.trans (same_new ht))) upd_same (ksOf_len _ _ _) ?_
      have := ksOf_run (r := rounds) p.ok tn
      rw [hlen, show rest + rounds * tW ps = many by rw [Nat.mul_comm]; omega] at this
      exact this
def spCounts : Sp := fun vs H Q _ => ∃ a ts ps c cs, vs = [.ref a, .ref c] ∧ Pool a ts ps H ∧ H c = some (.tup (ctV cs)) ∧ cs.length = ps.length ∧ Fair.Run ps.length (wF ps) (kF cs) cs.sum ∧ ∀ H', Same H H' → Q (.bl true) H'
theorem ok_counts {f f1 f2 : Addr} {fd fd1 fd2 : FuncData} (F : Fn K mg "are_counts" s_are_counts ["pool", "thing"] f fd) (B : Blt mg) (F_are_loads : Fn K mg "are_loads" s_are_loads ["pool", "thing"] f1 fd1) (G_are_loads : FnOk P w K mg base CX0 2 f1 fd1 ["pool", "thing"] spLoads)
    (F_counts_from_start : Fn K mg "counts_from_start" s_counts_from_start ["pool", "many"] f2 fd2) (G_counts_from_start : FnOk P w K mg base CX0 4 f2 fd2 ["pool", "many"] spFrom) : FnOk P w K mg base CX0 5 f fd ["pool", "thing"] spCounts := by
  refine F.F.ok sc_are_counts (fun vs H Q E h => ?_) (fun cdv A outer s H vs Q E hr h => ?_)
  · obtain ⟨a, ts, ps, c, cs, rfl, _⟩ := h
    rfl
  · obtain ⟨a, ts, ps, c, cs, rfl, p, hc, hl, hrun, q⟩ := h
    refine ⟨_, (pss_one (ps_ret (pe_and (pe_call G_are_loads (hr.mono (by decide)) (by rfl) F_are_loads.g F_are_loads.F.kp F_are_loads.b .nil pass0 (pa_cons (pv 0) (pa_cons (pv 1) pa_nil))) (pe_one (pe_cmpR (op_eqD hr.units) (pe_call G_counts_from_start (hr.mono (by decide)) (by rfl) F_counts_from_start.g F_counts_from_start.F.kp F_counts_from_start.b .nil pass0 (pa_cons (pv 0) (pa_cons (pe_callB (cr_sumT rfl) (by rfl) B.n_sum (by decide +kernel) (pa_cons (pv 1) pa_nil)) pa_nil))) (pv 1) (nomark _)))))), ?_⟩
    refine ⟨_, rfl, _, rfl, a, ts, ps, c, cs, rfl, p, hc, hl, fun H1 s1 => ⟨_, rfl, iteT ?_⟩⟩
    refine ⟨_, rfl, _, rfl, c, cs.map (fun k => ((k : Nat) : Int)), rfl, SqT.of ((s1 _ _ hc).trans (by rw [ctV_int])), ?_⟩
    rw [sum_int]
    refine ⟨a, ts, ps, cs.sum, rfl, p.to s1, fun t ks H2 s2 ht hkl hkr => ?_⟩
    have e : ks = cs := kF_ext (hkl.trans hl.symm) (hkr.uniq hrun)
    subst e
    have s12 := s1.trans s2
    refine ⟨_, rfl, .tuple (ks.map fun k => .int ((k : Nat) : Int)), .tuple (ks.map fun k => .int ((k : Nat) : Int)), .tup (SqT.of ht) (dp_ct ks), .tup (SqT.of (s12 _ _ hc)) (dp_ct ks), shaped_ct ks, shaped_ct ks, ?_⟩
    rw [show PyData.eqv (.tuple (ks.map fun k => PyData.int ((k : Nat) : Int))) (.tuple (ks.map fun k => PyData.int ((k : Nat) : Int))) = true by simp only [PyData.eqv]; exact eqv_ctD ks]
    exact q _ s12
def spNext : Sp := fun vs H Q _ => ∃ a ts ps c cs, vs = [.ref a, .ref c] ∧ Pool a ts ps H ∧ H c = some (.tup (ctV cs)) ∧ cs.length = ps.length ∧ Fair.Run ps.length (wF ps) (kF cs) cs.sum ∧ ∀ (i : Nat) H', Same H H' → Fair.Pick ps.length (wF ps) (kF cs) (cs.sum + 1) i → Q (.int (i : Int)) H'
theorem ok_next {f f1 f2 f3 : Addr} {fd fd1 fd2 fd3 : FuncData} (F : Fn K mg "next_turn" s_next_turn ["pool", "counts"] f fd) (B : Con mg tw tp tg) (F_is_pool : Fn K mg "is_pool" s_is_pool ["thing"] f1 fd1) (G_is_pool : FnOk P w K mg base CX0 3 f1 fd1 ["thing"] spPool)
    (F_are_counts : Fn K mg "are_counts" s_are_counts ["pool", "thing"] f2 fd2) (G_are_counts : FnOk P w K mg base CX0 5 f2 fd2 ["pool", "thing"] spCounts) (F_turn_after : Fn K mg "turn_after" s_turn_after ["pool", "counts"] f3 fd3) (G_turn_after : FnOk P w K mg base CX0 2 f3 fd3 ["pool", "counts"] spAfter) : FnOk P w K mg base CX0 6 f fd ["pool", "counts"] spNext := by
  refine F.F.ok sc_next_turn (fun vs H Q E h => ?_) (fun cdv A outer s H vs Q E hr h => ?_)
  · obtain ⟨a, ts, ps, c, cs, rfl, _⟩ := h
    rfl
  · obtain ⟨a, ts, ps, c, cs, rfl, p, hc, hl, hrun, q⟩ := h
    refine ⟨_, (pss_cons (ps_if (pt_not (pt_val (pe_call G_is_pool (hr.mono (by decide)) (by rfl) F_is_pool.g F_is_pool.F.kp F_is_pool.b .nil pass0 (pa_cons (pv 0) pa_nil))))
      (pss_one ps_never)
      pss_nil)
      (pss_cons (ps_if (pt_not (pt_val (pe_call G_are_counts (hr.mono (by decide)) (by rfl) F_are_counts.g F_are_counts.F.kp F_are_counts.b .nil pass0 (pa_cons (pv 0) (pa_cons (pv 1) pa_nil)))))
      (pss_one ps_never)
      pss_nil)
      (pss_one (ps_ret (pe_call G_turn_after (hr.mono (by decide)) (by rfl) F_turn_after.g F_turn_after.F.kp F_turn_after.b .nil pass0 (pa_cons (pv 0) (pa_cons (pv 1) pa_nil))))))), ?_⟩
    refine ⟨_, rfl, a, ts, ps, rfl, p, fun H1 s1 => ⟨_, rfl, iteF ?_⟩⟩
    refine ⟨_, rfl, _, rfl, a, ts, ps, c, cs, rfl, p.to s1, s1 _ _ hc, hl, hrun, fun H2 s2 => ⟨_, rfl, iteF ?_⟩⟩
    have s12 := s1.trans s2
    exact ⟨_, rfl, _, rfl, a, ts, ps, c, cs, rfl, p.to s12, .inr (s12 _ _ hc), hl, fun i H3 s3 pk => q i H3 (s12.trans s3) pk⟩
def spCa : Sp := spFrom
theorem ok_ca {f f1 f2 f3 : Addr} {fd fd1 fd2 fd3 : FuncData} (F : Fn K mg "counts_after" s_counts_after ["pool", "t"] f fd) (B : Con mg tw tp tg) (F_is_pool : Fn K mg "is_pool" s_is_pool ["thing"] f1 fd1) (G_is_pool : FnOk P w K mg base CX0 3 f1 fd1 ["thing"] spPool)
    (F_is_integer : Fn K mg "is_integer" s_is_integer ["thing"] f2 fd2) (G_is_integer : FnOk P w K mg base CX0 1 f2 fd2 ["thing"] spInteger) (F_counts_from_start : Fn K mg "counts_from_start" s_counts_from_start ["pool", "many"] f3 fd3) (G_counts_from_start : FnOk P w K mg base CX0 4 f3 fd3 ["pool", "many"] spFrom) : FnOk P w K mg base CX0 5 f fd ["pool", "t"] spFrom := by
  refine F.F.ok sc_counts_after (fun vs H Q E h => ?_) (fun cdv A outer s H vs Q E hr h => ?_)
  · obtain ⟨a, ts, ps, t, rfl, _⟩ := h
    rfl
  · obtain ⟨a, ts, ps, t, rfl, p, q⟩ := h
    refine ⟨_, (pss_cons (ps_if (pt_not (pt_val (pe_call G_is_pool (hr.mono (by decide)) (by rfl) F_is_pool.g F_is_pool.F.kp F_is_pool.b .nil pass0 (pa_cons (pv 0) pa_nil))))
      (pss_one ps_never)
      pss_nil)
      (pss_cons (ps_if (PW.pt (pw_or (pt_not (pt_val (pe_call G_is_integer (hr.mono (by decide)) (by rfl) F_is_integer.g F_is_integer.F.kp F_is_integer.b .nil pass0 (pa_cons (pv 1) pa_nil)))) (pw_or1 (pt_cmpR op_lt (pv 1) pe_int (nomark _)))))
      (pss_one ps_never)
      pss_nil)
      (pss_one (ps_ret (pe_call G_counts_from_start (hr.mono (by decide)) (by rfl) F_counts_from_start.g F_counts_from_start.F.kp F_counts_from_start.b .nil pass0 (pa_cons (pv 0) (pa_cons (pv 1) pa_nil))))))), ?_⟩
    refine ⟨_, rfl, a, ts, ps, rfl, p, fun H1 s1 => ⟨_, rfl, iteF ?_⟩⟩
    refine ⟨_, rfl, t, rfl, _, rfl, iteF ⟨_, rfl, _, _, rfl, rfl, _, rfl, ?_⟩⟩
    rw [decide_eq_false (by omega : ¬ ((t : Int) < 0))]
    exact iteF ⟨_, rfl, _, rfl, a, ts, ps, t, rfl, p.to s1, fun t' ks H2 s2 h1 h2 h3 => q t' ks H2 (s1.trans s2) h1 h2 h3⟩
end
end Ag

end
/-! ## Math1 -/
section
set_option linter.all false
namespace Ag
open PySem
/-! ### decimal texts -/
abbrev numL := TL.numL
abbrev digitsVal := NumText.digitsVal
def plainC (c : Nat) : Bool := decide (32 ≤ c) && decide (c ≤ 126)
def digC (c : Nat) : Bool := decide (48 ≤ c) && decide (c ≤ 57)
def plainL (l : List Nat) : Bool := l.all plainC
def isDec (l : List Nat) (m : Nat) : Bool := decide (numL (digitsVal l) = l) && decide (digitsVal l ≤ m)
theorem dv_snoc (l : List Nat) (c : Nat) : digitsVal (l ++ [c]) = digitsVal l * 10 + (c - 48) := by
  show List.foldl _ 0 (l ++ [c]) = _
  rw [List.foldl_append]
  rfl
theorem isDec_iff {l : List Nat} {m : Nat} : isDec l m = true ↔ ∃ k, k ≤ m ∧ l = numL k := by
  unfold isDec
  rw [Bool.and_eq_true, decide_eq_true_eq, decide_eq_true_eq]
  constructor
  · rintro ⟨a, b⟩
    exact ⟨_, b, a.symm⟩
  · rintro ⟨k, hk, rfl⟩
    have e : digitsVal (numL k) = k := TL.numL_val k
    rw [e]
    exact ⟨rfl, hk⟩
theorem numL_all (k : Nat) : ∀ c ∈ numL k, 48 ≤ c ∧ c ≤ 57 := TL.numL_digits k
theorem numL_ne (k : Nat) : numL k ≠ [] := TL.numL_ne k
theorem numL_val (k : Nat) : digitsVal (numL k) = k := TL.numL_val k
theorem numL_zero_head : ∀ (k : Nat) (l : List Nat), numL k = 48 :: l → k = 0 := by
  intro k
  induction k using Nat.strongRecOn with
  | ind k ih =>
    intro l h
    by_cases hk : k < 10
    · have e : numL k = [48 + k] := TL.numL_lt hk
      rw [e] at h
      injection h with h1 h2
      omega
    · have e : numL k = numL (k / 10) ++ [48 + k % 10] := TL.numL_step (by omega)
      rw [e] at h
      have hne := numL_ne (k / 10)
      cases hq : numL (k / 10) with
      | nil => exact absurd hq hne
      | cons d r =>
        rw [hq] at h
        injection h with h1 h2
        subst h1
        have z := ih (k / 10) (by omega) r hq
        omega
/-- one more digit -/
theorem isDec_snoc {s : List Nat} {c m : Nat} (hs : s = [] ∨ ∃ k, s = numL k) :
    isDec (s ++ [c]) m = (digC c && decide (s ≠ [48]) && decide (digitsVal (s ++ [c]) ≤ m)) := by
  rw [Bool.eq_iff_iff, isDec_iff]
  simp only [Bool.and_eq_true, decide_eq_true_eq, digC]
  constructor
  · rintro ⟨k, hk, e⟩
    have hc : 48 ≤ c ∧ c ≤ 57 := numL_all k c (by rw [← e]; simp)
    refine ⟨⟨hc, ?_⟩, ?_⟩
    · rintro rfl
      have z := numL_zero_head k [c] e.symm
      subst z
      have e2 : numL 0 = [48] := TL.numL_lt (by decide)
      rw [e2] at e
      simp at e
    · rw [e, numL_val]
      exact hk
  · rintro ⟨⟨hc, hne⟩, hv⟩
    refine ⟨digitsVal (s ++ [c]), hv, ?_⟩
    rw [dv_snoc]
    rcases hs with rfl | ⟨k, rfl⟩
    · show [c] = numL (0 * 10 + (c - 48))
      have e : numL (0 * 10 + (c - 48)) = [48 + (0 * 10 + (c - 48))] := TL.numL_lt (by omega)
      rw [e]
      congr 1
      omega
    · rw [numL_val]
      have hk : k ≠ 0 := by
        rintro rfl
        exact hne (TL.numL_lt (by decide))
      have e : numL (k * 10 + (c - 48)) = numL ((k * 10 + (c - 48)) / 10) ++ [48 + (k * 10 + (c - 48)) % 10] := TL.numL_step (by omega)
      rw [e, show (k * 10 + (c - 48)) / 10 = k by omega, show 48 + (k * 10 + (c - 48)) % 10 = c by omega]
theorem isDec_nil (m : Nat) : isDec [] m = false := by
  cases h : isDec [] m with
  | false => rfl
  | true =>
    obtain ⟨k, _, e⟩ := isDec_iff.mp h
    exact absurd e.symm (numL_ne k)
theorem numL_len3 {k : Nat} (h : k ≤ 200) : (numL k).length ≤ 3 := TL.numL_len (by decide) (by omega)
/-! ### reading, sign by sign -/
inductive Out where
  | read (ts : List (List Nat)) (r : List Nat)
  | wrong (ts : List (List Nat)) (k : Nat)
  deriving DecidableEq
def Out.pre (ts : List (List Nat)) (i : Nat) : Out → Out
  | .read us r => .read (ts ++ us) r
  | .wrong us k => .wrong (ts ++ us) (i + k)
theorem Out.pre_pre (ts us : List (List Nat)) (i j : Nat) (o : Out) : (o.pre us j).pre ts i = o.pre (ts ++ us) (i + j) := by
  cases o <;> simp [Out.pre, Nat.add_assoc]
theorem Out.pre_nil (o : Out) : o.pre [] 0 = o := by cases o <;> simp [Out.pre]
def glue (s : List Nat) : Option (List Nat) → List Nat
  | none => s
  | some t => s ++ 58 :: t
/-- one sign: none if it is wrong; else the text that is complete, if there is one, and the next state -/
def stp (s : List Nat) (t : Option (List Nat)) (c : Nat) : Option (Option (List Nat) × List Nat × Option (List Nat)) :=
  match t with
  | none => if c = 58 ∧ s ≠ [] then some (none, s, some []) else if isDec (s ++ [c]) 200 = true then some (none, s ++ [c], none) else none
  | some t => if t.length < digitsVal s then (if plainC c = true then some (none, s, some (t ++ [c])) else none) else if c = 44 then some (some t, [], none) else none
def lr (s : List Nat) (t : Option (List Nat)) : List Nat → Out
  | [] => .read [] (glue s t)
  | c :: cs => match stp s t c with
    | none => .wrong [] 0
    | some (o, s', t') => (lr s' t' cs).pre o.toList 1
/-- states that can be -/
def Vd (s : List Nat) : Option (List Nat) → Prop
  | none => s = [] ∨ ∃ k, k ≤ 200 ∧ s = numL k
  | some t => (∃ k, k ≤ 200 ∧ s = numL k ∧ t.length ≤ k) ∧ plainL t = true
theorem plainL_snoc {t : List Nat} {c : Nat} : plainL (t ++ [c]) = (plainL t && plainC c) := by
  simp [plainL, List.all_append]
theorem Vd.step {s : List Nat} {t : Option (List Nat)} {c : Nat} (v : Vd s t) {o : Option (List Nat)} {s' : List Nat} {t' : Option (List Nat)} (h : stp s t c = some (o, s', t')) : Vd s' t' := by
  cases t with
  | none =>
    simp only [stp] at h
    split at h
    · rename_i q
      cases h
      rcases v with rfl | ⟨k, hk, e⟩
      · exact absurd rfl q.2
      · exact ⟨⟨k, hk, e, Nat.zero_le _⟩, rfl⟩
    · split at h
      · rename_i q
        cases h
        exact .inr (isDec_iff.mp q)
      · cases h
  | some t =>
    simp only [stp] at h
    obtain ⟨⟨k, hk, e, hl⟩, hp⟩ := v
    split at h
    · rename_i q
      split at h
      · rename_i hc
        cases h
        refine ⟨⟨k, hk, e, ?_⟩, by rw [plainL_snoc, hp, hc]; rfl⟩
        rw [e, numL_val] at q
        simp
        omega
      · cases h
    · split at h
      · cases h
        exact .inl rfl
      · cases h
/-- the state of a rest -/
def spS (r : List Nat) : List Nat := match TL.par [58] [] r with | some (p, _) => p | none => r
def spT (r : List Nat) : Option (List Nat) := match TL.par [58] [] r with | some (_, q) => some q | none => none
theorem colon_free {k : Nat} : 58 ∉ numL k := TL.numL_free (.inr (by decide))
theorem Vd.free {s : List Nat} {t : Option (List Nat)} (v : Vd s t) : 58 ∉ s := by
  cases t with
  | none =>
    rcases v with rfl | ⟨k, _, rfl⟩
    · exact List.not_mem_nil
    · exact colon_free
  | some t =>
    obtain ⟨⟨k, _, rfl, _⟩, _⟩ := v
    exact colon_free
theorem par_glue {s : List Nat} {t : Option (List Nat)} (h : 58 ∉ s) : TL.par [58] [] (glue s t) = t.map fun t => (s, t) := by
  cases t with
  | none => exact SX.par_head_none h
  | some t => exact SX.par_head t h
theorem sp_glue {s : List Nat} {t : Option (List Nat)} (v : Vd s t) : spS (glue s t) = s ∧ spT (glue s t) = t := by
  unfold spS spT
  rw [par_glue v.free]
  cases t <;> exact ⟨rfl, rfl⟩
/-- reading leads to a rest -/
theorem lr_rest : ∀ (l : List Nat) {s : List Nat} {t : Option (List Nat)} {ts : List (List Nat)} {r : List Nat}, Vd s t → lr s t l = .read ts r → ∃ s' t', Vd s' t' ∧ r = glue s' t'
  | [], s, t, ts, r, v, h => by
    simp only [lr] at h
    cases h
    exact ⟨s, t, v, rfl⟩
  | c :: cs, s, t, ts, r, v, h => by
    simp only [lr] at h
    cases hs : stp s t c with
    | none => rw [hs] at h; cases h
    | some p =>
      obtain ⟨o, s', t'⟩ := p
      rw [hs] at h
      simp only at h
      cases hl : lr s' t' cs with
      | wrong us k => rw [hl] at h; cases h
      | read us r' =>
        rw [hl] at h
        cases h
        exact lr_rest cs (v.step hs) hl
/-- two strings, one behind the other -/
def Out.thn (n : Nat) (o : Out) (k : List Nat → Out) : Out := match o with
  | .read ts r => (k r).pre ts n
  | .wrong ts i => .wrong ts i
theorem lr_app : ∀ (a b : List Nat) {s : List Nat} {t : Option (List Nat)}, Vd s t → lr s t (a ++ b) = (lr s t a).thn a.length fun r => lr (spS r) (spT r) b
  | [], b, s, t, v => by
    show lr s t b = (lr (spS (glue s t)) (spT (glue s t)) b).pre [] 0
    rw [(sp_glue v).1, (sp_glue v).2, Out.pre_nil]
  | c :: cs, b, s, t, v => by
    show lr s t (c :: (cs ++ b)) = _
    simp only [lr]
    cases hs : stp s t c with
    | none => rfl
    | some p =>
      obtain ⟨o, s', t'⟩ := p
      simp only
      rw [lr_app cs b (v.step hs)]
      cases lr s' t' cs with
      | wrong us k => rfl
      | read us r' =>
        show Out.pre o.toList 1 (Out.pre us cs.length (lr (spS r') (spT r') b)) = Out.pre (o.toList ++ us) (cs.length + 1) (lr (spS r') (spT r') b)
        rw [Out.pre_pre, Nat.add_comm 1]
/-! ### the program's way: one frame after the other -/
/-- how many of the signs are digits of a length -/
def dgs (s : List Nat) : List Nat → Nat
  | [] => 0
  | c :: cs => if isDec (s ++ [c]) 200 = true then dgs (s ++ [c]) cs + 1 else 0
theorem dgs_le : ∀ (l s : List Nat), dgs s l ≤ l.length
  | [], _ => Nat.le_refl _
  | c :: cs, s => by
    unfold dgs
    split
    · have := dgs_le cs (s ++ [c])
      simp
      exact this
    · exact Nat.zero_le _
theorem lr_dgs : ∀ (l : List Nat) {s : List Nat}, Vd s none → lr s none l = (lr (s ++ l.take (dgs s l)) none (l.drop (dgs s l))).pre [] (dgs s l) ∧ Vd (s ++ l.take (dgs s l)) none ∧
    (∀ c cs, l.drop (dgs s l) = c :: cs → isDec (s ++ l.take (dgs s l) ++ [c]) 200 = false)
  | [], s, v => by
    refine ⟨?_, ?_, fun c cs h => ?_⟩
    · simp [dgs, Out.pre_nil]
    · simpa [dgs] using v
    · simp at h
  | c :: cs, s, v => by
    by_cases h : isDec (s ++ [c]) 200 = true
    · have hd : dgs s (c :: cs) = dgs (s ++ [c]) cs + 1 := by
        show (if isDec (s ++ [c]) 200 = true then _ else _) = _
        rw [if_pos h]
      have hc : c ≠ 58 := by
        obtain ⟨k, _, e⟩ := isDec_iff.mp h
        have := numL_all k c (by rw [← e]; simp)
        omega
      have v' : Vd (s ++ [c]) none := .inr (isDec_iff.mp h)
      obtain ⟨i1, i2, i3⟩ := lr_dgs cs v'
      have es : stp s none c = some (none, s ++ [c], none) := by
        show (if c = 58 ∧ s ≠ [] then _ else if isDec (s ++ [c]) 200 = true then _ else _) = _
        rw [if_neg (fun z => hc z.1), if_pos h]
      have el : lr s none (c :: cs) = (lr (s ++ [c]) none cs).pre [] 1 := by
        simp only [lr, es]
        rfl
      have ea : s ++ [c] ++ cs.take (dgs (s ++ [c]) cs) = s ++ (c :: cs).take (dgs (s ++ [c]) cs + 1) := by simp
      rw [hd, el, i1, Out.pre_pre, ea]
      rw [ea] at i2 i3
      refine ⟨?_, i2, fun d ds hq => i3 d ds (by simpa using hq)⟩
      rw [List.drop_succ_cons, Nat.add_comm]
      rfl
    · have hd : dgs s (c :: cs) = 0 := by
        show (if isDec (s ++ [c]) 200 = true then _ else _) = _
        rw [if_neg h]
      rw [hd]
      refine ⟨by simp [Out.pre_nil], by simpa using v, fun d ds hq => ?_⟩
      simp at hq
      obtain ⟨rfl, rfl⟩ := hq
      simpa using h
/-- how many signs ahead of the first one that no text has -/
def pls : List Nat → Nat
  | [] => 0
  | c :: cs => if plainC c = true then pls cs + 1 else 0
theorem pls_le : ∀ l : List Nat, pls l ≤ l.length
  | [] => Nat.le_refl _
  | c :: cs => by
    unfold pls
    split
    · have := pls_le cs
      simp
      exact this
    · exact Nat.zero_le _
theorem pls_all {l : List Nat} (h : plainL l = true) : pls l = l.length := by
  induction l with
  | nil => rfl
  | cons c cs ih =>
    have h' : plainC c = true ∧ plainL cs = true := by simpa [plainL] using h
    show (if plainC c = true then pls cs + 1 else 0) = _
    rw [if_pos h'.1, ih h'.2]
    rfl
theorem pls_lt {l : List Nat} (h : plainL l = false) : pls l < l.length ∧ ∃ c, l[pls l]? = some c ∧ plainC c = false := by
  induction l with
  | nil => cases h
  | cons c cs ih =>
    by_cases hc : plainC c = true
    · have h' : plainL cs = false := by
        have z : (plainC c && plainL cs) = false := h
        rw [hc] at z
        exact z
      obtain ⟨a, d, b1, b2⟩ := ih h'
      have e : pls (c :: cs) = pls cs + 1 := by
        show (if plainC c = true then pls cs + 1 else 0) = _
        rw [if_pos hc]
      rw [e]
      exact ⟨by simp; exact a, d, by simpa using b1, b2⟩
    · have e : pls (c :: cs) = 0 := by
        show (if plainC c = true then pls cs + 1 else 0) = _
        rw [if_neg hc]
      rw [e]
      exact ⟨by simp, c, by simp, by simpa using hc⟩
theorem pls_plain : ∀ l : List Nat, plainL (l.take (pls l)) = true
  | [] => rfl
  | c :: cs => by
    by_cases hc : plainC c = true
    · have e : pls (c :: cs) = pls cs + 1 := by
        show (if plainC c = true then pls cs + 1 else 0) = _
        rw [if_pos hc]
      rw [e, List.take_succ_cons]
      show (plainC c && plainL (cs.take (pls cs))) = true
      rw [hc, pls_plain cs]
      rfl
    · have e : pls (c :: cs) = 0 := by
        show (if plainC c = true then pls cs + 1 else 0) = _
        rw [if_neg hc]
      rw [e]
      rfl
/-- the signs of a text -/
theorem lr_text : ∀ (a : List Nat) (l : List Nat) {s t : List Nat}, plainL a = true → t.length + a.length ≤ digitsVal s → lr s (some t) (a ++ l) = (lr s (some (t ++ a)) l).pre [] a.length
  | [], l, s, t, _, _ => by simp [Out.pre_nil]
  | c :: cs, l, s, t, hp, hl => by
    have hp' : plainC c = true ∧ plainL cs = true := by simpa [plainL] using hp
    simp only [List.length_cons] at hl
    have es : stp s (some t) c = some (none, s, some (t ++ [c])) := by
      show (if t.length < digitsVal s then _ else _) = _
      rw [if_pos (by omega), if_pos hp'.1]
    have el : lr s (some t) (c :: (cs ++ l)) = (lr s (some (t ++ [c])) (cs ++ l)).pre [] 1 := by
      simp only [lr, es]
      rfl
    show lr s (some t) (c :: (cs ++ l)) = _
    rw [el, lr_text cs l hp'.2 (by simp; omega), Out.pre_pre]
    simp [Nat.add_comm]
/-- what next_frame tells of the signs from its start on -/
inductive Nf where
  | part (at_ : Nat) | wrong (at_ : Nat) | whole (t : List Nat) (at_ : Nat)
def nf (l : List Nat) : Nf :=
  let k := dgs [] l
  if k = l.length then .part k else
  if k = 0 ∨ l[k]? ≠ some 58 then .wrong k else
  let n := digitsVal (l.take k)
  let part := (l.drop (k + 1)).take n
  let e := k + 1 + pls part
  if e = l.length then .part e else
  if l[e]? ≠ some 44 then .wrong e else .whole part (k + 1 + n + 1)
theorem nf_lr (l : List Nat) : match nf l with
    | .part _ => ∃ r, lr [] none l = .read [] r ∧ r = l
    | .wrong k => lr [] none l = .wrong [] k ∧ k < l.length
    | .whole t k => lr [] none l = (lr [] none (l.drop k)).pre [t] k ∧ k ≤ l.length ∧ 0 < k := by
  obtain ⟨h1, h2, h3⟩ := lr_dgs l (s := []) (.inl rfl)
  simp only [List.nil_append] at h1 h2 h3
  have hk := dgs_le l []
  generalize hkk : dgs [] l = k at h1 h2 h3 hk
  unfold nf
  rw [hkk]
  by_cases e1 : k = l.length
  · simp only [e1, if_true]
    rw [h1, e1, List.take_length, List.drop_length]
    exact ⟨l, by simp [lr, glue, Out.pre], rfl⟩
  · simp only [if_neg e1]
    have hlt : k < l.length := by omega
    obtain ⟨c, hc⟩ : ∃ c, l[k]? = some c := ⟨l[k], by simp [hlt]⟩
    have hd : l.drop k = c :: l.drop (k + 1) := by
      rw [List.drop_eq_getElem_cons hlt]
      congr 1
      rw [List.getElem?_eq_getElem hlt] at hc
      exact Option.some.inj hc
    have nd := h3 c _ hd
    by_cases e2 : k = 0 ∨ l[k]? ≠ some 58
    · simp only [if_pos e2]
      refine ⟨?_, hlt⟩
      rw [h1, hd]
      have es : stp (l.take k) none c = none := by
        show (if c = 58 ∧ l.take k ≠ [] then _ else if isDec (l.take k ++ [c]) 200 = true then _ else none) = _
        rw [if_neg, if_neg (by rw [nd]; decide)]
        rintro ⟨rfl, hn⟩
        rcases e2 with rfl | e2
        · exact hn rfl
        · exact e2 hc
      simp only [lr, es]
      simp [Out.pre]
    · simp only [if_neg e2]
      have hk0 : k ≠ 0 := fun z => e2 (.inl z)
      have hc58 : c = 58 := by
        by_cases q : c = 58
        · exact q
        · exact absurd (.inr (by rw [hc]; simpa using q)) e2
      subst hc58
      have hne : l.take k ≠ [] := by
        intro z
        have := congrArg List.length z
        rw [List.length_take, List.length_nil] at this
        omega
      have es : stp (l.take k) none 58 = some (none, l.take k, some []) := by
        show (if 58 = 58 ∧ l.take k ≠ [] then _ else _) = _
        rw [if_pos ⟨rfl, hne⟩]
      have h4 : lr [] none l = (lr (l.take k) (some []) (l.drop (k + 1))).pre [] (k + 1) := by
        rw [h1, hd]
        simp only [lr, es]
        rw [Out.pre_pre]
        rfl
      generalize hn : digitsVal (l.take k) = n
      generalize hm : l.drop (k + 1) = m at h4
      have hml : m.length = l.length - (k + 1) := by rw [← hm, List.length_drop]
      generalize hp : m.take n = part
      have hpm : m = part ++ m.drop n := by rw [← hp, List.take_append_drop]
      have hpl : part.length ≤ n := by rw [← hp, List.length_take]; omega
      have hb := pls_le part
      have hsp : m = part.take (pls part) ++ m.drop (pls part) := by
        have e : part.take (pls part) = m.take (pls part) := by
          rw [← hp, List.take_take, Nat.min_eq_left (by rw [hp]; omega)]
        rw [e, List.take_append_drop]
      have h5 : lr [] none l = (lr (l.take k) (some (part.take (pls part))) (m.drop (pls part))).pre [] (k + 1 + pls part) := by
        rw [h4]
        conv => lhs; rw [hsp]
        rw [lr_text _ _ (pls_plain part) (by rw [hn, List.length_take]; simp; omega), Out.pre_pre, List.length_take, Nat.min_eq_left hb]
        simp
      have hpm2 : part.length ≤ m.length := by rw [← hp, List.length_take]; omega
      by_cases e3 : k + 1 + pls part = l.length
      · simp only [if_pos e3]
        refine ⟨l, ?_, rfl⟩
        have hd0 : m.drop (pls part) = [] := List.drop_eq_nil_of_le (by omega)
        have ht0 : part.take (pls part) = m := by
          rw [hd0, List.append_nil] at hsp
          exact hsp.symm
        rw [h5, hd0, ht0]
        simp only [lr, glue, Out.pre, List.append_nil]
        rw [← hm]
        congr 1
        rw [← hd, List.take_append_drop]
      · simp only [if_neg e3]
        have hlt3 : k + 1 + pls part < l.length := by omega
        have hget : l[k + 1 + pls part]? = m[pls part]? := by rw [← hm, List.getElem?_drop]
        obtain ⟨d, hdd⟩ : ∃ d, m[pls part]? = some d := ⟨m[pls part]'(by omega), by rw [List.getElem?_eq_getElem (by omega)]⟩
        have hmd : m.drop (pls part) = d :: m.drop (pls part + 1) := by
          rw [List.drop_eq_getElem_cons (by omega)]
          congr 1
          rw [List.getElem?_eq_getElem (by omega)] at hdd
          exact Option.some.inj hdd
        rw [hget, hdd]
        have hcase : (pls part = n ∧ part.length = n) ∨ (pls part < n ∧ plainC d = false) := by
          cases hpp : plainL part with
          | true =>
            have e := pls_all hpp
            left
            have : part.length = n := by
              rw [e] at hlt3
              rw [← hp, List.length_take] at hlt3 ⊢
              omega
            omega
          | false =>
            obtain ⟨a, c', b1, b2⟩ := pls_lt hpp
            right
            refine ⟨by omega, ?_⟩
            have : part[pls part]? = m[pls part]? := by
              conv => rhs; rw [hpm]
              rw [List.getElem?_append_left a]
            rw [this, hdd] at b1
            rw [Option.some.inj b1]
            exact b2
        have htl : (part.take (pls part)).length = pls part := by rw [List.length_take, Nat.min_eq_left hb]
        by_cases e4 : d = 44
        · subst e4
          rw [if_neg (by simp)]
          rcases hcase with ⟨q1, q2⟩ | ⟨q1, q2⟩
          · refine ⟨?_, by omega, by omega⟩
            have et : part.take (pls part) = part := List.take_of_length_le (by omega)
            have es2 : stp (l.take k) (some part) 44 = some (some part, [], none) := by
              show (if part.length < digitsVal (l.take k) then _ else _) = _
              rw [if_neg (by rw [hn]; omega)]
              rfl
            have ed : m.drop (pls part + 1) = l.drop (k + 1 + n + 1) := by
              rw [← hm, List.drop_drop]
              congr 1
              omega
            rw [h5, et, hmd]
            simp only [lr, es2]
            rw [Out.pre_pre, ed]
            simp only [Option.toList, List.nil_append]
            congr 1
            omega
          · exact absurd q2 (by decide)
        · rw [if_pos (by simpa using e4)]
          refine ⟨?_, hlt3⟩
          have es2 : stp (l.take k) (some (part.take (pls part))) d = none := by
            show (if (part.take (pls part)).length < digitsVal (l.take k) then _ else if d = 44 then _ else none) = _
            rcases hcase with ⟨q1, q2⟩ | ⟨q1, q2⟩
            · rw [if_neg (by rw [hn, htl]; omega), if_neg e4]
            · rw [if_pos (by rw [hn, htl]; omega), if_neg (by rw [q2]; decide)]
          rw [h5, hmd]
          simp only [lr, es2]
          simp [Out.pre]
end Ag

end
/-! ## D0 -/
section
set_option linter.all false
set_option maxRecDepth 100000
namespace Ag
open PySem PySem.Spec PyProof.Rows L2
open SX (S S_len S_cat S_inj)
/-! ### data of any depth, dicts too, away from the deck -/
def At (p c : Addr) (H : Hp) (a : Addr) (o : HO) : Prop := a ≠ p ∧ a ≠ c ∧ H a = some o
def kD : Key → PyData
  | .inl i => .int i
  | .inr x => .str x
mutual
inductive Dg (p c : Addr) (H : Hp) : V → PyData → Prop
  | non : Dg p c H .non .none
  | bl (b : Bool) : Dg p c H (.bl b) (.bool b)
  | int (i : Int) : Dg p c H (.int i) (.int i)
  | str (x : Str) : Dg p c H (.str x) (.str x)
  | lst {a : Addr} {xs : List V} {ds : List PyData} : At p c H a (.lst xs) → DgA p c H xs ds → Dg p c H (.ref a) (.list ds)
  | tup {a : Addr} {xs : List V} {ds : List PyData} : At p c H a (.tup xs) → DgA p c H xs ds → Dg p c H (.ref a) (.tuple ds)
  | dic {a : Addr} {kvs : List (Key × V)} {ds : List (PyData × PyData)} : At p c H a (.dK kvs) → DgK p c H kvs ds → Dg p c H (.ref a) (.dict ds)
inductive DgA (p c : Addr) (H : Hp) : List V → List PyData → Prop
  | nil : DgA p c H [] []
  | cons {v : V} {vs : List V} {d : PyData} {ds : List PyData} : Dg p c H v d → DgA p c H vs ds → DgA p c H (v :: vs) (d :: ds)
inductive DgK (p c : Addr) (H : Hp) : List (Key × V) → List (PyData × PyData) → Prop
  | nil : DgK p c H [] []
  | cons {k : Key} {v : V} {kvs : List (Key × V)} {d : PyData} {ds : List (PyData × PyData)} : Dg p c H v d → DgK p c H kvs ds → DgK p c H ((k, v) :: kvs) ((kD k, d) :: ds)
end
/-- what data leans on stays -/
def Kp (p c : Addr) (H H' : Hp) : Prop := ∀ b o, b ≠ p → b ≠ c → H b = some o → H' b = some o
theorem Kp.refl {p c : Addr} {H : Hp} : Kp p c H H := fun _ _ _ _ e => e
theorem Kp.trans {p c : Addr} {H H1 H2 : Hp} (a : Kp p c H H1) (b : Kp p c H1 H2) : Kp p c H H2 := fun x o h1 h2 e => b x o h1 h2 (a x o h1 h2 e)
theorem Kp.same {p c : Addr} {H H' : Hp} (s : Same H H') : Kp p c H H' := fun b o _ _ e => s b o e
theorem At.kp {p c a : Addr} {H H' : Hp} {o : HO} (h : At p c H a o) (g : Kp p c H H') : At p c H' a o := ⟨h.1, h.2.1, g a o h.1 h.2.1 h.2.2⟩
mutual
theorem Dg.kp {p c : Addr} {H H' : Hp} (g : Kp p c H H') : ∀ (d : PyData) (v : V), Dg p c H v d → Dg p c H' v d
  | .none, _, h => by cases h; exact .non
  | .bool _, _, h => by cases h; exact .bl _
  | .int _, _, h => by cases h; exact .int _
  | .str _, _, h => by cases h; exact .str _
  | .list ds, _, h => by
    cases h with
    | lst a b => exact .lst (a.kp g) (DgA.kp g ds _ b)
  | .tuple ds, _, h => by
    cases h with
    | tup a b => exact .tup (a.kp g) (DgA.kp g ds _ b)
  | .dict ds, _, h => by
    cases h with
    | dic a b => exact .dic (a.kp g) (DgK.kp g ds _ b)
theorem DgA.kp {p c : Addr} {H H' : Hp} (g : Kp p c H H') : ∀ (ds : List PyData) (vs : List V), DgA p c H vs ds → DgA p c H' vs ds
  | [], _, h => by cases h; exact .nil
  | d :: ds, _, h => by
    cases h with
    | cons a b => exact .cons (Dg.kp g d _ a) (DgA.kp g ds _ b)
theorem DgK.kp {p c : Addr} {H H' : Hp} (g : Kp p c H H') : ∀ (ds : List (PyData × PyData)) (vs : List (Key × V)), DgK p c H vs ds → DgK p c H' vs ds
  | [], _, h => by cases h; exact .nil
  | (_, d) :: ds, _, h => by
    cases h with
    | cons a b => exact .cons (Dg.kp g d _ a) (DgK.kp g ds _ b)
end
theorem Dg.to {p c : Addr} {H H' : Hp} {v : V} {d : PyData} (h : Dg p c H v d) (g : Kp p c H H') : Dg p c H' v d := Dg.kp g d v h
theorem DgA.to {p c : Addr} {H H' : Hp} {v : List V} {d : List PyData} (h : DgA p c H v d) (g : Kp p c H H') : DgA p c H' v d := DgA.kp g d v h
theorem DgA.len {p c : Addr} {H : Hp} : ∀ {vs : List V} {ds : List PyData}, DgA p c H vs ds → vs.length = ds.length
  | [], [], _ => rfl
  | _ :: _, _ :: _, .cons _ t => by rw [List.length_cons, List.length_cons, DgA.len t]
theorem DgA.at_ {p c : Addr} {H : Hp} : ∀ {vs : List V} {ds : List PyData} {i : Nat} {v : V}, DgA p c H vs ds → vs[i]? = some v → ∃ d, ds[i]? = some d ∧ Dg p c H v d
  | _ :: _, _ :: _, 0, _, .cons h _, e => by
    simp at e
    subst e
    exact ⟨_, rfl, h⟩
  | _ :: _, _ :: _, i + 1, _, .cons _ t, e => DgA.at_ (i := i) t (by simpa using e)
  | [], [], _, _, _, e => by simp at e
theorem DgA.app {p c : Addr} {H : Hp} : ∀ {vs ws : List V} {ds es : List PyData}, DgA p c H vs ds → DgA p c H ws es → DgA p c H (vs ++ ws) (ds ++ es)
  | [], _, [], _, _, h => h
  | _ :: _, _, _ :: _, _, .cons a b, h => .cons a (DgA.app b h)
theorem DgA.take {p c : Addr} {H : Hp} : ∀ {vs : List V} {ds : List PyData} (n : Nat), DgA p c H vs ds → DgA p c H (vs.take n) (ds.take n)
  | [], [], _, _ => by simpa using DgA.nil
  | _ :: _, _ :: _, 0, _ => by simpa using DgA.nil
  | _ :: _, _ :: _, n + 1, .cons a b => .cons a (DgA.take n b)
theorem DgA.drop {p c : Addr} {H : Hp} : ∀ {vs : List V} {ds : List PyData} (n : Nat), DgA p c H vs ds → DgA p c H (vs.drop n) (ds.drop n)
  | [], [], _, _ => by simpa using DgA.nil
  | _ :: _, _ :: _, 0, h => h
  | _ :: _, _ :: _, n + 1, .cons _ b => DgA.drop n b
theorem DgA.rev {p c : Addr} {H : Hp} : ∀ {vs : List V} {ds : List PyData}, DgA p c H vs ds → DgA p c H vs.reverse ds.reverse
  | [], [], _ => .nil
  | _ :: _, _ :: _, .cons a b => by
    rw [List.reverse_cons, List.reverse_cons]
    exact (DgA.rev b).app (.cons a .nil)
/-! ### the machine reads it -/
mutual
/-- no list at any depth -/
def noL : PyData → Bool
  | .none => true
  | .bool _ => true
  | .int _ => true
  | .str _ => true
  | .list _ => false
  | .tuple xs => noLA xs
  | .dict kvs => noLK kvs
def noLA : List PyData → Bool
  | [] => true
  | x :: xs => noL x && noLA xs
def noLK : List (PyData × PyData) → Bool
  | [] => true
  | (_, v) :: r => noL v && noLK r
end
section
variable {X : Cx} {pins : List (Addr × Obj)} {σ : L2.St} {H : Hp} {s : Shared} {p c : Addr}
theorem key_reads {P : Program} {w : World} {h : Heap} {k : Key} {v : Value} (e : (mixKind P w).is k v = true) : Reads h v (kD k) [] := by
  rcases keyIs_shape e with ⟨i, t, rfl, rfl⟩ | ⟨x, t, rfl, rfl⟩
  · exact .int i t
  · exact .str x t
mutual
theorem Dg.reads (I : Inv X pins σ H s) : ∀ (d : PyData) (v : V) (u : Value), Dg p c H v d → RelV v u → ∃ as, Reads s.heap u d as ∧ (noL d = true → sysModules ∉ as)
  | .none, _, _, h, r => by
    cases h
    cases r
    exact ⟨_, .none, by simp⟩
  | .bool b, _, _, h, r => by
    cases h
    cases r
    exact ⟨_, .bool b, by simp⟩
  | .int i, _, _, h, r => by
    cases h
    obtain ⟨t, rfl⟩ := r
    exact ⟨_, .int i t, by simp⟩
  | .str x, _, _, h, r => by
    cases h
    obtain ⟨t, rfl⟩ := r
    exact ⟨_, .str x t, by simp⟩
  | .list ds, _, _, h, r => by
    cases h with
    | lst ha hd =>
      cases r
      obtain ⟨its, rv, ⟨o, n, ho, hc, _, hdt⟩, _⟩ := I.list (SqL.of ha.2.2)
      obtain ⟨as, hr, hn⟩ := DgA.reads I ds _ its hd rv
      exact ⟨_, .list ho hc hdt hr, fun z => by simp [noL] at z⟩
  | .tuple ds, _, _, h, r => by
    cases h with
    | tup ha hd =>
      cases r
      obtain ⟨its, rv, ⟨o, ho, hc, n, hdt⟩, _⟩ := I.tuple (SqT.of ha.2.2)
      obtain ⟨as, hr, hn⟩ := DgA.reads I ds _ its hd rv
      exact ⟨_, .tuple ho hc hdt hr, fun z => hn (by simpa [noL] using z)⟩
  | .dict ds, _, _, h, r => by
    cases h with
    | dic ha hd =>
      cases r
      obtain ⟨_, hsys, vs, kv, o, es, ep, ho, hex, hdt, _, hps, _⟩ := I.hok _ _ ha.2.2
      obtain ⟨as, bs, r1, r2, n1, n2⟩ := DgK.reads I ds _ vs es.toList hd kv hps
      refine ⟨_, .dict ho hex.1 hdt r1 r2, ?_⟩
      intro hl z
      rcases List.mem_append.mp z with z | z
      · rcases List.mem_cons.mp z with z | z
        · rw [← z] at hsys
          simp at hsys
        · exact n1 z
      · exact n2 (by simpa [noL] using hl) z
theorem DgA.reads (I : Inv X pins σ H s) : ∀ (ds : List PyData) (vs : List V) (us : List Value), DgA p c H vs ds → Vals vs us → ∃ as, ReadsAll s.heap us ds as ∧ (noLA ds = true → sysModules ∉ as)
  | [], _, _, h, r => by
    cases h
    cases r
    exact ⟨_, .nil, by simp⟩
  | d :: ds, _, _, h, r => by
    cases h with
    | cons h1 h2 =>
      cases r with
      | cons r1 r2 =>
        obtain ⟨as, q1, n1⟩ := Dg.reads I d _ _ h1 r1
        obtain ⟨bs, q2, n2⟩ := DgA.reads I ds _ _ h2 r2
        have hh : ∀ z : noLA (d :: ds) = true, noL d = true ∧ noLA ds = true := fun z => by simpa [noLA] using z
        exact ⟨_, .cons q1 q2, fun z y => (List.mem_append.mp y).elim (n1 (hh z).1) (n2 (hh z).2)⟩
theorem DgK.reads (I : Inv X pins σ H s) : ∀ (ds : List (PyData × PyData)) (kvs : List (Key × V)) (vs : List (Key × Value)) (es : List DictEntry), DgK p c H kvs ds → KV kvs vs → Pairs (mixKind X.prog X.w) es vs →
    ∃ as bs, ReadsAll s.heap (es.map (·.key)) (ds.map (·.1)) as ∧ ReadsAll s.heap (es.map (·.val)) (ds.map (·.2)) bs ∧ sysModules ∉ as ∧ (noLK ds = true → sysModules ∉ bs)
  | [], _, _, _, h, r, q => by
    cases h
    cases r
    cases q
    exact ⟨_, _, .nil, .nil, by simp, by simp⟩
  | (k, d) :: ds, _, _, _, h, r, q => by
    cases h with
    | cons h1 h2 =>
      cases r with
      | cons r1 r2 =>
        cases q with
        | cons q1 q2 q3 =>
          obtain ⟨e1, e2⟩ := r1
          obtain ⟨as, bs, a1, a2, n1, n2⟩ := DgK.reads I ds _ _ _ h2 r2 q3
          obtain ⟨cs, b1, n3⟩ := Dg.reads I d _ _ h1 e2
          rw [← e1] at q1
          rw [← q2] at b1
          exact ⟨_, _, .cons (key_reads q1) a1, .cons b1 a2, by simpa using n1, fun z y => (List.mem_append.mp y).elim (n3 (by simp [noLK] at z; exact z.1)) (n2 (by simp [noLK] at z; exact z.2))⟩
end
/-- repr of data -/
theorem call_repr_any (hu : X.A.units + 66 < cLine) (hG : X.A.guards = some []) : CallR X (.builtin "repr") (fun xs H Q => ∃ x d p c, xs = [x] ∧ Dg p c H x d ∧ d.showable = true ∧ (d.hasDict = true → noL d = true) ∧ d.depth ≤ 64 ∧ d.shown.length ≤ sizeLine ∧ Q (.str d.shown) H) := by
  intro pins s σ H vs us Q I r h
  obtain ⟨x, d, p, c, rfl, hd, h1, hk, h3, h4, q⟩ := h
  obtain ⟨u, rfl, ru⟩ := vals1 r
  cases x with
  | ref a =>
    obtain ⟨as, rd, na⟩ := Dg.reads I d (.ref a) u hd ru
    obtain rfl : u = Value.ref a := ru
    exact repr_of_reads' rd h1 (fun z => na (hk z)) hG (by omega) (fun _ _ e => e) (fun h' u tk kp => ⟨.str d.shown, H, I.kept kp, ⟨_, rfl⟩, q⟩) h4
  | non =>
    cases hd
    obtain rfl : u = Value.none := ru
    exact PySem.P.repr_of_none ⟨.str _, H, I.tok _, ⟨_, rfl⟩, by rw [PyData.shown_none] at q; exact q⟩
  | bl b =>
    cases hd
    obtain rfl : u = Value.bool b := ru
    exact PySem.P.repr_of_bool ⟨.str _, H, I.tok _, ⟨_, rfl⟩, by rw [PyData.shown_bool] at q; exact q⟩
  | int i =>
    cases hd
    obtain ⟨t, rfl⟩ := ru
    exact PySem.P.repr_of_int (by simpa [PyData.showable] using h1) ⟨.str _, H, I.tok _, ⟨_, rfl⟩, by rw [PyData.shown_int] at q; exact q⟩
  | str z =>
    cases hd
    obtain ⟨t, rfl⟩ := ru
    rw [PyData.shown_str] at q h4
    exact PySem.P.repr_of_str ⟨.str _, H, I.tok _, ⟨_, rfl⟩, q⟩ h4
  | byt b => cases hd
  | flt b => cases hd
  | ty n => cases hd
/-- the type of data -/
def tyD : PyData → String
  | .none => "NoneType"
  | .bool _ => "bool"
  | .int _ => "int"
  | .str _ => "str"
  | .list _ => "list"
  | .tuple _ => "tuple"
  | .dict _ => "dict"
theorem Dg.tyx {K : PySem.W.Frag} {v : V} {d : PyData} (h : Dg p c H v d) : TyX K H v (.type (tyD d)) := by
  cases h with
  | non => exact .base .non
  | bl b => exact .base (.bl b)
  | int i => exact .base (.int i)
  | str x => exact .base (.str x)
  | lst a _ => exact .base (.lst a.2.2)
  | tup a _ => exact .base (.tup a.2.2)
  | dic a _ => exact .base (.dK a.2.2)
def isI : PyData → Bool
  | .int _ => true
  | .bool _ => true
  | _ => false
def isB : PyData → Bool
  | .bool _ => true
  | _ => false
def isS : PyData → Bool
  | .str _ => true
  | _ => false
def isT : PyData → Bool
  | .tuple _ => true
  | _ => false
section
variable {K : PySem.W.Frag}
theorem isi_I (d : PyData) : PySem.W.kitOne K (.type (tyD d)) (.type "int") = some (isI d) := by
  cases d <;> exact kit_ty (by simp only [tyD, isI]; decide +kernel)
theorem isi_B (d : PyData) : PySem.W.kitOne K (.type (tyD d)) (.type "bool") = some (isB d) := by
  cases d <;> exact kit_ty (by simp only [tyD, isB]; decide +kernel)
theorem isi_S (d : PyData) : PySem.W.kitOne K (.type (tyD d)) (.type "str") = some (isS d) := by
  cases d <;> exact kit_ty (by simp only [tyD, isS]; decide +kernel)
theorem isi_T (d : PyData) : PySem.W.kitOne K (.type (tyD d)) (.type "tuple") = some (isT d) := by
  cases d <;> exact kit_ty (by simp only [tyD, isT]; decide +kernel)
end
end
end Ag

end
/-! ## D1 -/
section
set_option linter.all false
set_option maxRecDepth 100000
namespace Ag
open PySem PySem.Spec PyProof.Rows L2
open AutoSeq1 (wpAny_loadPart')
open MeetsSeq SeqAt
/-! ### a dict is no text and no tuple -/
theorem dctS (z : Addr) (es : Array DictEntry) (e1 : Nat) (q : Option Addr) (sl : Array (Option Value)) (b : Str) (k : Tok) :
    Meets (Builtin.«dict.__eq__» ⟨[.ref z, .str b k], []⟩) (fun _ R s => s.heap.get? z = some { cls := .type "dict", dict := q, data := .dict es e1, slots := sl } ∧ R (.ok (.ret .notImplemented)) s) :=
  .of_wp fun pr w A R s y => by
    obtain ⟨hp, g, dr, tk, os⟩ := s
    obtain ⟨hz, y⟩ := y
    have f1 := F.sub_str_dict
    wp_walk using wpAny_loadPart' hz, wpAny_load hz
    exact ⟨_, rfl, y⟩
theorem strD (b : Str) (k : Tok) (z : Addr) (es : Array DictEntry) (e1 : Nat) (q : Option Addr) (sl : Array (Option Value)) :
    Meets (Builtin.«str.__eq__» ⟨[.str b k, .ref z], []⟩) (fun _ R s => s.heap.get? z = some { cls := .type "dict", dict := q, data := .dict es e1, slots := sl } ∧ R (.ok (.ret .notImplemented)) s) :=
  .of_wp fun pr w A R s y => by
    obtain ⟨hp, g, dr, tk, os⟩ := s
    obtain ⟨hz, y⟩ := y
    wp_walk using wpAny_loadPart' hz, wpAny_load hz
    exact ⟨_, rfl, y⟩
theorem dctT (z t : Addr) (es : Array DictEntry) (e1 : Nat) (q q2 : Option Addr) (sl sl2 : Array (Option Value)) (its : Array Value) (n : Nat) :
    Meets (Builtin.«dict.__eq__» ⟨[.ref z, .ref t], []⟩) (fun _ R s => s.heap.get? z = some { cls := .type "dict", dict := q, data := .dict es e1, slots := sl } ∧ s.heap.get? t = some { cls := .type "tuple", dict := q2, data := .seq its n, slots := sl2 } ∧ R (.ok (.ret .notImplemented)) s) :=
  .of_wp fun pr w A R s y => by
    obtain ⟨hp, g, dr, tk, os⟩ := s
    obtain ⟨hz, ht, y⟩ := y
    have f1 := F.sub_tuple_dict
    wp_walk using wpAny_loadPart' hz, wpAny_load hz, wpAny_loadPart' ht, wpAny_load ht
    exact ⟨_, rfl, y⟩
theorem tupD (t z : Addr) (es : Array DictEntry) (e1 : Nat) (q q2 : Option Addr) (sl sl2 : Array (Option Value)) (its : Array Value) (n : Nat) :
    Meets (Builtin.«tuple.__eq__» ⟨[.ref t, .ref z], []⟩) (fun _ R s => s.heap.get? z = some { cls := .type "dict", dict := q, data := .dict es e1, slots := sl } ∧ s.heap.get? t = some { cls := .type "tuple", dict := q2, data := .seq its n, slots := sl2 } ∧ R (.ok (.ret .notImplemented)) s) :=
  .of_wp fun pr w A R s y => by
    obtain ⟨hp, g, dr, tk, os⟩ := s
    obtain ⟨hz, ht, y⟩ := y
    have f1 := F.sub_dict_tuple
    wp_walk using wpAny_loadPart' hz, wpAny_load hz, wpAny_loadPart' ht, wpAny_load ht
    exact ⟨_, rfl, y⟩
section
variable {A : Around} {s : Shared}
theorem eq_strD {z : Addr} {o : Obj} {es : Array DictEntry} {e1 : Nat} (b : Str) (k : Tok) (ho : s.heap.get? z = some o) (hc : o.cls = .type "dict") (hd : o.data = .dict es e1) (hu : A.units < cLine) : EqAt A s (.str b k) (.ref z) false := by
  intro pr w E Q y
  obtain ⟨cls, q, data, sl⟩ := o
  simp only at hc hd
  subst hc hd
  unfold eqBool
  refine wpAny_holding (wpAny_ite_split (fun hab => absurd (eq_of_beq hab) nofun) fun _ => ?_)
  refine wpAny_bind ?_
  refine rc_eq_decline_or (k := false) (typeIs_str s b k) ⟨_, ho, rfl⟩ (by decide) F.sub_dict_str F.slot_str_eq F.slot_dict_eq_refl ?_ ?_ ?_ (.inr hu) (wpAny_truthy_bool y)
  · exact fun _ hq => call_meets F.slot_str_eq (typeIs_str s b k) F.entry_str_eq (F.args_str_eq_2 _ _) (strD b k z es e1 q sl) ⟨ho, hq⟩
  · exact fun _ hq => call_meets F.slot_dict_eq_refl ⟨_, ho, rfl⟩ F.entry_dict_eq (F.args_dict_eq_2 _ _) (dctS z es e1 q sl b k) ⟨ho, hq⟩
  · exact fun _ hq => wpAny_of_eq (rfl : isSame (.str b k) (.ref z) = pure false) hq
theorem ne_dt {z t : Addr} {o u : Obj} (ho : s.heap.get? z = some o) (hc : o.cls = .type "dict") (hu : s.heap.get? t = some u) (hc2 : u.cls = .type "tuple") : z ≠ t := by
  rintro rfl
  rw [ho] at hu
  cases hu
  rw [hc] at hc2
  exact absurd (Value.type.inj hc2) (by decide)
theorem rc_dictT {z t : Addr} {o : Obj} {es : Array DictEntry} {e1 : Nat} {its : Array Value} (ho : s.heap.get? z = some o) (hc : o.cls = .type "dict") (hd : o.data = .dict es e1) (ht : s.heap.IsTuple t its) (hu : A.units < cLine) :
    RcAt A s (.ref z) (.ref t) false := by
  intro pr w E Q y
  obtain ⟨u, hu1, hc2, n, hd2⟩ := ht
  have ne := ne_dt ho hc hu1 hc2
  obtain ⟨cls, q, data, sl⟩ := o
  obtain ⟨cls2, q2, data2, sl2⟩ := u
  simp only at hc hd hc2 hd2
  subst hc hd hc2 hd2
  refine rc_eq_decline_or (k := false) ⟨_, ho, rfl⟩ ⟨_, hu1, rfl⟩ (by decide) F.sub_tuple_dict F.slot_dict_eq F.slot_tuple_eq_refl ?_ ?_ ?_ (.inr hu) y
  · exact fun _ hq => call_meets F.slot_dict_eq ⟨_, ho, rfl⟩ F.entry_dict_eq (F.args_dict_eq_2 _ _) (dctT z t es e1 q q2 sl sl2 its n) ⟨ho, hu1, hq⟩
  · exact fun _ hq => call_meets F.slot_tuple_eq_refl ⟨_, hu1, rfl⟩ F.entry_tuple_eq (F.args_tuple_eq_2 _ _) (tupD t z es e1 q q2 sl sl2 its n) ⟨ho, hu1, hq⟩
  · intro Q' hq
    show wpAny _ _ (if (z == t) = true then pure true else _) _ _ _
    rw [if_neg (by simpa using ne)]
    refine wpAny_bind (wpAny_load ho (wpAny_bind (wpAny_load hu1 ?_)))
    split
    · rename_i h1 h2 _ _
      simp at h1
    · exact wpAny_pure hq
end
end Ag

end
/-! ## D2 -/
section
set_option linter.all false
set_option maxRecDepth 100000
namespace Ag
open PySem PySem.Spec PyProof.Rows L2
open SX (S S_len S_cat S_inj)
open SeqAt
/-! ### comparisons of data -/
section
variable {X : Cx}
def rEqG : R2 := fun x y H Q => ∃ p c d e, Dg p c H x d ∧ Dg p c H y e ∧ SeqAt.shaped d = true ∧ SeqAt.shaped e = true ∧ Q (.bl (PyData.eqv d e)) H
def rNeG : R2 := fun x y H Q => ∃ p c d e, Dg p c H x d ∧ Dg p c H y e ∧ SeqAt.shaped d = true ∧ SeqAt.shaped e = true ∧ Q (.bl (!PyData.eqv d e)) H
theorem op_eqG (hu : X.A.units + 64 < cLine) : OpR X (compareOp .Eq) rEqG := by
  intro pins s σ H x y v u Q I rx ry h
  obtain ⟨p, c, d, e, hd, he, sd, se, q⟩ := h
  obtain ⟨as, r1, _⟩ := Dg.reads I d x v hd rx
  obtain ⟨bs, r2, _⟩ := Dg.reads I e y u he ry
  exact SeqAt.compareEq_shaped r1 r2 sd se hu ⟨.bl _, H, I, rfl, q⟩
theorem op_neG (hu : X.A.units + 64 < cLine) : OpR X (compareOp .NotEq) rNeG := by
  intro pins s σ H x y v u Q I rx ry h
  obtain ⟨p, c, d, e, hd, he, sd, se, q⟩ := h
  obtain ⟨as, r1, _⟩ := Dg.reads I d x v hd rx
  obtain ⟨bs, r2, _⟩ := Dg.reads I e y u he ry
  exact SeqAt.compareNe_shaped r1 r2 sd se hu ⟨.bl _, H, I, rfl, q⟩
/-- any data against the empty tuple -/
def isT0 : PyData → Bool
  | .tuple [] => true
  | _ => false
def ascS : PyData → Bool
  | .str x => PyData.strOk x
  | _ => true
def rEqT0 : R2 := fun x y H Q => ∃ p c d t, Dg p c H x d ∧ ascS d = true ∧ y = .ref t ∧ H t = some (.tup []) ∧ Q (.bl (isT0 d)) H
theorem op_eqT0 (hu : X.A.units + 64 < cLine) : OpR X (compareOp .Eq) rEqT0 := by
  intro pins s σ H x y v u Q I rx ry h
  obtain ⟨p, c, d, t, hd, ha, rfl, ht, q⟩ := h
  cases ry
  obtain ⟨its, rv, hT, _⟩ := I.tuple (SqT.of ht)
  cases rv
  have hz : Reads s.heap (.ref t) (.tuple []) [] := by
    obtain ⟨o, ho, hc, n, hdt⟩ := hT
    exact .tuple ho hc hdt .nil
  have flat : ∀ (d : PyData), Dg p c H x d → d.canLay0 = true → d.depth = 0 → PyData.eqv d (.tuple []) = false → Q (.bl false) H → wpAny (model X.prog X.w) X.A (compareOp .Eq v (.ref t)) (EP X pins σ Q) X.xe s := by
    intro d hd hl h0 he q
    obtain ⟨as, r1, _⟩ := Dg.reads I d x v hd rx
    refine SeqAt.compareEq_reads r1 hz hl rfl (by rw [h0, Nat.zero_min]; omega) ?_
    rw [he]
    exact ⟨.bl _, H, I, rfl, q⟩
  have hu0 : X.A.units < cLine := by omega
  cases d with
  | none => exact flat _ hd rfl rfl rfl q
  | bool b => exact flat _ hd rfl rfl rfl q
  | int i => exact flat _ hd rfl rfl rfl q
  | str z => exact flat _ hd ha rfl rfl q
  | list ds =>
    cases hd with
    | lst a b =>
      cases rx
      obtain ⟨its2, rv2, hL, _⟩ := I.list (SqL.of a.2.2)
      exact RcAt.list_tuple hL.isList hT hu0 _ _ _ _ ⟨.bl _, H, I, rfl, q⟩
  | dict ds =>
    cases hd with
    | dic a b =>
      cases rx
      obtain ⟨_, _, vs, _, o, es, ep, ho, hex, hdt, _⟩ := I.hok _ _ a.2.2
      exact rc_dictT ho hex.1 hdt hT hu0 _ _ _ _ ⟨.bl _, H, I, rfl, q⟩
  | tuple ds =>
    cases hd with
    | tup a b =>
      cases rx
      obtain ⟨its2, rv2, hT2, _⟩ := I.tuple (SqT.of a.2.2)
      refine RcAt.tuples (e := fun _ => false) hT2 hT hu0 (fun j _ h2 => by simp at h2) _ _ _ _ ?_
      have hl : its2.length = ds.length := by rw [← rv2.length]; exact b.len
      have e : (((List.range (min its2.toArray.size (#[] : Array Value).size)).all fun _ => false) && its2.toArray.size == (#[] : Array Value).size) = isT0 (.tuple ds) := by
        cases ds with
        | nil =>
          cases its2 with
          | nil => rfl
          | cons _ _ => simp at hl
        | cons _ _ =>
          cases its2 with
          | nil => simp at hl
          | cons _ _ => simp [isT0]
      refine ⟨.bl _, H, I, rfl, ?_⟩
      rw [e]
      exact q
/-- any data in a tuple of two texts -/
def eqSD (a : Str) : PyData → Bool
  | .str x => a == x
  | _ => false
def is2 (a b : Str) (d : PyData) : Bool := eqSD a d || eqSD b d
def eqVD (d : PyData) : Value → Bool
  | .str a _ => eqSD a d
  | _ => false
def rNotIn2 : R2 := fun x y H Q => ∃ p c d t a b, Dg p c H x d ∧ y = .ref t ∧ H t = some (.tup [.str a, .str b]) ∧ Q (.bl (!is2 a b d)) H
theorem eq_str_any {pins : List (Addr × Obj)} {σ : L2.St} {H : Hp} {s : Shared} {p c : Addr} (hu : X.A.units + 64 < cLine) (I : Inv X pins σ H s) {x : V} {v : Value} {d : PyData} (hd : Dg p c H x d) (rx : RelV x v) (a : Str) (k : Tok) :
    EqAt X.A.in1 s (.str a k) v (eqSD a d) := by
  have hu0 : X.A.in1.units < cLine := by show X.A.units + 1 < cLine; omega
  cases hd with
  | non => cases rx; exact EqAt.str_none a k
  | bl b => cases rx; exact EqAt.str_bool a k b
  | int i => obtain ⟨t, rfl⟩ := rx; exact EqAt.str_int a k i t
  | str z => obtain ⟨t, rfl⟩ := rx; exact EqAt.str_str a k z t
  | lst e _ =>
    cases rx
    obtain ⟨its2, rv2, hL, _⟩ := I.list (SqL.of e.2.2)
    exact EqAt.str_list a k hL.isList hu0
  | tup e _ =>
    cases rx
    obtain ⟨its2, rv2, hL, _⟩ := I.tuple (SqT.of e.2.2)
    exact EqAt.str_tuple a k hL hu0
  | dic e _ =>
    cases rx
    obtain ⟨_, _, vs, _, o, es, ep, ho, hex, hdt, _⟩ := I.hok _ _ e.2.2
    exact eq_strD a k ho hex.1 hdt hu0
theorem op_notIn2 (hu : X.A.units + 64 < cLine) : OpR X (compareOp .NotIn) rNotIn2 := by
  intro pins s σ H x y v u Q I rx ry h
  obtain ⟨p, c, d, t, a, b, hd, rfl, ht, q⟩ := h
  cases ry
  obtain ⟨its, rv, hT, _⟩ := I.tuple (SqT.of ht)
  cases rv with
  | cons ra rt =>
    cases rt with
    | cons rb rt =>
      cases rt
      obtain ⟨ta, rfl⟩ := ra
      obtain ⟨tb, rfl⟩ := rb
      refine notIn_tupleAt (eqVD d) hT (fun y hy => ?_) ⟨.bl _, H, I, rfl, ?_⟩
      · have hy : y = .str a ta ∨ y = .str b tb := by simpa using hy
        rcases hy with rfl | rfl
        · exact eq_str_any hu I hd rx a ta
        · exact eq_str_any hu I hd rx b tb
      · have e : ([Value.str a ta, Value.str b tb] : List Value).toArray.any (eqVD d) = is2 a b d := by
          rw [← Array.any_toList]
          simp [is2, eqVD]
        show Q (.bl (!Array.any _ _)) H
        rw [e]
        exact q
end
end Ag

end
/-! ## D3 -/
section
set_option linter.all false
set_option maxRecDepth 100000
namespace Ag
open PySem PySem.Spec PyProof.Rows L2
open SX (S S_len S_cat S_inj)
theorem numLen {k n : Nat} (hk : 1 ≤ k) (h : n < 10 ^ k) : (numL n).length ≤ k := TL.numL_len hk h
theorem toStrN (n : Nat) : (Str.ofString (toString ((n : Nat) : Int))) = S (numL n) := SX.num_S n
/-! ### good data: ascii texts, ints from -1 below 10 ** 40, short tuples; q: dicts and no lists, not q: lists and no dicts -/
def intOk (i : Int) : Bool := decide (-1 ≤ i) && decide (i < 10 ^ 40)
def strOkB (x : Str) : Bool := x.cps.toList.all (· < 128) && decide (x.cps.size ≤ 9000)
mutual
def okV (q : Bool) : PyData → Bool
  | .none => true
  | .bool _ => true
  | .int i => intOk i
  | .str x => strOkB x
  | .list xs => !q && okVA q xs
  | .tuple xs => decide (xs.length ≤ 60) && okVA q xs
  | .dict kvs => q && okVK q kvs
def okVA (q : Bool) : List PyData → Bool
  | [] => true
  | x :: xs => okV q x && okVA q xs
def okVK (q : Bool) : List (PyData × PyData) → Bool
  | [] => true
  | (k, v) :: r => okV q k && okV q v && okVK q r
end
theorem int_good {i : Int} (h : intOk i = true) : i.natAbs.log2 < 1920 ∧ (PyData.int i).shown.length ≤ 60 := by
  simp only [intOk, Bool.and_eq_true, decide_eq_true_eq] at h
  obtain ⟨h1, h2⟩ := h
  rw [PyData.shown_int]
  by_cases h0 : 0 ≤ i
  · obtain ⟨n, rfl⟩ := Int.eq_ofNat_of_zero_le h0
    have hn : n < 10 ^ 40 := by omega
    refine ⟨?_, ?_⟩
    · rw [Int.natAbs_natCast]
      by_cases z : n = 0
      · subst z; decide
      · exact (Nat.log2_lt z).mpr (Nat.lt_of_lt_of_le hn (by decide +kernel))
    · rw [toStrN, S_len]
      have := numLen (k := 40) (by decide) hn
      omega
  · have : i = -1 := by omega
    subst this
    decide +kernel
theorem str_good {x : Str} (h : strOkB x = true) : PyData.strOk x = true ∧ (PyData.str x).leavesShort 60 = true := by
  simp only [strOkB, Bool.and_eq_true, List.all_eq_true, decide_eq_true_eq] at h
  refine ⟨?_, ?_⟩
  · unfold PyData.strOk
    rw [← Array.all_toList, List.all_eq_true]
    intro c hc
    have := h.1 c hc
    simp
    omega
  · simp only [PyData.leavesShort]
    rw [List.all_eq_true]
    intro c hc
    have := h.1 c hc
    simp
    omega
mutual
theorem okV_show {q : Bool} : ∀ d : PyData, okV q d = true → d.showable = true ∧ d.leavesShort 60 = true ∧ (q = true → noL d = true) ∧ (q = false → d.hasDict = false) ∧ (q = false → d.canLay0 = true)
  | .none, _ => by simp [PyData.showable, PyData.hasDict, noL, PyData.canLay0, PyData.leavesShort]
  | .bool _, _ => by simp [PyData.showable, PyData.hasDict, noL, PyData.canLay0, PyData.leavesShort]
  | .int i, h => by
    have := int_good (by simpa only [okV] using h)
    simp only [PyData.showable, PyData.hasDict, noL, PyData.canLay0, PyData.leavesShort, decide_eq_true_eq]
    exact ⟨this.1, this.2, fun _ => trivial, fun _ => trivial, fun _ => trivial⟩
  | .str x, h => by
    obtain ⟨h1, h2⟩ := str_good (by simpa only [okV] using h)
    exact ⟨by simp only [PyData.showable], h2, fun _ => by simp only [noL], fun _ => by simp only [PyData.hasDict], fun _ => by simp only [PyData.canLay0]; exact h1⟩
  | .list xs, h => by
    simp only [okV, Bool.and_eq_true, Bool.not_eq_true'] at h
    obtain ⟨h0, h⟩ := h
    subst h0
    obtain ⟨a, b, _, c, d⟩ := okVA_show xs h
    refine ⟨by simpa only [PyData.showable] using a, by simpa only [PyData.leavesShort] using b, fun z => absurd z (by decide), fun z => ?_, fun z => ?_⟩
    · simpa only [PyData.hasDict] using c z
    · simpa only [PyData.canLay0] using d z
  | .tuple xs, h => by
    simp only [okV, Bool.and_eq_true] at h
    have := okVA_show xs h.2
    simpa only [PyData.showable, PyData.hasDict, noL, PyData.canLay0, PyData.leavesShort] using this
  | .dict kvs, h => by
    simp only [okV, Bool.and_eq_true] at h
    obtain ⟨h0, h⟩ := h
    subst h0
    obtain ⟨a, b, c⟩ := okVK_show kvs h
    refine ⟨by simpa only [PyData.showable] using a, by simpa only [PyData.leavesShort] using b, fun z => ?_, fun z => absurd z (by decide), fun z => absurd z (by decide)⟩
    simpa only [noL] using c z
theorem okVA_show {q : Bool} : ∀ xs : List PyData, okVA q xs = true → PyData.showableAll xs = true ∧ PyData.leavesShortAll 60 xs = true ∧ (q = true → noLA xs = true) ∧ (q = false → PyData.hasDictAll xs = false) ∧ (q = false → PyData.canLayAll0 xs = true)
  | [], _ => by simp [PyData.showableAll, PyData.hasDictAll, noLA, PyData.canLayAll0, PyData.leavesShortAll]
  | x :: xs, h => by
    simp only [okVA, Bool.and_eq_true] at h
    obtain ⟨a1, a2, a3, a4, a5⟩ := okV_show x h.1
    obtain ⟨b1, b2, b3, b4, b5⟩ := okVA_show xs h.2
    simp only [PyData.showableAll, PyData.hasDictAll, noLA, PyData.canLayAll0, PyData.leavesShortAll, a1, a2, b1, b2]
    exact ⟨rfl, rfl, fun z => by rw [a3 z, b3 z]; rfl, fun z => by rw [a4 z, b4 z]; rfl, fun z => by rw [a5 z, b5 z]; rfl⟩
theorem okVK_show {q : Bool} : ∀ xs : List (PyData × PyData), okVK q xs = true → PyData.showableKv xs = true ∧ PyData.leavesShortKv 60 xs = true ∧ (q = true → noLK xs = true)
  | [], _ => by simp [PyData.showableKv, noLK, PyData.leavesShortKv]
  | (k, v) :: xs, h => by
    simp only [okVK, Bool.and_eq_true] at h
    obtain ⟨a1, a2, a3, a4, a5⟩ := okV_show k h.1.1
    obtain ⟨c1, c2, c3, c4, c5⟩ := okV_show v h.1.2
    obtain ⟨b1, b2, b3⟩ := okVK_show xs h.2
    simp only [PyData.showableKv, noLK, PyData.leavesShortKv, a1, a2, b1, b2, c1, c2]
    exact ⟨rfl, rfl, fun z => by rw [c3 z, b3 z]; rfl⟩
end
structure Gd (q : Bool) (d : PyData) (n b : Nat) : Prop where
  ok : okV q d = true
  dp : d.depth ≤ n
  bk : d.bulk ≤ b
structure GdA (q : Bool) (ds : List PyData) (n b : Nat) : Prop where
  ok : okVA q ds = true
  dp : PyData.depthAll ds ≤ n
  bk : PyData.bulkAll ds ≤ b
theorem Gd.mono {q : Bool} {d : PyData} {n m b c : Nat} (h : Gd q d n b) (hn : n ≤ m) (hb : b ≤ c) : Gd q d m c := ⟨h.ok, Nat.le_trans h.dp hn, Nat.le_trans h.bk hb⟩
theorem GdA.mono {q : Bool} {d : List PyData} {n m b c : Nat} (h : GdA q d n b) (hn : n ≤ m) (hb : b ≤ c) : GdA q d m c := ⟨h.ok, Nat.le_trans h.dp hn, Nat.le_trans h.bk hb⟩
theorem Gd.fit {q : Bool} {d : PyData} {n b : Nat} (h : Gd q d n b) (hn : n ≤ 60) (hb : b ≤ 100000) : d.showable = true ∧ (d.hasDict = true → noL d = true) ∧ d.depth ≤ 64 ∧ d.shown.length ≤ sizeLine := by
  obtain ⟨a1, a2, a3, a4, _⟩ := okV_show d h.ok
  refine ⟨a1, fun z => ?_, by have := h.dp; omega, ?_⟩
  · cases q with
    | true => exact a3 rfl
    | false => rw [a4 rfl] at z; cases z
  · have h1 := PyData.shown_le_bulk 60 (by decide) d a2
    have h2 : d.bulk ≤ 100000 := Nat.le_trans h.bk hb
    rw [sizeLine_eq]
    omega
theorem Gd.shaped {d : PyData} {n b : Nat} (h : Gd false d n b) (hn : n ≤ 60) : SeqAt.shaped d = true := by
  unfold SeqAt.shaped
  rw [(okV_show d h.ok).2.2.2.2 rfl, decide_eq_true (by have := h.dp; omega)]
  rfl
theorem Gd.asc {q : Bool} {d : PyData} {n b : Nat} (h : Gd q d n b) : ascS d = true := by
  cases d with
  | str x => exact (str_good (by simpa only [okV] using h.ok)).1
  | _ => rfl
theorem GdA.nil {q : Bool} {n b : Nat} : GdA q [] n b := ⟨by simp [okVA], by simp [PyData.depthAll], by simp [PyData.bulkAll]⟩
theorem GdA.cons {q : Bool} {d : PyData} {ds : List PyData} {n b b1 b2 : Nat} (h : Gd q d n b1) (k : GdA q ds n b2) (hb : b1 + b2 + 1 ≤ b) : GdA q (d :: ds) n b := by
  refine ⟨?_, ?_, ?_⟩
  · simp only [okVA, h.ok, k.ok]
    rfl
  · simp only [PyData.depthAll]
    have := h.dp
    have := k.dp
    omega
  · simp only [PyData.bulkAll]
    have := h.bk
    have := k.bk
    omega
theorem Gd.tup {q : Bool} {ds : List PyData} {n b : Nat} (h : GdA q ds n b) (hl : ds.length ≤ 60) : Gd q (.tuple ds) (n + 1) b := by
  refine ⟨?_, ?_, ?_⟩
  · simp only [okV, h.ok, decide_eq_true hl]
    rfl
  · simp only [PyData.depth]
    have := h.dp
    omega
  · simp only [PyData.bulk]
    exact h.bk
theorem Gd.lst {ds : List PyData} {n b : Nat} (h : GdA false ds n b) : Gd false (.list ds) (n + 1) b := by
  refine ⟨?_, ?_, ?_⟩
  · simp only [okV, h.ok]
    rfl
  · simp only [PyData.depth]
    have := h.dp
    omega
  · simp only [PyData.bulk]
    exact h.bk
theorem Gd.untup {q : Bool} {ds : List PyData} {n b : Nat} (h : Gd q (.tuple ds) n b) : GdA q ds (n - 1) b ∧ ds.length ≤ 60 := by
  have h1 := h.ok
  simp only [okV, Bool.and_eq_true, decide_eq_true_eq] at h1
  have h2 := h.dp
  simp only [PyData.depth] at h2
  have h3 := h.bk
  simp only [PyData.bulk] at h3
  exact ⟨⟨h1.2, by omega, h3⟩, h1.1⟩
theorem GdA.hd {q : Bool} {d : PyData} {ds : List PyData} {n b : Nat} (h : GdA q (d :: ds) n b) : Gd q d n b ∧ GdA q ds n b := by
  have h1 := h.ok
  simp only [okVA, Bool.and_eq_true] at h1
  have h2 := h.dp
  simp only [PyData.depthAll] at h2
  have h3 := h.bk
  simp only [PyData.bulkAll] at h3
  exact ⟨⟨h1.1, by omega, by omega⟩, ⟨h1.2, by omega, by omega⟩⟩
theorem GdA.mem {q : Bool} {n b : Nat} : ∀ {ds : List PyData}, GdA q ds n b → ∀ d ∈ ds, Gd q d n b
  | [], _, d, hd => by cases hd
  | x :: xs, h, d, hd => by
    rcases List.mem_cons.mp hd with rfl | hd
    · exact h.hd.1
    · exact GdA.mem h.hd.2 d hd
theorem bulk_app : ∀ (xs ys : List PyData), PyData.bulkAll (xs ++ ys) = PyData.bulkAll xs + PyData.bulkAll ys
  | [], ys => by simp [PyData.bulkAll]
  | x :: xs, ys => by
    rw [List.cons_append]
    simp only [PyData.bulkAll, bulk_app xs ys]
    omega
theorem GdA.app {q : Bool} {n b1 b2 b : Nat} : ∀ {xs ys : List PyData}, GdA q xs n b1 → GdA q ys n b2 → b1 + b2 ≤ b → GdA q (xs ++ ys) n b := by
  intro xs ys h k hb
  have hk := k.bk
  have hh := h.bk
  refine ⟨?_, ?_, by rw [bulk_app]; omega⟩
  · have h1 := h.ok
    clear h hh
    induction xs with
    | nil => exact k.ok
    | cons x xs ih =>
      simp only [okVA, Bool.and_eq_true] at h1
      rw [List.cons_append]
      simp only [okVA, h1.1, ih h1.2]
      rfl
  · have h1 := h.dp
    clear h hh
    induction xs with
    | nil => exact k.dp
    | cons x xs ih =>
      simp only [PyData.depthAll] at h1
      rw [List.cons_append]
      simp only [PyData.depthAll]
      have := ih (by omega)
      omega
theorem GdA.take {q : Bool} {n b : Nat} : ∀ {xs : List PyData} (m : Nat), GdA q xs n b → GdA q (xs.take m) n b := by
  intro xs m h
  have e := bulk_app (xs.take m) (xs.drop m)
  rw [List.take_append_drop] at e
  have hb := h.bk
  refine ⟨?_, ?_, by omega⟩
  · have h1 := h.ok
    clear h e hb
    induction xs generalizing m with
    | nil => simpa using h1
    | cons x xs ih =>
      cases m with
      | zero => simp [okVA]
      | succ m =>
        simp only [okVA, Bool.and_eq_true] at h1
        rw [List.take_succ_cons]
        simp only [okVA, h1.1, ih m h1.2]
        rfl
  · have h1 := h.dp
    clear h e hb
    induction xs generalizing m with
    | nil => simpa using h1
    | cons x xs ih =>
      cases m with
      | zero => simp [PyData.depthAll]
      | succ m =>
        simp only [PyData.depthAll] at h1
        rw [List.take_succ_cons]
        simp only [PyData.depthAll]
        have := ih m (by omega)
        omega
theorem GdA.drop {q : Bool} {n b : Nat} : ∀ {xs : List PyData} (m : Nat), GdA q xs n b → GdA q (xs.drop m) n b
  | _, 0, h => h
  | [], _ + 1, h => by simpa using h
  | _ :: xs, m + 1, h => by
    rw [List.drop_succ_cons]
    exact GdA.drop m h.hd.2
theorem GdA.rev {q : Bool} {n b : Nat} : ∀ {xs : List PyData}, GdA q xs n b → GdA q xs.reverse n b := by
  intro xs h
  have key : ∀ xs : List PyData, okVA q xs = true → PyData.depthAll xs ≤ n → GdA q xs.reverse n (PyData.bulkAll xs) := by
    intro xs
    induction xs with
    | nil => exact fun _ _ => .nil
    | cons x xs ih =>
      intro h1 h2
      simp only [okVA, Bool.and_eq_true] at h1
      simp only [PyData.depthAll] at h2
      rw [List.reverse_cons]
      simp only [PyData.bulkAll]
      exact (ih h1.2 (by omega)).app (b2 := x.bulk + 1) (.cons (b1 := x.bulk) (b2 := 0) ⟨h1.1, by omega, Nat.le_refl _⟩ .nil (by omega)) (by omega)
  exact (key xs h.ok h.dp).mono (Nat.le_refl _) h.bk
theorem Gd.non {q : Bool} {n b : Nat} : Gd q .none n b := ⟨by simp [okV], by simp [PyData.depth], by simp [PyData.bulk]⟩
theorem Gd.bl {q c : Bool} {n b : Nat} : Gd q (.bool c) n b := ⟨by simp [okV], by simp [PyData.depth], by simp [PyData.bulk]⟩
theorem Gd.int {q : Bool} {i : Int} {n b : Nat} (h : intOk i = true) : Gd q (.int i) n b := ⟨by simp [okV, h], by simp [PyData.depth], by simp [PyData.bulk]⟩
theorem Gd.str {q : Bool} {x : Str} {n b : Nat} (h : strOkB x = true) (hb : x.cps.size ≤ b) : Gd q (.str x) n b := ⟨by simp [okV, h], by simp [PyData.depth], by simp [PyData.bulk]; exact hb⟩
theorem S_toList (x : Str) : S x.cps.toList = x := rfl
theorem Gd.strL {q : Bool} {l : List Nat} {n b : Nat} (h : l.all (· < 128) = true) (h2 : l.length ≤ 300) (hb : l.length ≤ b) : Gd q (.str (S l)) n b := by
  refine .str ?_ (by rw [show (S l).cps.size = l.length from List.size_toArray ..]; exact hb)
  simp only [strOkB, Bool.and_eq_true, decide_eq_true_eq]
  exact ⟨h, by rw [show (S l).cps.size = l.length from List.size_toArray ..]; exact Nat.le_trans h2 (by decide)⟩
theorem Gd.strlen {q : Bool} {x : Str} {n b : Nat} (h : Gd q (.str x) n b) : x.cps.toList.all (· < 128) = true ∧ x.cps.toList.length ≤ 9000 := by
  have := h.ok
  simp only [okV, strOkB, Bool.and_eq_true, decide_eq_true_eq] at this
  exact ⟨this.1, by rw [Array.length_toList]; exact this.2⟩
end Ag

end
/-! ## SetD -/
section
set_option linter.all false
set_option maxRecDepth 100000
namespace Ag
open PySem PySem.Spec PyProof.Rows L2
/-! ### set(xs) of a list of any texts, its length -/
/-- how many unlike ones among the first i -/
def dnT (ks : List Str) : Nat → Nat
  | 0 => 0
  | i + 1 => match ks[i]? with
    | some k => if decide (k ∈ ks.take i) = true then dnT ks i else dnT ks i + 1
    | none => dnT ks i
theorem dnT_le (ks : List Str) : ∀ i, dnT ks i ≤ i
  | 0 => Nat.le_refl _
  | i + 1 => by
    have := dnT_le ks i
    show (match ks[i]? with | some k => if decide (k ∈ ks.take i) = true then dnT ks i else dnT ks i + 1 | none => dnT ks i) ≤ i + 1
    split
    · split
      · exact Nat.le_succ_of_le this
      · exact Nat.succ_le_succ this
    · exact Nat.le_succ_of_le this
section
variable {P : Program} {w : World} {A : Around}
/-- the first i texts are in the set -/
abbrev InD (P : Program) (w : World) (h : Heap) (S : Addr) (ks : List Str) (i : Nat) : Prop := h.SetOf (strKind P w) S (fun k => decide (k ∈ ks.take i)) (dnT ks i)
theorem InD.at_ {h h' : Heap} {S : Addr} {ks : List Str} {i : Nat} (q : InD P w h S ks i) (k : ∀ o, h.get? S = some o → h'.get? S = some o) : InD P w h' S ks i := by
  obtain ⟨o, es, ep, tb, ho, r⟩ := q
  exact ⟨o, es, ep, tb, k o ho, r⟩
theorem fillD {I S : Addr} {fp wr : List Addr} {G : Array GenState → Array GenState → Prop} {n : Nat} {Pv : Nat → Value → Prop} {St : Nat → Shared → Prop} {R : Result → Shared → Prop} {ks : List Str}
    (W : WalksS P w A.in1 I fp wr G n Pv St) (nS : S ∉ fp) (hn : ks.length = n) (hb : n + 1 < scanBound) (hv : ∀ i v, Pv i v → ∃ k t, ks[i]? = some k ∧ v = .str k t) (m : Nat) :
    ∀ (i : Nat) (s : Shared), i + m = n → St i s → InD P w s.heap S ks i → (∀ s', Moved (S :: wr) G s s' → InD P w s'.heap S ks n → R (.ok (.ret .none)) s') → codeAny (model P w) A (.builtin "set.update.loop" ⟨[.ref S, .ref I], []⟩) R s := by
  have nW : S ∉ wr := fun z => nS (W.sub _ z)
  have more : ∀ b ∈ wr, b ∈ S :: wr := fun b z => List.mem_cons_of_mem _ z
  induction m with
  | zero =>
    rintro i s rfl st q fin
    refine codeAny_builtin F.entry_set_update_loop (by
      rw [Around.under_plainId F.plain_set_update_loop _]
      exact show wpAny _ A.in1 (pyNext (.ref I) >>= _) _ _ s from wpAny_bind (W.done s _ _ st fun s' mv => show wpAny _ A.in1 (ret Value.none) _ _ s' from wpAny_pure (fin s' (mv.mono more) (q.at_ fun o e => mv.heap S o nW e))))
  | succ m ih =>
    rintro i s hi st q fin
    have lt : i < n := by omega
    refine codeAny_builtin F.entry_set_update_loop ?_
    rw [Around.under_plainId F.plain_set_update_loop _]
    refine show wpAny _ A.in1 (pyNext (.ref I) >>= _) _ _ s from wpAny_bind (W.item i s _ _ lt st fun v s1 pv st1 mv => ?_)
    obtain ⟨k, t, hk, rfl⟩ := hv i v pv
    have q1 := q.at_ fun o e => mv.heap S o nW e
    refine show wpAny _ A.in1 (holding [Value.str k t] (setAdd S (.str k t)) >>= _) _ _ s1 from wpAny_bind (wpAny_holding ?_)
    unfold setAdd
    refine wpAny_holding (wpAny_bind ((strKind P w).pyHash (k := k) (strKind_is _ _ _ _) (wpAny_setAddHashed_of (knd := strKind P w) (s := { s1 with toks := s1.toks + 1 }) (strKind_is _ _ _ _) rfl q1 (by have := dnT_le ks i; omega) fun h' but q2 => ?_)))
    have q3 : InD P w h' S ks (i + 1) := SetOf_congr q2 (fun j => by
      rw [List.take_add_one, hk]
      simp [List.mem_append]) (by show _ = dnT ks (i + 1); simp only [dnT, hk])
    have out : ∀ b o, b ≠ S → s1.heap.get? b = some o → h'.get? b = some o := fun b o z e => (but.2 b z).trans e
    refine wpAny_pure ⟨plainId_quiet F.plain_set_update_loop _, ih (i + 1) _ (by omega) (W.frame _ s1 _ _ st1 (Nat.le_succ _) fun b z o e => out b o (fun y => nS (y ▸ z)) e) q3 fun s2 mv2 q4 => ?_⟩
    exact fin s2 (Moved.trans W.gtrans ((mv.mono more).then_heap (Nat.le_succ _) fun b o z e => out b o (fun y => z (y ▸ List.mem_cons_self)) e) mv2) q4
end
theorem txt_atD : ∀ {vs : List Value} {ks : List Str}, StrsAre vs ks → ∀ (i : Nat) (v : Value), vs[i]? = some v → ∃ k t, ks[i]? = some k ∧ v = .str k t
  | _, _, .nil, i, v, e => by simp at e
  | _, _, .cons x t r, 0, v, e => ⟨x, t, rfl, (Option.some.inj e).symm⟩
  | _, _, .cons x t r, i + 1, v, e => txt_atD r i v e
section
variable {P : Program} {w : World} {A : Around} {E : Value → Shared → Prop} {s : Shared}
/-- a set's object as it is made -/
abbrev nilSetD (w : World) : Obj := { cls := .type "set", dict := none, data := .set #[] 0 (.fresh 0 0 (!w.params.followText "set-order")) }
set_option maxHeartbeats 3200000 in
theorem set_txtD {l : Addr} {its : Array Value} (ks : List Str) {Q : Value → Shared → Prop} (hh : A.handled = none) (hl : s.heap.IsList l its) (hit : StrsAre its.toList ks) (hb : ks.length + 1 < scanBound)
    (fin : ∀ (h' : Heap) (tk : Nat), InD P w h' s.heap.objs.size ks ks.length → (∀ b o, s.heap.get? b = some o → h'.get? b = some o) → Q (.ref s.heap.objs.size) { s with heap := h', toks := tk }) :
    wpAny (model P w) A (call (.type "set") [.ref l]) Q E s := by
  have esz : its.size = ks.length := by
    have q := StrsAre.len_eq hit
    rwa [Array.length_toList] at q
  obtain ⟨cc, tl, m0⟩ := F.called_set.mro
  have m1 := F.called_set.made
  have m2 := F.called_set.sub
  refine wpAny_call (codeAny_of_tree (show wpAny _ _ (callAny (.type "set") _) _ _ _ from wpAny_pure ⟨Code.quiet_builtin _ (by decide +kernel), codeAny_builtin F.entry_type_call ?_⟩))
  rw [Around.under_plain (weight_type_call_type "set" [.ref l] []) rfl]
  have m3 := F.called_set.notType
  have m4 := F.called_set.canCreate
  have m5 := F.typeCall_set_1 (.ref l)
  repeat (any_goals (first | assumption | wp_step))
  refine codeAny_mono (code_set_led1 (.ref l) (E := E) (Q₁ := fun ob s1 => ob = .ref s.heap.objs.size ∧ s1 = { s with heap := s.heap.push (nilSetD w) }) ⟨rfl, rfl⟩) fun r s1 hr => ?_
  match r, hr with
  | .error e, hr => exact hr
  | .ok .next, hr => exact hr.elim
  | .ok .brk, hr => exact hr.elim
  | .ok .cont, hr => exact hr.elim
  | .ok (.ret ob), hr =>
    obtain ⟨rfl, rfl⟩ := hr
    have g1 : (s.heap.push (nilSetD w)).get? s.heap.objs.size = some (nilSetD w) := Heap.get?_push_size _ rfl
    have g2 : Shared.TypeIs { s with heap := s.heap.push (nilSetD w) } (.ref s.heap.objs.size) "set" := ⟨_, g1, rfl⟩
    have m6 := F.called_set.init.lookup
    have m7 := F.called_set.init.bind (.ref s.heap.objs.size)
    repeat (any_goals (first | assumption | wp_step))
    refine codeAny_mono (codeAny_call_builtin (R := wants (fun r s2 => r = .none ∧ ∃ h' tk, s2 = { s with heap := h', toks := tk } ∧ InD P w h' s.heap.objs.size ks ks.length ∧
        (∀ b o, s.heap.get? b = some o → h'.get? b = some o)) E) F.called_set.init.plain F.entry_set_init (check_set_init_1 g2 ?_)) fun r2 s2 hr2 => ?_
    · obtain ⟨ol, e1, e2, nl, e3⟩ := hl
      obtain ⟨k1, k2, k3, k4⟩ := ol
      simp only at e2 e3
      subst e2 e3
      have g3 : (s.heap.push (nilSetD w)).get? l = some { cls := .type "list", dict := k2, data := .seq its nl, slots := k4 } := Heap.get?_push_of_some _ e1
      have m8 := F.sub_list_set
      have m9 := F.sub_list_frozenset
      have ma : (Value.type "list" == Value.type "dict") = false := by decide
      have hl1 : (s.heap.push (nilSetD w)).IsList l its := ⟨_, g3, rfl, nl, rfl⟩
      unfold Builtin.«set.__init__» noKeywords Builtin.Frozenset.updateFrom
      generalize hPI : pyIter = PI
      wp_walk
      subst hPI
      refine wpAny_pyIter_list hl1 (wpAny_bind (wpAny_runValue ?_))
      have lt := Heap.lt_size e1
      have hh3 : A.in1.in1.in1.handled = none := by simp [hh]
      have nI : l ≠ (s.heap.push (nilSetD w)).objs.size := by
        rw [Heap.size_push]
        exact Nat.ne_of_lt (Nat.lt_succ_of_lt lt)
      have nS : s.heap.objs.size ∉ [(s.heap.push (nilSetD w)).objs.size, l] := by
        rw [Heap.size_push]
        intro z
        rcases List.mem_cons.mp z with z | z
        · exact Nat.ne_of_lt (Nat.lt_succ_self _) z
        · exact Nat.ne_of_gt lt (List.mem_singleton.mp z)
      have vals : ∀ (i : Nat) (v : Value), its[i]? = some v → ∃ k t, ks[i]? = some k ∧ v = .str k t := fun i v hv => txt_atD hit i v (by rw [Array.getElem?_toList]; exact hv)
      refine fillD ((Walks.list hh3 _ l nI its).toS) nS esz.symm (by omega) vals its.size 0 _ (by omega) ⟨⟨_, Heap.get?_push_size _ rfl, rfl, rfl⟩, (hl1.push _)⟩ ?_ ?_
      · exact SetOf_congr ((setObjOf_fresh (knd := strKind P w) _).setOf (Heap.get?_push_of_some _ g1) (by unfold scanBound; omega)) (fun _ => rfl) rfl
      · intro s' hm hS'
        obtain ⟨h', q1, q2, tk', q3⟩ := s'
        obtain rfl : q1 = s.gens := hm.gens
        obtain rfl : q2 = s.drawn := hm.drawn
        obtain rfl : q3 = s.os := hm.os
        rw [esz] at hS'
        refine show wpAny _ _ _ _ _ _ from wpAny_pure (show wpAny _ _ (ret Value.none) _ _ _ from wpAny_pure ⟨rfl, h', tk', rfl, hS', fun b o e => ?_⟩)
        have b0 : b < s.heap.objs.size := Heap.lt_size e
        refine hm.heap b o ?_ (Heap.get?_push_of_some _ (Heap.get?_push_of_some _ e))
        rw [Heap.size_push]
        intro z
        rcases List.mem_cons.mp z with z | z
        · exact Nat.ne_of_lt b0 z
        · exact Nat.ne_of_lt (Nat.lt_succ_of_lt b0) (List.mem_singleton.mp z)
    · match r2, hr2 with
      | .error e, hr2 => exact hr2
      | .ok .next, hr2 => exact hr2.elim
      | .ok .brk, hr2 => exact hr2.elim
      | .ok .cont, hr2 => exact hr2.elim
      | .ok (.ret r), hr2 =>
        obtain ⟨rfl, h', tk, rfl, a1, a3⟩ := hr2
        repeat (any_goals (first | assumption | wp_step))
        exact fin _ _ a1 a3
end
/-- whether all are unlike -/
theorem dnT_full (ks : List Str) : ∀ i, i ≤ ks.length → (dnT ks i = i ↔ (ks.take i).Nodup)
  | 0, _ => by simp [dnT]
  | i + 1, h => by
    have h' : i < ks.length := h
    have hk : ks[i]? = some ks[i] := List.getElem?_eq_getElem h'
    have ih := dnT_full ks i (Nat.le_of_lt h')
    have le := dnT_le ks i
    have e : dnT ks (i + 1) = if decide (ks[i] ∈ ks.take i) = true then dnT ks i else dnT ks i + 1 := by simp only [dnT, hk]
    rw [e, List.take_add_one, hk]
    by_cases hm : ks[i] ∈ ks.take i
    · rw [if_pos (decide_eq_true hm)]
      refine ⟨fun z => by omega, fun z => ?_⟩
      exact absurd rfl ((List.nodup_append.mp z).2.2 _ hm _ (by simp))
    · rw [if_neg (by rw [decide_eq_false hm]; decide)]
      refine ⟨fun z => ?_, fun z => ?_⟩
      · have nd := ih.mp (by omega)
        refine List.nodup_append.mpr ⟨nd, by simp, fun a ha b hb => ?_⟩
        have : b = ks[i] := by simpa using hb
        rw [this]
        exact fun q => hm (q ▸ ha)
      · have nd := (List.nodup_append.mp z).1
        have := ih.mpr nd
        omega
section
variable {P : Program} {w : World}
/-- a set of texts -/
def SetDO (P : Program) (w : World) (a : Addr) (ks : List Str) : HO := .ext fun h => InD P w h a ks ks.length
theorem setDO_new {H : Hp} {h : Heap} {a : Addr} {ks : List Str} (R : InD P w h a ks ks.length) : ObjOk P w H h a (SetDO P w a ks) := by
  have ⟨o, _, _, _, ho, _⟩ := R
  exact ⟨R, ⟨o, ho⟩, fun h1 h2 p k => InD.at_ p k⟩
section
variable {X : Cx}
def rSetD (K : PySem.W.Frag) (P : Program) (w : World) : List V → Hp → VK → Prop := fun xs H Q => ∃ (l : Addr) (ks : List Str), xs = [.ref l] ∧ SqL K H l (ks.map V.str) ∧ ks.length ≤ 1000 ∧
  ∀ a, H a = none → Q (.ref a) (upd H a (SetDO P w a ks))
theorem cr_setD (hc : X.calm = true) : CallR X (.type "set") (rSetD X.K X.prog X.w) := by
  intro pins s σ H xs us Q I r h
  obtain ⟨l, ks, rfl, hs, hz, q⟩ := h
  rw [Vals.ref1 r]
  obtain ⟨its, rv, pl, _⟩ := I.list hs
  refine set_txtD ks (I.ok.hd hc) pl.isList (by simpa using Vals.strs rv) (by unfold scanBound; omega) fun h' tk R kp => ?_
  exact ⟨.ref _, _, I.laid (t' := tk) kp (Nat.le_refl _) (setDO_new R), rfl, q _ (I.hok.fresh (Nat.le_refl _))⟩
def rLenSetD (P : Program) (w : World) : List V → Hp → VK → Prop := fun xs H Q => ∃ (a : Addr) (ks : List Str), xs = [.ref a] ∧ H a = some (SetDO P w a ks) ∧ ks.length ≤ 1000 ∧ Q (.int (dnT ks ks.length : Nat)) H
theorem cr_lenSetD : CallR X (.builtin "len") (rLenSetD X.prog X.w) := by
  intro pins s σ H xs us Q I r h
  obtain ⟨a, ks, rfl, ha, hn, q⟩ := h
  rw [Vals.ref1 r]
  obtain ⟨o, es, ep, t, ho, hex, hd, _, _, _, hf, he⟩ := (I.hok a _ ha).1
  exact call_len_set ho hex hd hf (by rw [he]; have := dnT_le ks ks.length; omega) ⟨.int (dnT ks ks.length : Nat), H, I.tok _, ⟨_, by rw [he]⟩, q⟩
end
end
end Ag

end
/-! ## A1 -/
section
set_option linter.all false
set_option maxRecDepth 100000
namespace Ag
open PySem PySem.Spec PyProof.Rows L2
open SX (S S_len S_cat S_inj)
/-! ### what is asked of the parts of a pool -/
def isIntB : PyData → Bool
  | .int _ => true
  | _ => false
def wholeB (lo hi : Int) : PyData → Bool
  | .int i => decide (lo ≤ i) && decide (i ≤ hi)
  | _ => false
def wordB : PyData → Bool
  | .str x => wordL x.cps.toList
  | _ => false
def asInt : PyData → Int
  | .int i => i
  | _ => 0
def shareB : PyData → Bool
  | .tuple [l, w] => wordB l && wholeB 1 100 w
  | _ => false
/-- a share's label -/
def labD : PyData → Str
  | .tuple [.str x, _] => x
  | _ => Str.empty
def poolB : PyData → Bool
  | .tuple xs => ((decide (1 ≤ xs.length) && decide (xs.length ≤ 8)) && xs.all shareB) && decide ((xs.map labD).Nodup)
  | _ => false
/-- a share at hand -/
theorem share_of {p c : Addr} {H : Hp} {v : V} {d : PyData} (h : Dg p c H v d) (e : shareB d = true) : ∃ t x w, v = .ref t ∧ H t = some (.tup [.str x, .int w]) ∧ labD d = x := by
  cases h with
  | tup a b =>
    rename_i t xs ds
    cases b with
    | nil => simp [shareB] at e
    | cons h1 b =>
      cases b with
      | nil => simp [shareB] at e
      | cons h2 b =>
        cases b with
        | cons h3 b => simp [shareB] at e
        | nil =>
          simp only [shareB, Bool.and_eq_true] at e
          cases h1 with
          | str x =>
            cases h2 with
            | int w => exact ⟨t, x, w, rfl, a.2.2, rfl⟩
            | _ => simp [wholeB] at e
          | _ => simp [wordB] at e
  | _ => simp [shareB] at e
section
variable {P : Program} {w : World} {K : PySem.W.Frag} {mg : Str → Option Value} {base : Heap} {tw tp tg : Tok}
def spIntG : Sp := fun vs H Q _ => ∃ p c v d, vs = [v] ∧ Dg p c H v d ∧ Q (.bl (isIntB d)) H
theorem ok_intG {f : Addr} {fd : FuncData} (F : Fn K mg "is_integer" s_is_integer ["thing"] f fd) (B : Con mg tw tp tg) : FnOk P w K mg base CX0 1 f fd ["thing"] spIntG := by
  refine F.F.ok sc_is_integer (fun vs H Q E h => ?_) (fun cdv A outer s H vs Q E hr h => ?_)
  · obtain ⟨p, c, x, d, rfl, _⟩ := h
    rfl
  · obtain ⟨p, c, x, d, rfl, hd, q⟩ := h
    refine ⟨_, (pss_one (ps_ret (pe_and (pe_callB call_isi (by rfl) B.n_isinstance (by decide +kernel) (pa_cons (pv 0) (pa_cons (pe_bltn (v := .ty "int") (by rfl) B.n_int (by decide +kernel) rfl) pa_nil))) (pe_one (pe_not (pe_callB call_isi (by rfl) B.n_isinstance (by decide +kernel) (pa_cons (pv 0) (pa_cons (pe_bltn (v := .ty "bool") (by rfl) B.n_bool (by decide +kernel) rfl) pa_nil)))))))), ?_⟩
    refine ⟨x, rfl, x, .ty "int", _, _, _, rfl, .ty "int", hd.tyx, isi_I d, _, rfl, ite2 (fun h => ?_) (fun h => ?_)⟩
    · refine ⟨_, rfl, x, .ty "bool", _, _, _, rfl, .ty "bool", hd.tyx, isi_B d, _, rfl, ?_⟩
      cases d <;> first | exact q | exact absurd h (by simp [isI])
    · cases d <;> first | exact q | exact absurd rfl h
def spWordG : Sp := fun vs H Q _ => ∃ p c v d q n b, vs = [v] ∧ Dg p c H v d ∧ Gd q d n b ∧ Q (.bl (wordB d)) H
theorem ok_wordG {f : Addr} {fd : FuncData} (F : Fn K mg "is_word" s_is_word ["thing"] f fd) (B : Con mg tw tp tg) : FnOk P w K mg base CX0 1 f fd ["thing"] spWordG := by
  refine F.F.ok sc_is_word (fun vs H Q E h => ?_) (fun cdv A outer s H vs Q E hr h => ?_)
  · obtain ⟨p, c, x, d, _, _, _, rfl, _⟩ := h
    rfl
  · obtain ⟨p, c, x, d, qq, n, b, rfl, hd, hg, q⟩ := h
    refine ⟨_, (pss_cons (ps_if (PW.pt (pw_or (pt_not (pt_val (pe_callB call_isi (by rfl) B.n_isinstance (by decide +kernel) (pa_cons (pv 0) (pa_cons (pe_bltn (v := .ty "str") (by rfl) B.n_str (by decide +kernel) rfl) pa_nil))))) (pw_or1 (pt_not (pt_chain op_le op_le pe_int (pe_callB call_len_str (by rfl) B.n_len PySem.boot_len (pa_cons (pv 0) pa_nil)) (pe_glob (v := .int 10) rfl B.g_WORD_MOST ⟨_, rfl⟩))))))
      (pss_one (ps_ret pe_bl))
      pss_nil)
      (pss_one (ps_ret (pe_and (pe_m0 PySem.F.slot_str_isascii PySem.F.type_str_isascii mt_isascii (pv 0)) (pe_and (pe_m0 PySem.F.slot_str_isalpha PySem.F.type_str_isalpha mt_isalpha (pv 0)) (pe_one (pe_m0 PySem.F.slot_str_islower PySem.F.type_str_islower mt_islower (pv 0)))))))), ?_⟩
    refine ⟨_, rfl, x, .ty "str", _, _, _, rfl, .ty "str", hd.tyx, isi_S d, _, rfl, ?_⟩
    cases hd with
    | str x =>
      obtain ⟨h1, h2⟩ := hg.strlen
      have hx : x = S x.cps.toList := rfl
      generalize x.cps.toList = l at h1 h2 hx q
      subst hx
      refine iteF ?_
      refine ⟨.str (S l), rfl, S l, rfl, sz (by rw [S_len]; omega), _, _, rfl, rfl, _, rfl, ?_⟩
      rw [S_len]
      have q : Q (.bl (wordL l)) H := q
      unfold wordL at q
      have e1 : decide ((1 : Int) ≤ (l.length : Int)) = decide (1 ≤ l.length) := by
        rw [Bool.eq_iff_iff, decide_eq_true_eq, decide_eq_true_eq]
        omega
      have e2 : decide ((l.length : Int) ≤ 10) = decide (l.length ≤ 10) := by
        rw [Bool.eq_iff_iff, decide_eq_true_eq, decide_eq_true_eq]
        omega
      rw [e1]
      cases h3 : decide (1 ≤ l.length) with
      | false =>
        rw [h3, Bool.false_and, Bool.false_and] at q
        exact iteF ⟨_, rfl, iteT q⟩
      | true =>
        rw [h3, Bool.true_and] at q
        refine iteT ?_
        refine ⟨_, _, rfl, rfl, _, rfl, ?_⟩
        rw [e2]
        cases h4 : decide (l.length ≤ 10) with
        | false =>
          rw [h4, Bool.false_and] at q
          exact iteT q
        | true =>
          rw [h4, Bool.true_and] at q
          refine iteF ?_
          have hne : l ≠ [] := by
            rintro rfl
            exact absurd h3 (by decide)
          rw [← word_of h1 hne] at q
          refine ⟨.str (S l), rfl, ⟨_, rfl⟩, S l, rfl, rfl, trivial, _, rfl, ?_⟩
          rw [ascii_S, h1]
          refine iteT ?_
          refine ⟨.str (S l), rfl, ⟨_, rfl⟩, S l, rfl, rfl, trivial, _, rfl, ?_⟩
          refine ite2 (fun h5 => ?_) (fun h5 => ?_)
          · rw [h5, Bool.true_and] at q
            exact ⟨.str (S l), rfl, ⟨_, rfl⟩, S l, rfl, rfl, trivial, q⟩
          · rw [Bool.eq_false_iff.mpr h5, Bool.false_and] at q
            exact q
    | _ => exact iteT (iteT q)
def spShareG : Sp := fun vs H Q _ => ∃ p c v d q n b, vs = [v] ∧ Dg p c H v d ∧ Gd q d n b ∧ Q (.bl (shareB d)) H
theorem ok_shareG {f f1 f2 : Addr} {fd fd1 fd2 : FuncData} (F : Fn K mg "is_share" s_is_share ["thing"] f fd) (B : Con mg tw tp tg) (F_is_word : Fn K mg "is_word" s_is_word ["thing"] f1 fd1) (F_is_integer : Fn K mg "is_integer" s_is_integer ["thing"] f2 fd2) : FnOk P w K mg base CX0 2 f fd ["thing"] spShareG := by
  have G_is_word : FnOk P w K mg base CX0 1 f1 fd1 ["thing"] spWordG := ok_wordG F_is_word B
  have G_is_integer : FnOk P w K mg base CX0 1 f2 fd2 ["thing"] spIntG := ok_intG F_is_integer B
  refine F.F.ok sc_is_share (fun vs H Q E h => ?_) (fun cdv A outer s H vs Q E hr h => ?_)
  · obtain ⟨p, c, v, d, _, _, _, rfl, _⟩ := h
    rfl
  · obtain ⟨p, c, v, d, qq, n, b, rfl, hd, hg, q⟩ := h
    refine ⟨_, (pss_cons (ps_if (PW.pt (pw_or (pt_not (pt_val (pe_callB call_isi (by rfl) B.n_isinstance (by decide +kernel) (pa_cons (pv 0) (pa_cons (pe_bltn (v := .ty "tuple") (by rfl) B.n_tuple (by decide +kernel) rfl) pa_nil))))) (pw_or1 (pt_cmpR op_ne (pe_callB call_len_seq (by rfl) B.n_len PySem.boot_len (pa_cons (pv 0) pa_nil)) pe_int (nomark _)))))
      (pss_one (ps_ret pe_bl))
      pss_nil)
      (pss_cons (ps_asg (pv 0) (pg_tup rfl (pgs_cons (pg_name (i := 1) sc_is_share.nd rfl (Or.inl rfl)) (pgs_cons (pg_name (i := 2) sc_is_share.nd rfl (Or.inl rfl)) pgs_nil))))
      (pss_one (ps_ret (pe_and (pe_call G_is_word (hr.mono (by decide)) (by rfl) F_is_word.g F_is_word.F.kp F_is_word.b .nil pass0 (pa_cons (pv 1) pa_nil)) (pe_and (pe_call G_is_integer (hr.mono (by decide)) (by rfl) F_is_integer.g F_is_integer.F.kp F_is_integer.b .nil pass0 (pa_cons (pv 2) pa_nil)) (pe_one (pe_chain op_le op_le pe_int (pv 2) (pe_glob (v := .int 100) rfl B.g_WEIGHT_MOST ⟨_, rfl⟩))))))))), ?_⟩
    refine ⟨v, rfl, v, .ty "tuple", _, _, _, rfl, .ty "tuple", hd.tyx, isi_T d, _, rfl, ?_⟩
    cases hd with
    | tup a da =>
      rename_i t xs ds
      refine iteF ?_
      refine ⟨_, rfl, t, _, rfl, .inr (SqT.of a.2.2), rfl, _, rfl, ?_⟩
      have hl := da.len
      by_cases h2 : xs.length = 2
      · rw [h2, show decide (V.int ((2 : Nat) : Int) = V.int 2) = true from decide_eq_true rfl]
        refine iteF ?_
        cases da with
        | nil => cases h2
        | @cons v1 vs1 e1 ds1 d1 da =>
          cases da with
          | nil => cases h2
          | @cons v2 vs2 e2 ds2 d2 da =>
            cases da with
            | cons d3 da => simp at h2
            | nil =>
              obtain ⟨hg2, _⟩ := hg.untup
              obtain ⟨g1, hg2⟩ := hg2.hd
              obtain ⟨g2, _⟩ := hg2.hd
              refine ⟨_, rfl, t, _, rfl, SqT.of a.2.2, rfl, _, _, rfl, _, _, rfl, rfl, ?_⟩
              have q : Q (.bl (wordB e1 && wholeB 1 100 e2)) H := q
              refine ⟨_, rfl, p, c, v1, e1, _, _, _, rfl, d1, g1, _, rfl, ?_⟩
              cases hw : wordB e1 with
              | false =>
                rw [hw, Bool.false_and] at q
                exact iteF q
              | true =>
                rw [hw, Bool.true_and] at q
                refine iteT ⟨_, rfl, p, c, v2, e2, rfl, d2, _, rfl, ?_⟩
                cases d2 with
                | int i =>
                  refine iteT ⟨_, rfl, _, _, rfl, rfl, _, rfl, ?_⟩
                  have q : Q (.bl (decide ((1 : Int) ≤ i) && decide (i ≤ 100))) H := q
                  refine ite2 (fun h1 => ?_) (fun h1 => ?_)
                  · rw [h1, Bool.true_and] at q
                    exact ⟨_, _, rfl, rfl, q⟩
                  · rw [Bool.eq_false_iff.mpr h1, Bool.false_and] at q
                    exact q
                | _ => exact iteF q
      · rw [show decide (V.int ((xs.length : Nat) : Int) = V.int 2) = false from decide_eq_false fun z => h2 (by have := V.int.inj z; omega)]
        refine iteT ?_
        have e : shareB (.tuple ds) = false := by
          match ds, hl with
          | [], _ => rfl
          | [_], _ => rfl
          | [_, _], hl => exact absurd hl h2
          | _ :: _ :: _ :: _, _ => rfl
        rw [e] at q
        exact q
    | _ => exact iteT (iteT q)
def spPoolG : Sp := fun vs H Q _ => ∃ p c v d q n b, vs = [v] ∧ Dg p c H v d ∧ Gd q d n b ∧ ∀ H', Same H H' → Q (.bl (poolB d)) H'
theorem labs_map (ds : List PyData) : (List.range ds.length).map (fun i => V.str (labD ((ds[i]?).getD .none))) = (ds.map labD).map V.str := by
  rw [map_at ds fun o => V.str (labD (o.getD .none)), List.map_map]
  rfl
theorem ok_poolG {f f1 : Addr} {fd fd1 : FuncData} (F : Fn K mg "is_pool" s_is_pool ["thing"] f fd) (B : Con mg tw tp tg) (F_is_share : Fn K mg "is_share" s_is_share ["thing"] f1 fd1) (G_is_share : FnOk P w K mg base CX0 2 f1 fd1 ["thing"] spShareG) : FnOk P w K mg base CX0 3 f fd ["thing"] spPoolG := by
  refine F.F.ok sc_is_pool (fun vs H Q E h => ?_) (fun cdv A outer s H vs Q E hr h => ?_)
  · obtain ⟨p, c, v, d, _, _, _, rfl, _⟩ := h
    rfl
  · obtain ⟨p, c, v, d, qq, n, b, rfl, hd, hg, q⟩ := h
    refine ⟨_, (pss_cons (ps_if (PW.pt (pw_or (pt_not (pt_val (pe_callB call_isi (by rfl) B.n_isinstance (by decide +kernel) (pa_cons (pv 0) (pa_cons (pe_bltn (v := .ty "tuple") (by rfl) B.n_tuple (by decide +kernel) rfl) pa_nil))))) (pw_or1 (pt_not (pt_chain op_le op_le pe_int (pe_callB call_len_seq (by rfl) B.n_len PySem.boot_len (pa_cons (pv 0) pa_nil)) (pe_glob (v := .int 8) rfl B.g_POOL_MOST ⟨_, rfl⟩))))))
      (pss_one (ps_ret pe_bl))
      pss_nil)
      (pss_cons (ps_if (pt_not (pt_val (pe_callB (cr_all rfl) (by rfl) B.n_all (by decide +kernel) (pa_cons (pe_lc (own := [("pair", 1)]) rfl sc_is_pool.nd (pi_tup (pv 0)) (blkOk_by (N := N_is_pool) (sc := defScope s_is_pool) (by decide +kernel)) (fun _ _ _ _ _ => (pg_name (i := 1) sc_is_pool.nd rfl (Or.inl rfl))) (fun _ _ _ _ _ => pts_nil) (fun _ _ _ _ _ => (pe_call G_is_share (hr.mono (by decide)) (by rfl) F_is_share.g F_is_share.F.kp F_is_share.b .nil pass0 (pa_cons (pv 1) pa_nil)))) pa_nil))))
      (pss_one (ps_ret pe_bl))
      pss_nil)
      (pss_one (ps_ret (pe_cmpR op_eq (pe_callB cr_lenSetD (by rfl) B.n_len PySem.boot_len (pa_cons (pe_callTy (cr_setD rfl) (by rfl) B.n_set (by decide +kernel) (pa_cons (pe_lc (own := [("pair", 1)]) rfl sc_is_pool.nd (pi_tup (pv 0)) (blkOk_by (N := N_is_pool) (sc := defScope s_is_pool) (by decide +kernel)) (fun _ _ _ _ _ => (pg_name (i := 1) sc_is_pool.nd rfl (Or.inl rfl))) (fun _ _ _ _ _ => pts_nil) (fun _ _ _ _ _ => (pe_ix (ix_tupK K rfl) (pv 1) pe_int (fun _ _ => rfl)))) pa_nil)) pa_nil)) (pe_callB call_len_seq (by rfl) B.n_len PySem.boot_len (pa_cons (pv 0) pa_nil)) (nomark _)))))), ?_⟩
    refine ⟨v, rfl, v, .ty "tuple", _, _, _, rfl, .ty "tuple", hd.tyx, isi_T d, _, rfl, ?_⟩
    cases hd with
    | tup a da =>
      rename_i t xs ds
      have hl := da.len
      obtain ⟨hg2, l60⟩ := hg.untup
      have q : ∀ H', Same H H' → Q (.bl (((decide (1 ≤ ds.length) && decide (ds.length ≤ 8)) && ds.all shareB) && decide ((ds.map labD).Nodup))) H' := q
      refine iteF ⟨_, rfl, t, _, rfl, .inr (SqT.of a.2.2), _, _, rfl, rfl, _, rfl, ?_⟩
      rw [hl]
      by_cases h1 : ¬ 1 ≤ ds.length
      · rw [decide_eq_false h1, Bool.false_and, Bool.false_and, Bool.false_and] at q
        rw [decide_eq_false (by omega : ¬ (1 : Int) ≤ (ds.length : Int))]
        exact iteF ⟨_, rfl, iteT (q _ (Same.refl _))⟩
      have h1 := Decidable.not_not.mp h1
      rw [decide_eq_true (by omega : (1 : Int) ≤ (ds.length : Int))]
      refine iteT ⟨_, _, rfl, rfl, _, rfl, ?_⟩
      by_cases h8 : ¬ ds.length ≤ 8
      · rw [decide_eq_true h1, decide_eq_false h8, Bool.and_false, Bool.false_and, Bool.false_and] at q
        refine (show (if (!decide (((ds.length : Nat) : Int) ≤ 8)) = true then _ else _) from ?_)
        rw [decide_eq_false (by omega : ¬ ((ds.length : Nat) : Int) ≤ 8)]
        exact iteT (q _ (Same.refl _))
      have h8 := Decidable.not_not.mp h8
      refine (show (if (!decide (((ds.length : Nat) : Int) ≤ 8)) = true then _ else _) from ?_)
      rw [decide_eq_true (by omega : ((ds.length : Nat) : Int) ≤ 8)]
      rw [decide_eq_true h1, decide_eq_true h8, Bool.true_and, Bool.true_and] at q
      refine iteF ⟨_, rfl, t, rfl, ⟨_, SqT.of a.2.2⟩, fun D hD => ?_⟩
      refine lc_sel (walk_tup (K := K) (a := t) (xs := xs)) (fun _ => true) (fun i => .bl (shareB ((ds[i]?).getD .none))) (by omega) hD (fun H' s => SqT.of (s _ _ a.2.2)) ?_ ?_
      · rintro j y H1 H2 k k0 hi s1 ⟨rfl, hy⟩ hk _
        obtain ⟨d', hd', dd⟩ := da.at_ hy
        have hk := hk rfl _ (Same.refl _)
        rw [hd'] at hk
        exact ⟨rfl, _, rfl, p, c, y, d', _, _, _, rfl, dd.to (Kp.same s1), hg2.mem d' (List.mem_of_getElem? hd'), hk⟩
      · intro H1 s1 h1'
        rw [filt_all, bls_map] at h1'
        refine ⟨D, _, rfl, SqL.of h1', _, rfl, ?_⟩
        have eall : ((List.range xs.length).map fun i => shareB ((ds[i]?).getD .none)).all id = ds.all shareB := by
          rw [hl, map_at ds fun o => shareB (o.getD .none)]
          simp [List.all_map]
        rw [eall]
        cases hall : ds.all shareB with
        | false =>
          rw [hall, Bool.false_and] at q
          exact iteT (q _ s1)
        | true =>
          rw [hall, Bool.true_and] at q
          refine iteF ⟨_, rfl, t, rfl, ⟨_, SqT.of (s1 _ _ a.2.2)⟩, fun D2 hD2 => ?_⟩
          refine lc_sel (walk_tup (K := K) (a := t) (xs := xs)) (fun _ => true) (fun i => .str (labD ((ds[i]?).getD .none))) (by omega) hD2 (fun H' s => SqT.of (s _ _ (s1 _ _ a.2.2))) ?_ ?_
          · rintro j y H3 H4 k k0 hi s2 ⟨rfl, hy⟩ hk _
            obtain ⟨d', hd', dd⟩ := da.at_ hy
            have hk := hk rfl _ (Same.refl _)
            rw [hd'] at hk
            obtain ⟨t', x, w', rfl, ht', ex⟩ := share_of (dd.to (Kp.same (s1.trans s2))) (List.all_eq_true.mp hall d' (List.mem_of_getElem? hd'))
            have hk : k (V.str (labD d')) _ := hk
            rw [ex] at hk
            exact ⟨rfl, _, rfl, t', _, _, _, rfl, rfl, SqT.of ht', rfl, hk⟩
          · intro H3 s3 h3
            rw [filt_all, hl, labs_map] at h3
            have s13 := s1.trans s3
            refine ⟨D2, _, rfl, SqL.of h3, by rw [List.length_map]; omega, fun R hR => ⟨R, _, rfl, upd_same, by rw [List.length_map]; omega, ?_⟩⟩
            have s4 := s13.trans (same_new (o := SetDO P w R (ds.map labD)) hR)
            refine ⟨_, rfl, t, _, rfl, .inr (SqT.of (s4 _ _ a.2.2)), rfl, ?_⟩
            have full := dnT_full (ds.map labD) _ (Nat.le_refl _)
            rw [List.take_length] at full
            have eb : decide (V.int (dnT (ds.map labD) (ds.map labD).length : Nat) = V.int (xs.length : Nat)) = decide ((ds.map labD).Nodup) := by
              rw [Bool.eq_iff_iff, decide_eq_true_eq, decide_eq_true_eq, ← full, hl]
              rw [List.length_map]
              exact ⟨fun z => by have := V.int.inj z; omega, fun z => by rw [z]⟩
            exact (show Q (.bl (decide (V.int (dnT (ds.map labD) (ds.map labD).length : Nat) = V.int (xs.length : Nat)))) _ by rw [eb]; exact q _ s4)
    | _ => exact iteT (iteT (q _ (Same.refl _)))
end
end Ag

end
/-! ## Kit3 -/
section
set_option linter.all false
set_option maxRecDepth 100000
namespace Ag
open PySem PySem.Spec PyProof.Rows L2
open SX (S S_len S_cat S_inj)
def chars (z : List Nat) : List V := z.map fun c => V.str (S [c])
theorem call_list_S {X : Cx} (hc : X.calm = true) : CallR X (.type "list") (fun xs H Q => ∃ z : List Nat, xs = [.str (S z)] ∧ z.length ≤ 16000000 ∧ ∀ l, H l = none → Q (.ref l) (upd H l (.lst (chars z)))) := by
  intro pins s σ H xs us Q I r h
  obtain ⟨z, rfl, hz, q⟩ := h
  obtain ⟨u, rfl, t, rfl⟩ := vals1 r
  have hsz : (S z).cps.size = z.length := by simp
  refine PySem.call_list_str (I.ok.hd hc) (S z) t (fun h' tk acc c' kp e ha => ?_) (by rw [hsz, sizeLine_eq]; omega)
  have rv : Vals (chars z) acc.toList := by
    refine L2.vals_of_at ?_ ?_
    · have e1 := ha.1
      rw [hsz] at e1
      unfold chars
      rw [List.length_map, Array.length_toList]
      exact e1.symm
    · intro j x u hx hu
      obtain ⟨c, tk', hc', rfl⟩ := ha.2 j u (by simpa using hu)
      unfold chars at hx
      rw [List.getElem?_map] at hx
      have : z[j]? = some c := by simpa using hc'
      rw [this] at hx
      cases hx
      exact ⟨_, rfl⟩
  refine ⟨.ref s.heap.objs.size, upd H s.heap.objs.size (.lst (chars z)), I.laid kp (Nat.le_refl _) ⟨?_, acc.toList, c', rv, ?_⟩, rfl, q _ (I.hok.fresh (Nat.le_refl _))⟩
  · unfold chars
    rw [List.length_map, sizeLine_eq]
    omega
  · simpa using e
end Ag

end
/-! ## DK -/
section
set_option linter.all false
set_option maxRecDepth 100000
set_option maxHeartbeats 4000000
namespace Ag
open PySem PySem.Spec PyProof.Rows L2
open SX (S S_len S_cat S_inj)
/-! ### the deck of draws -/
def kC : Key := Sum.inr (Str.ofString "left")
def kM : Key := Sum.inr (Str.ofString "mixed")
def kT : Key := Sum.inr (Str.ofString "draws")
def dkL (c : Addr) (m t : Int) : List (Key × V) := [(kC, .ref c), (kM, .int m), (kT, .int t)]
theorem nCM : ¬ kC = kM := by decide +kernel
theorem nCT : ¬ kC = kT := by decide +kernel
theorem nMT : ¬ kM = kT := by decide +kernel
section
variable {c : Addr} {m t u : Int}
theorem v_C : valV (dkL c m t) kC = some (.ref c) := valV_pos rfl
theorem v_M : valV (dkL c m t) kM = some (.int m) := (valV_neg nCM).trans (valV_pos rfl)
theorem v_T : valV (dkL c m t) kT = some (.int t) := (valV_neg nCT).trans ((valV_neg nMT).trans (valV_pos rfl))
theorem put_T : putK (dkL c m t) kT (.int u) = dkL c m u := by
  unfold putK dkL
  simp [nCT, nMT]
theorem merge_d : mergeK [] (dkL c m t) = dkL c m t := by
  unfold mergeK dkL putK
  simp [nCM, nCT, nMT]
end
/-- a deck stands at p, its cells at c -/
def Dk (p c : Addr) (H : Hp) : Prop := ∃ (m t : Int) (cs : List Int), H p = some (.dK (dkL c m t)) ∧ H c = some (.lst (cs.map V.int)) ∧ cs.length ≤ 63
/-- all but the deck is as it was, and the deck is one -/
def Gx (p c : Addr) (H H' : Hp) : Prop := (∀ b o, b ≠ p → b ≠ c → H b = some o → H' b = some o) ∧ Dk p c H'
theorem Gx.refl {p c : Addr} {H : Hp} (d : Dk p c H) : Gx p c H H := ⟨fun _ _ _ _ e => e, d⟩
theorem Gx.trans {p c : Addr} {H H1 H2 : Hp} (a : Gx p c H H1) (b : Gx p c H1 H2) : Gx p c H H2 := ⟨fun x o h1 h2 e => b.1 x o h1 h2 (a.1 x o h1 h2 e), b.2⟩
theorem Dk.same {p c : Addr} {H H' : Hp} (d : Dk p c H) (s : Same H H') : Dk p c H' := by
  obtain ⟨m, t, cs, h1, h2, h3⟩ := d
  exact ⟨m, t, cs, s _ _ h1, s _ _ h2, h3⟩
theorem Gx.same {p c : Addr} {H H' : Hp} (d : Dk p c H) (s : Same H H') : Gx p c H H' := ⟨fun b o _ _ e => s b o e, d.same s⟩
theorem Dk.ne {p c q : Addr} {H : Hp} (d : Dk p c H) (h : H q = none) : q ≠ p ∧ q ≠ c := by
  obtain ⟨m, t, cs, h1, h2, _⟩ := d
  exact ⟨(ne_of_none h1 h).symm, (ne_of_none h2 h).symm⟩
theorem Gx.free {p c q : Addr} {H H' : Hp} (g : Gx p c H H') (d : Dk p c H) (h : H' q = none) : H q = none := by
  cases e : H q with
  | none => rfl
  | some o =>
    have n := g.2.ne h
    have := g.1 q o n.1 n.2 e
    rw [h] at this
    cases this
/-- an object that the deck is not -/
theorem At.gx {p c a : Addr} {H H' : Hp} {o : HO} (h : At p c H a o) (g : Gx p c H H') : At p c H' a o := ⟨h.1, h.2.1, g.1 a o h.1 h.2.1 h.2.2⟩
theorem At.new {p c a : Addr} {H : Hp} {o : HO} (d : Dk p c H) (h : H a = none) : At p c (upd H a o) a o := ⟨(d.ne h).1, (d.ne h).2, upd_same⟩
theorem Gx.new {p c a : Addr} {H : Hp} {o : HO} (d : Dk p c H) (h : H a = none) : Gx p c H (upd H a o) := Gx.same d (same_new h)
/-- a list's own change -/
theorem Gx.put {p c a : Addr} {H H' : Hp} {o : HO} (g : Gx p c H H') (d : Dk p c H) (h : H a = none) (n : a ≠ p ∧ a ≠ c) : Gx p c H (upd H' a o) := by
  refine ⟨fun b u h1 h2 e => ?_, ?_⟩
  · rw [upd_ne (ne_of_none e h)]
    exact g.1 b u h1 h2 e
  · obtain ⟨m, t, cs, h1, h2, h3⟩ := g.2
    exact ⟨m, t, cs, by rw [upd_ne n.1.symm]; exact h1, by rw [upd_ne n.2.symm]; exact h2, h3⟩
theorem cutV63 {ns : List Int} (h : ns.length ≤ 63) : cutV (ns.map V.int) none (some 63) = ns.map V.int := by
  unfold cutV
  rw [HT.sIx_none, show HT.sIx (ns.map V.int).length (ns.map V.int).length (some 63) = min 63 (ns.map V.int).length from HT.sIx_nat _ _ 63, List.drop_zero, List.take_of_length_le]
  rw [List.length_map]
  omega
section
variable {P : Program} {w : World} {K : PySem.W.Frag} {mg : Str → Option Value} {base : Heap} 
def spDeck (K : PySem.W.Frag) : Sp := fun vs H Q _ => ∃ (a : Addr) (ns : List Int), vs = [.ref a] ∧ SqL K H a (ns.map V.int) ∧ ns.length ≤ 63 ∧ ∀ p c H', H p = none → H c = none → Same H H' → Dk p c H' → Q (.ref p) H'
theorem ints_all {ns : List Int} {xs : List V} (hl : xs.length = ns.length) (h : ∀ (i : Nat) (y : V), xs[i]? = some y → ∃ z, ns[i]? = some z ∧ y = V.int z) : xs = ns.map V.int := by
  refine List.ext_getElem? fun i => ?_
  rw [List.getElem?_map]
  cases e : xs[i]? with
  | none =>
    have h1 := List.getElem?_eq_none_iff.mp e
    have h2 : ns[i]? = none := List.getElem?_eq_none_iff.mpr (by omega)
    rw [h2]
    rfl
  | some y =>
    obtain ⟨z, hz, rfl⟩ := h i y e
    rw [hz]
    rfl
theorem int_at {ns : List Int} {i : Nat} {x : V} (h : (ns.map V.int)[i]? = some x) : ∃ z, ns[i]? = some z ∧ x = V.int z := by
  rw [List.getElem?_map] at h
  cases e : ns[i]? with
  | none => rw [e] at h; cases h
  | some z =>
    rw [e] at h
    exact ⟨z, rfl, (Option.some.inj h).symm⟩
theorem ok_deck {f : Addr} {fd : FuncData} (F : Fn K mg "_law_deck" s__law_deck ["_law_script"] f fd) (B : Blt mg) : FnOk P w K mg base CX0 1 f fd ["_law_script"] (spDeck K) := by
  refine F.F.ok sc__law_deck (fun vs H Q E h => ?_) (fun cdv A outer s H vs Q E hr h => ?_)
  · obtain ⟨a, ns, rfl, _⟩ := h
    rfl
  · obtain ⟨a, ns, rfl, hS, hlen, q⟩ := h
    refine ⟨_, (pss_cons (ps_set (i := 1) sc__law_deck.nd rfl (.inl rfl) pe_int)
      (pss_cons (ps_for PassesOwn.never rfl (pi_list (pe_slice sl_list (pv 0) po_none (po_some pe_int))) (pg_name (i := 2) sc__law_deck.nd rfl (Or.inl rfl))
      (pss_one (ps_set (i := 1) sc__law_deck.nd rfl (.inl rfl) (pe_op op_mod (pe_callTy call_int1 (by rfl) B.n_int (by decide +kernel) (pa_cons (pe_op op_add (pe_op op_add (pe_op op_mul (pv 1) pe_int) (pe_op op_mod (pe_callTy call_int1 (by rfl) B.n_int (by decide +kernel) (pa_cons (pv 2) pa_nil)) pe_int)) pe_int) pa_nil)) pe_int))))
      (pss_one (ps_ret (pe_disp (pps_cons pe_str (pe_revL (pe_callTy call_list_of (by rfl) B.n_list (by decide +kernel) (pa_cons (pe_slice sl_list (pv 0) po_none (po_some pe_int)) pa_nil))) (pps_cons pe_str (pv 1) (pps_cons pe_str pe_int pps_nil))) (by rfl) (by rfl) (fun z => by cases z) (by decide)))))), ?_⟩
    have c63 := cutV63 hlen
    -- the mixed number
    refine ⟨_, rfl, 63, rfl, a, _, rfl, hS, fun u hu => ?_⟩
    rw [c63]
    refine ⟨u, rfl, ⟨_, SqL.of upd_same⟩, ?_⟩
    refine for_list (K := K) (a := u) (xs := ns.map V.int) (fun i σ H2 => ∃ (m : Int) (x : Option V), σ = [some (.ref a), some (.int m), x] ∧ Same H H2 ∧ H2 u = some (.lst (ns.map V.int))) ⟨_, none, rfl, same_new hu, upd_same⟩ (fun i σ H2 _ z => ?_) ?_ ?_
    · obtain ⟨_, _, _, _, e⟩ := z
      exact SqL.of e
    · rintro i x σ H2 hx ⟨m, y, rfl, sm, e⟩
      obtain ⟨z, _, rfl⟩ := int_at hx
      refine ⟨_, rfl, _, _, rfl, rfl, .inr ⟨by decide, by decide⟩, ?_⟩
      refine ⟨_, rfl, .inl ⟨z, rfl, _, _, rfl, rfl, (by show (0 : Int) < 2147483587; decide), _, _, rfl, rfl, _, _, rfl, rfl, .inl ⟨_, rfl, _, _, rfl, rfl, (by show (0 : Int) < 2147483629; decide), ?_⟩⟩⟩
      exact ⟨_, _, rfl, sm, e⟩
    · rintro σ H2 ⟨m, x, rfl, sm, e⟩
      -- the dict
      intro p hp
      have nHp : H p = none := sm.free hp
      have sm2 : Same H (upd H2 p (.dK [])) := sm.trans (same_new hp)
      refine ⟨_, rfl, 63, rfl, a, _, rfl, sm2.seq hS, fun v hv => ?_⟩
      rw [c63]
      have npv : p ≠ v := fun z => by rw [← z, upd_same] at hv; cases hv
      have sm3 := sm2.trans (same_new (o := .lst (ns.map V.int)) hv)
      have p3 : upd (upd H2 p (.dK [])) v (.lst (ns.map V.int)) p = some (.dK []) := by rw [upd_ne npv, upd_same]
      refine ⟨v, _, rfl, .inl (SqL.of upd_same), fun D hD => ?_⟩
      generalize upd (upd H2 p (.dK [])) v (.lst (ns.map V.int)) = H3 at sm3 p3 hD ⊢
      have nDp : p ≠ D := ne_of_none p3 hD
      refine ⟨D, _, rfl, SqL.of upd_same, fun R hR => ?_⟩
      have sm4 := sm3.trans (same_new (o := .lst (ns.map V.int)) hD)
      have p4 : upd H3 D (.lst (ns.map V.int)) p = some (.dK []) := by rw [upd_ne nDp]; exact p3
      generalize upd H3 D (.lst (ns.map V.int)) = H4 at sm4 p4 hR ⊢
      have hRp : p ≠ R := ne_of_none p4 hR
      refine ⟨_, rfl, ?_⟩
      refine ⟨by rw [upd_ne hRp]; exact p4, dkL R m 0, rfl, by show 3 ≤ 15; decide, ?_⟩
      rw [merge_d]
      have nR : H R = none := sm4.free hR
      refine q p R _ nHp nR (fun b o e => ?_) ⟨m, 0, ns.reverse, upd_same, ?_, by rw [List.length_reverse]; exact hlen⟩
      · rw [upd_ne (ne_of_none e nHp), upd_ne (ne_of_none e nR)]
        exact sm4 b o e
      · rw [upd_ne hRp.symm, upd_same, List.map_reverse]
end
theorem dpIntsG {K : PySem.W.Frag} {H : Hp} : ∀ cs : List Int, DpAll K H (cs.map V.int) (cs.map PyData.int)
  | [] => .nil
  | c :: cs => .cons (.int c) (dpIntsG cs)
theorem lay_ints : ∀ cs : List Int, PyData.canLayAll0 (cs.map PyData.int) = true
  | [] => by simp [PyData.canLayAll0]
  | c :: cs => by simp [PyData.canLayAll0, PyData.canLay0, lay_ints cs]
theorem depth_ints : ∀ cs : List Int, PyData.depthAll (cs.map PyData.int) = 0
  | [] => by simp [PyData.depthAll]
  | c :: cs => by simp [PyData.depthAll, PyData.depth, depth_ints cs]
theorem shaped_ints (cs : List Int) : SeqAt.shaped (.list (cs.map PyData.int)) = true := by
  simp [SeqAt.shaped, PyData.canLay0, PyData.depth, lay_ints, depth_ints]
theorem dget {H : Hp} {a : Addr} {kvs : List (Key × V)} {k : Key} {v : V} (e : H a = some (.dK kvs)) (h : valV kvs k = some v) : DGet H a (kV k) (some v) := h ▸ DGet.k e
theorem ne_nil_ints (cs : List Int) : (!PyData.eqv (.list (cs.map PyData.int)) (.list [])) = decide (cs ≠ []) := by
  cases cs <;> simp [PyData.eqv, PyData.eqvAll]
section
variable {P : Program} {w : World} {K : PySem.W.Frag} {mg : Str → Option Value} {base : Heap} 
def spDraw : Sp := fun vs H Q _ => ∃ (p c : Addr) (n : Int), vs = [.ref p, .int n] ∧ Dk p c H ∧ 1 ≤ n ∧ n ≤ 1000000000 ∧ ∀ (r : Nat) H', (r : Int) < n → Gx p c H H' → Q (.int (r : Int)) H'
theorem nat_mod {x n : Int} (h : 1 ≤ n) : ∃ r : Nat, x % n = (r : Int) ∧ (r : Int) < n := by
  refine ⟨(x % n).toNat, ?_, ?_⟩
  · have := Int.emod_nonneg x (by omega : n ≠ 0)
    omega
  · have h1 := Int.emod_nonneg x (by omega : n ≠ 0)
    have h2 := Int.emod_lt_of_pos x (by omega : 0 < n)
    omega
theorem ok_draw {f : Addr} {fd : FuncData} (F : Fn K mg "_law_draw" s__law_draw ["_law_deck_here", "_law_many"] f fd) (B : Blt mg) : FnOk P w K mg base CX0 1 f fd ["_law_deck_here", "_law_many"] spDraw := by
  refine F.F.ok sc__law_draw (fun vs H Q E h => ?_) (fun cdv A outer s H vs Q E hr h => ?_)
  · obtain ⟨p, c, n, rfl, _⟩ := h
    rfl
  · obtain ⟨p, c, n, rfl, dk, n1, n2, q⟩ := h
    have hu := hu_of hr
    refine ⟨_, (pss_cons (ps_dput hu (pv 0) pe_str (pe_op op_add (pe_dget hu (pv 0) pe_str (fun _ _ => rfl)) pe_int) rfl)
      (pss_cons (ps_set (i := 2) sc__law_draw.nd rfl (.inl rfl) (pe_op op_add (pe_dget hu (pv 0) pe_str (fun _ _ => rfl)) (pe_op op_mul pe_int (pe_dget hu (pv 0) pe_str (fun _ _ => rfl)))))
      (C8.pss_cut (ps_if (pt_cmpR (op_neD hr.units) (pe_dget hu (pv 0) pe_str (fun _ _ => rfl)) (pe_lst pa_nil) (nomark _))
      (pss_cons (ps_set (i := 3) sc__law_draw.nd rfl (.inl rfl) (pe_bm0 PySem.F.plainAttrs_list PySem.F.slot_list_pop PySem.F.type_list_pop mt_pop (pe_dget hu (pv 0) pe_str (fun _ _ => rfl))))
        (pss_cons (ps_if (pt_cmpR op_ge (pv 3) (pe_op op_pow pe_int pe_int) (nomark _))
        (pss_cons (ps_expr (pe_bm PySem.F.plainAttrs_list PySem.F.slot_list_append PySem.F.type_list_append mt_append (pe_dget hu (pv 0) pe_str (fun _ _ => rfl)) (pa_cons (pe_op op_fdiv (pv 3) (pe_callB (call_max2 rfl) (by rfl) B.n_max (by decide +kernel) (pa_cons pe_int (pa_cons (pv 1) pa_nil)))) pa_nil)))
          (pss_one (ps_ret (pe_op op_mod (pe_callTy call_int1 (by rfl) B.n_int (by decide +kernel) (pa_cons (pv 3) pa_nil)) (pv 1)))))
        pss_nil)
        (pss_one (ps_set (i := 2) sc__law_draw.nd rfl (.inl rfl) (pe_op op_add (pv 2) (pe_op op_mod (pe_callTy call_int1 (by rfl) B.n_int (by decide +kernel) (pa_cons (pv 3) pa_nil)) pe_int))))))
      pss_nil)
      (pss_cons (ps_set (i := 2) sc__law_draw.nd rfl (.inl rfl) (pe_op op_mod (pe_callTy call_int1 (by rfl) B.n_int (by decide +kernel) (pa_cons (pe_op op_add (pe_op op_mul (pv 2) pe_int) pe_int) pa_nil)) pe_int))
      (pss_cons (ps_set (i := 2) sc__law_draw.nd rfl (.inl rfl) (pe_op op_mod (pe_callTy call_int1 (by rfl) B.n_int (by decide +kernel) (pa_cons (pe_op op_add (pe_op op_add (pe_op op_mul (pv 2) (pv 2)) (pe_op op_mul pe_int (pe_dget hu (pv 0) pe_str (fun _ _ => rfl)))) pe_int) pa_nil)) pe_int))
      (pss_cons (ps_set (i := 2) sc__law_draw.nd rfl (.inl rfl) (pe_op op_mod (pe_callTy call_int1 (by rfl) B.n_int (by decide +kernel) (pa_cons (pe_op op_mul (pv 2) pe_int) pa_nil)) pe_int))
      (pss_one (ps_ret (pe_op op_mod (pe_callTy call_int1 (by rfl) B.n_int (by decide +kernel) (pa_cons (pe_op op_fdiv (pv 2) pe_int) pa_nil)) (pv 1)))))))))), ?_⟩
    obtain ⟨m, t, cs, h1, h2, h3⟩ := id dk
    have fin : ∀ (x : Int) (H2 : Hp), Gx p c H H2 → Q (.int (x % n)) H2 := by
      intro x H2 g
      obtain ⟨r, er, hr'⟩ := nat_mod (x := x) n1
      rw [er]
      exact q r H2 hr' g
    have npc : p ≠ c := ne_of h1 h2 (by intro z; cases z)
    -- turn
    refine ⟨_, rfl, p, _, rfl, dget (k := kT) h1 v_T, _, _, rfl, rfl, _, rfl, p, _, rfl, DPut.k (k := kT) h1 (by rw [sizeLine_eq]; show 3 < _; decide), ?_⟩
    rw [put_T]
    have g1 : Gx p c H (upd H p (.dK (dkL c m (t + 1)))) := ⟨fun b o b1 _ e => by rw [upd_ne b1]; exact e, ⟨m, t + 1, cs, upd_same, by rw [upd_ne npc.symm]; exact h2, h3⟩⟩
    generalize upd H p (.dK (dkL c m (t + 1))) = H1 at g1
    obtain ⟨m1, t1, cs1, k1, k2, k3⟩ := g1.2
    -- the figure
    refine ⟨_, rfl, p, _, rfl, dget (k := kM) k1 v_M, _, rfl, p, _, rfl, dget (k := kT) k1 v_T, _, _, rfl, rfl, .inl ⟨by decide, by decide⟩, _, _, rfl, rfl, ?_⟩
    refine ⟨fun σ H' => ∃ (fig : Int) (x3 : Option V), σ = [some (.ref p), some (.int n), some (.int fig), x3] ∧ Gx p c H H', ?_, ?_⟩
    · refine ⟨_, rfl, p, _, rfl, dget (k := kC) k1 v_C, Nat.zero_le _, fun z hz => ?_⟩
      have dk1 : Dk p c H1 := g1.2
      have nz := dk1.ne hz
      have k1' : upd H1 z (.lst []) p = some (.dK (dkL c m1 t1)) := by rw [upd_ne nz.1.symm]; exact k1
      have k2' : upd H1 z (.lst []) c = some (.lst (cs1.map V.int)) := by rw [upd_ne nz.2.symm]; exact k2
      have g2 : Gx p c H (upd H1 z (.lst [])) := g1.trans (Gx.new dk1 hz)
      refine ⟨.list (cs1.map .int), .list [], .lst (SqL.of k2') (dpIntsG cs1), .lst (SqL.of upd_same) .nil, shaped_ints cs1, shaped_ints [], _, rfl, ?_⟩
      rw [ne_nil_ints]
      refine ite2 (fun h => ?_) (fun h => ?_)
      · have hne : cs1 ≠ [] := of_decide_eq_true h
        obtain ⟨ini, cell, rfl⟩ : ∃ ini cell, cs1 = ini ++ [cell] := ⟨_, _, (List.dropLast_concat_getLast hne).symm⟩
        refine ⟨_, rfl, p, _, rfl, dget (k := kC) k1' v_C, .inl ⟨rfl, _, SqL.of k2'⟩, c, _, .int cell, rfl, rfl, k2', by simp, ?_⟩
        have ed : ((ini ++ [cell]).map V.int).dropLast = ini.map V.int := by simp
        rw [ed]
        rw [List.length_append, List.length_singleton] at k3
        have k1'' : upd (upd H1 z (.lst [])) c (.lst (ini.map V.int)) p = some (.dK (dkL c m1 t1)) := by rw [upd_ne npc]; exact k1'
        have putc : ∀ (xs : List Int) (H2 : Hp), (∀ b, b ≠ c → H2 b = upd H1 z (.lst []) b) → xs.length ≤ 63 → Gx p c H (upd H2 c (.lst (xs.map V.int))) := by
          intro xs H2 hb hx
          refine ⟨fun b o b1 b2 e => ?_, ⟨m1, t1, xs, ?_, upd_same, hx⟩⟩
          · rw [upd_ne b2, hb b b2]
            exact g2.1 b o b1 b2 e
          · rw [upd_ne npc, hb p npc]
            exact k1'
        refine ⟨_, rfl, _, _, rfl, rfl, ⟨by decide, by decide, by decide⟩, _, _, rfl, rfl, _, rfl, ?_⟩
        refine ite2 (fun h => ?_) (fun h => ?_)
        · refine ⟨_, rfl, p, _, rfl, dget (k := kC) k1'' v_C, .inl ⟨rfl, _, SqL.of upd_same⟩, _, rfl, _, rfl, 2, n, rfl, _, _, rfl, rfl, ?_, c, _, _, rfl, rfl, upd_same, ?_, ?_⟩
          · show (0 : Int) < (if n > 2 then n else 2) ∧ (if n > 2 then n else 2) < 1073741824
            split <;> omega
          · rw [List.length_map, sizeLine_eq]; omega
          refine ⟨_, rfl, .inl ⟨_, rfl, _, rfl, _, _, rfl, rfl, (by show (0 : Int) < n; omega), ?_⟩⟩
          refine fin cell _ ?_
          have e2 : ini.map V.int ++ [V.int (cell / (if n > 2 then n else 2))] = (ini ++ [cell / (if n > 2 then n else 2)]).map V.int := by simp
          show Gx p c H (upd _ c (.lst (ini.map V.int ++ [V.int (cell / (if n > 2 then n else 2))])))
          rw [e2]
          exact putc _ _ (fun b hb => by rw [upd_ne hb]) (by simp; omega)
        · refine ⟨_, rfl, _, rfl, .inl ⟨_, rfl, _, _, rfl, rfl, (by show (0 : Int) < 2147483587; decide), _, _, rfl, rfl, _, _, rfl, putc _ _ (fun b hb => rfl) (by omega)⟩⟩
      · exact ⟨_, _, rfl, g2⟩
    · rintro σ H2 ⟨fig, x3, rfl, g2⟩
      obtain ⟨m2, t2, cs2, j1, j2, j3⟩ := g2.2
      refine ⟨_, rfl, _, _, rfl, rfl, .inr ⟨by decide, by decide⟩, _, _, rfl, rfl, .inl ⟨_, rfl, _, _, rfl, rfl, (by show (0 : Int) < 2147483563; decide), ?_⟩⟩
      have b1 := Int.emod_nonneg (fig * 40014 + 21) (by decide : (2147483563 : Int) ≠ 0)
      have b2 := Int.emod_lt_of_pos (fig * 40014 + 21) (by decide : (0 : Int) < 2147483563)
      generalize (fig * 40014 + 21) % 2147483563 = f1 at b1 b2
      refine ⟨_, rfl, _, rfl, _, _, rfl, rfl, .inl ⟨by omega, by omega⟩, _, rfl, p, _, rfl, dget (k := kT) j1 v_T, _, _, rfl, rfl, .inl ⟨by decide, by decide⟩, _, _, rfl, rfl, _, _, rfl, rfl, .inl ⟨_, rfl, _, _, rfl, rfl, (by show (0 : Int) < 2147483399; decide), ?_⟩⟩
      refine ⟨_, rfl, _, _, rfl, rfl, .inr ⟨by decide, by decide⟩, .inl ⟨_, rfl, _, _, rfl, rfl, (by show (0 : Int) < 2147483647; decide), ?_⟩⟩
      refine ⟨_, rfl, _, _, rfl, rfl, ⟨by decide, by decide⟩, .inl ⟨_, rfl, _, rfl, _, _, rfl, rfl, (by show (0 : Int) < n; omega), ?_⟩⟩
      exact fin _ H2 g2
/-- _law_pick: any item of a list that the deck is not, any sign of a text -/
def spPick : Sp := fun vs H Q _ => ∃ (p c : Addr) (v : V), vs = [.ref p, v] ∧ Dk p c H ∧
  ((∃ (a : Addr) (xs : List V), v = .ref a ∧ At p c H a (.lst xs) ∧ 1 ≤ xs.length ∧ xs.length ≤ 100000 ∧ ∀ (r : Nat) x H', xs[r]? = some x → Gx p c H H' → Q x H') ∨
   ∃ z : List Nat, v = .str (S z) ∧ 1 ≤ z.length ∧ z.length ≤ 1000 ∧ ∀ (r : Nat) d H', z[r]? = some d → Gx p c H H' → Q (.str (S [d])) H')
theorem ok_pick {f f1 : Addr} {fd fd1 : FuncData} (F : Fn K mg "_law_pick" s__law_pick ["_law_deck_here", "_law_some"] f fd) (B : Blt mg) (F__law_draw : Fn K mg "_law_draw" s__law_draw ["_law_deck_here", "_law_many"] f1 fd1) :
    FnOk P w K mg base CX0 2 f fd ["_law_deck_here", "_law_some"] spPick := by
  have G__law_draw : FnOk P w K mg base CX0 1 f1 fd1 ["_law_deck_here", "_law_many"] spDraw := ok_draw F__law_draw B
  refine F.F.ok sc__law_pick (fun vs H Q E h => ?_) (fun cdv A outer s H vs Q E hr h => ?_)
  · obtain ⟨p, c, v, rfl, _⟩ := h
    rfl
  · obtain ⟨p, c, v, rfl, dk, h⟩ := h
    refine ⟨_, (pss_one (ps_ret (pe_ix ix_seq (pv 1) (pe_call G__law_draw (hr.mono (by decide)) (by rfl) F__law_draw.g F__law_draw.F.kp F__law_draw.b .nil pass0 (pa_cons (pv 0) (pa_cons (pe_callB call_len (by rfl) B.n_len PySem.boot_len (pa_cons (pv 1) pa_nil)) pa_nil))) (fun _ _ => rfl)))), ?_⟩
    rcases h with ⟨a, xs, rfl, ha, hl1, hl2, q⟩ | ⟨z, rfl, hl1, hl2, q⟩
    · refine ⟨_, rfl, _, rfl, _, rfl, .ref a, xs.length, rfl, .inl ⟨xs, SqL.of ha.2.2, rfl⟩, p, c, _, rfl, dk, by omega, by omega, fun r H' hr' g => ?_⟩
      have hlt : r < xs.length := by omega
      exact .inl ⟨a, xs, _, _, rfl, rfl, SqL.of (ha.gx g).2.2, atI_nat (List.getElem?_eq_getElem hlt), q r _ H' (List.getElem?_eq_getElem hlt) g⟩
    · refine ⟨_, rfl, _, rfl, _, rfl, .str (S z), z.length, rfl, ⟨sz (by rw [S_len]; omega), by rw [S_len]⟩, p, c, _, rfl, dk, by omega, by omega, fun r H' hr' g => ?_⟩
      have hlt : r < z.length := by omega
      have hz : (S z).cps.toList[r]? = some z[r] := List.getElem?_eq_getElem hlt
      exact .inr (.inr ⟨S z, _, _, rfl, rfl, sz (by rw [S_len]; omega), atI_nat hz, q r _ H' (List.getElem?_eq_getElem hlt) g⟩)
end
end Ag

end
/-! ## Exc1 -/
section
set_option linter.all false
set_option maxRecDepth 100000
namespace Ag
open PySem PySem.Spec PyProof.Rows L2
/-! ### own exceptions over Exception, whose __init__ stores -/
abbrev exT : List Value := [.type "Exception", .type "BaseException", .type "object"]
structure OexE (K : PySem.W.Frag) (C : Addr) : Prop where
  cl : ∃ (nm q : Str) (N : Addr) (bs bm : List Value) (sn : List Str) (sub : List Value) (ab : Bool) (col : Option Bool) (dd : Option Addr) (k0 k1 k2 k3 k5 : Option Value),
    K.lookup C = some (excClassObj nm q C N bs bm true sn sub ab col dd k0 k1 k2 k3 k5 "Exception.__new__") ∧ PySem.W.excTail exT bm = true
  st : PySem.W.findIn K (.ref C) "__setattr__" = some (some (.builtin "object.__setattr__")) ∧ PySem.W.subIn K (.ref C) (.type "BaseException") = some true ∧ PySem.W.typeIn K (.ref C) = some (.type "type") ∧ PySem.W.keepIn K (.ref C) = true
section
variable {X : Cx} {pins : List (Addr × Obj)} {σ : L2.St} {H : Hp} {s : Shared} {a C : Addr} {f : Str} {y : V} {u : Value} {Q : Unit → Shared → Prop} {E : Value → Shared → Prop} {A : Around}
theorem oexE_over {K : PySem.W.Frag} (T : OexE K C) : PySem.W.excOver K C exT = true ∧ ∃ cd, PySem.W.clsIn K C = some cd ∧ cd.hasDict = true := by
  obtain ⟨nm, q, N, bs, bm, sn, sub, ab, col, dd, k0, k1, k2, k3, k5, hC, hbm⟩ := T.cl
  have e : PySem.W.clsIn K C = some { name := nm, bases := bs, mro := .ref C :: bm, ns := N, qualname := q, hasDict := true, slotNames := sn, subclasses := sub, abstract := ab, collection := col, hasDel := false } := by
    unfold PySem.W.clsIn
    rw [hC] <;> rfl
  refine ⟨?_, _, e, rfl⟩
  unfold PySem.W.excOver
  rw [e]
  show (C == C && PySem.W.excTail exT bm) = true
  rw [hbm]
  simp
/-- self.f = y, the first one -/
theorem stE_new (T : OexE X.K C) (I : Inv X pins σ H s) (e : H a = some (exo a C none)) (hno : PySem.W.findIn X.K (.ref C) f = some none) (ry : RelV y u)
    (h : ∀ dx s', H dx = none → dx ≠ a → Inv X pins σ (upd (upd H dx (exd dx [(f, y)])) a (exo a C (some dx))) s' → Q () s') : wpAny (model X.prog X.w) A (setAttr (.ref a) f u) Q E s := by
  obtain ⟨ho1, cd, hcd, hhd⟩ := oexE_over T
  obtain ⟨t1, ho⟩ := exo_at I.hok e
  obtain ⟨hp, g, d, t, os⟩ := s
  refine PySem.W.set_plain (od := none) I.kIn ⟨ho, rfl, rfl, trivial⟩ T.st.1 (PySem.W.osa_openX (od := none) F.store_Exception I.kIn ⟨ho, rfl, rfl, trivial⟩ ho1 (by unfold PySem.W.takerIn; rw [hno]; rfl) fun b => ?_)
  have hal : a < hp.objs.size := Heap.lt_size ho
  refine wpAny_bind (wpAny_pure (wpAny_bind (PySem.W.instanceDict_exc (t := t1) (c2 := .none) ho (PySem.W.looks_clsIn I.kIn hcd) hhd ?_)))
  have had : a ≠ hp.objs.size := Nat.ne_of_lt hal
  have hpu : (hp.push (PySem.W.dictOf [] 0)).get? a = some (PySem.W.excObj C t1 none .none) := Heap.get?_push_of_some _ ho
  refine HandSPX.store_in_new ⟨_, #[], 0, (Heap.get?_update_other _ _ had).trans (Heap.get?_push_size _ rfl), rfl, fun e he => by simp at he, fun _ => rfl⟩ fun h' tk' hn' hs => ?_
  -- the heap behind, and one between
  have h1 : h'.get? a = some (PySem.W.excObj C t1 (some hp.objs.size) .none) := (hs.2 a had).trans (Heap.get?_update_self _ hpu rfl)
  have kp : ∀ b o, b ≠ a → hp.get? b = some o → h'.get? b = some o := fun b o hb hbo => (hs.2 b (Nat.ne_of_lt (Heap.lt_size hbo))).trans ((Heap.get?_update_other _ _ (Ne.symm hb)).trans (Heap.get?_push_of_some _ hbo))
  have m1 : (h'.update a fun _ => PySem.W.excObj C t1 none .none).get? a = some (PySem.W.excObj C t1 none .none) := Heap.get?_update_self _ h1 rfl
  have m2 : ∀ b, b ≠ a → (h'.update a fun _ => PySem.W.excObj C t1 none .none).get? b = h'.get? b := fun b hb => Heap.get?_update_other _ _ (Ne.symm hb)
  have hn2 : (h'.update a fun _ => PySem.W.excObj C t1 none .none).Ns1 hp.objs.size (fun y => if y = f then some u else none) := hn'.at fun o q => (m2 _ (Ne.symm had)).trans q
  have I1 : Inv X pins σ (upd H hp.objs.size (exd hp.objs.size [(f, y)])) ⟨h'.update a fun _ => PySem.W.excObj C t1 none .none, g, d, tk', os⟩ :=
    I.laid (a := hp.objs.size) (t' := tk') (fun b o hbo => by
      by_cases hb : b = a
      · subst hb
        rw [ho] at hbo
        rw [m1]
        exact hbo
      · rw [m2 b hb]
        exact kp b o hb hbo) (Nat.le_refl _) (exd_ok hn2 (relO_put (fs := []) ry fun _ => True.intro))
  have e1 : upd H hp.objs.size (exd hp.objs.size [(f, y)]) a = some (exo a C none) := by rw [upd_ne had]; exact e
  have I2 := I1.write (h' := h') (x := a) (e := a) (o := exo a C (some hp.objs.size)) (t' := tk') (by rw [e1]; exact True.intro) (.inl rfl) (fun b o hb q => by rw [← m2 b hb]; exact q) ⟨_, h1⟩ (exo_ok h1)
  exact h _ _ (I.hok.fresh (Nat.le_refl _)) (Ne.symm had) I2
end
end Ag

end
/-! ## Exc2 -/
section
set_option linter.all false
set_option maxRecDepth 100000
namespace Ag
open PySem PySem.Spec PyProof.Rows L2
/-- self.f = e in an own __init__ -/
def tStE (K : PySem.W.Frag) (f : Str) (to te : TE) : TS := fun D σ H => te σ H fun y H1 => to σ H1 fun x H2 => ∃ a C : Addr, x = .ref a ∧ OexE K C ∧ PySem.W.findIn K (.ref C) f = some none ∧ H2 a = some (exo a C none) ∧
  ∀ dx, H2 dx = none → dx ≠ a → D.nx σ (upd (upd H2 dx (exd dx [(f, y)])) a (exo a C (some dx)))
section
variable {X : Cx} {o e : Expr} {es : List Expr} {to te : TE} {ta : TA} {f x : Str} {p p' pos : Pos}
theorem psE_ost (ho : PE X o to) (he : PE X e te) (hs : swapsWith e (some (.Attribute o f p')) pos.line X.env = pure false := by rfl) : PS X (.Assign [.Attribute o f p'] e pos) (tStE X.K f to te) := by
  constructor
  intro pins s σ H D I h
  refine plainObj_wpAny_Assign_Attribute (thn (he.run pins s σ H _ I h) ?_) hs
  rintro v s1 ⟨y, H1, I1, r1, q1⟩
  refine thn (ho.run pins s1 σ H1 _ I1 q1) ?_
  rintro u s2 ⟨x, H2, I2, r2, a, C, rfl, T, hno, ea, q⟩
  cases (show u = Value.ref a from r2)
  exact stE_new T I2 ea hno r1 fun dx s' n ne J => ⟨σ, _, J, q dx n ne⟩
/-- C(e, ..) of such a class -/
theorem pmkE {CX : CXT} {C fI : Addr} {k : Nat} {fd : FuncData} {ps : List Str} {sp : Sp} (T : OexE X.K C) (iC : PySem.W.findIn X.K (.ref C) "__init__" = some (some (.ref fI)) ∧ PySem.W.typeIn X.K (.ref fI) = some (.type "function"))
    (F1 : FnOk X.prog X.w X.K X.mg X.base CX k fI fd ps sp) (hr : Room (k + 1) X.A) (hb : Binds X.K fd ps []) (hx : Passes CX X E0) (hg : Gl X x) (hm : X.mg x = some (.ref C)) (ha : PA X (e :: es) ta) (hdb : (x == ("__debug__" : Str)) = false := by decide)
    (he : starEach (e :: es) X.env = (false, eval e X.env) :: starEach es X.env := by rfl) (hpl : (backTo pos (starEach es X.env)).any (·.1) = false := by rfl) : PMk X (.Call (.Name x p) (e :: es) [] pos) (tMkO C sp [] ta) := by
  intro pins s σ H Q I h
  refine wpAny_Call_Name_kw (ld_glob I hg hm (PySem.W.callWith_K (h₀ := X.base) I.ok.mod.kin T.st.2.2.2 (thn (ha.run pos pins s σ H _ I h) ?_) he hpl) hdb)
  rintro us ⟨hp, g, dr, tk, os⟩ ⟨vs, H1, I1, r1, hz, q1⟩
  refine ⟨I1.kIn, ?_⟩
  show wpAny _ _ (call (.ref C) us) _ _ _
  obtain ⟨nm, q, N, bs, bm, sn, sub, ab, col, dd, k0, k1, k2, k3, k5, hC, hbm⟩ := T.cl
  have hq := q1 (hp.objs.size + 1) (I1.hok.fresh (Nat.le_succ _))
  rw [List.append_nil] at hq
  generalize hP : hp.push (PySem.W.kdv_tup us) = hp1
  have z1 : hp1.objs.size = hp.objs.size + 1 := by rw [← hP, Heap.size_push]
  have kk : ∀ b o, hp.get? b = some o → (hp1.push (HandSPX.excO C hp.objs.size)).get? b = some o := fun b o w => Heap.get?_push_of_some _ (by rw [← hP]; exact Heap.get?_push_of_some _ w)
  have gt : (hp1.push (HandSPX.excO C hp.objs.size)).get? (hp.objs.size + 1) = some (HandSPX.excO C hp.objs.size) := by rw [← z1]; exact Heap.get?_push_size _ rfl
  have I2 : Inv X pins σ (upd H1 (hp.objs.size + 1) (exo (hp.objs.size + 1) C none)) ⟨hp1.push (HandSPX.excO C hp.objs.size), g, dr, tk, os⟩ := I1.laid (t' := tk) kk (Nat.le_succ _) (exo_ok gt)
  have r2 : Vals (V.ref (hp.objs.size + 1) :: vs) (Value.ref (hp.objs.size + 1) :: us) := .cons rfl r1
  have hus : us.length ≤ 1000 := by rw [← Paired.length r1]; exact hz
  have hlen : (Value.ref (hp.objs.size + 1) :: us).length = ps.length := r2.length.symm.trans (F1.len _ _ _ _ hq)
  have bb := hb ⟨hp1.push (HandSPX.excO C hp.objs.size), g, dr, tk, os⟩ (Value.ref (hp.objs.size + 1) :: us) I2.kIn (by rw [List.append_nil]; exact hlen)
  rw [List.append_nil] at bb
  have run := F1.run _ X.stack _ _ ⟨Value.ref (hp.objs.size + 1) :: us, []⟩ _ _ _ E0 (hr.make C us []) (I2.env0.make C us []) bb r2 hq
  refine wpAny_call (HandSPX.call_own F.excBase_Exception (fun Y => PySem.W.excTail_contains Y bm hbm) (I1.kIn _ _ hC) (PySem.W.looks_findIn I1.kIn iC.1) (fun self => PySem.W.bind_fn I1.kIn self iC.2) (Nat.le_trans hus (by rw [sizeLine_eq]; omega)) ?_)
  rw [hP]
  refine codeAny_mono run ?_
  rintro (er | fl) s' hq'
  · exact hx pins σ _ _ er s' I2 hq'
  cases fl with
  | ret u =>
    obtain ⟨v, H2, os2, bare2, un2, hok2, rv, rfl, d, fs, ea, ed, hd1, q2⟩ := hq'
    obtain ⟨h2, g2, d2, t2, os'⟩ := s'
    exact ⟨rv, mk_end (raises_own T.st.2.1 T.st.2.2.1) I1 (Nat.le_succ _) kk un2 hok2 os2 bare2 ea ed hd1 q2⟩
  | next => exact hq'.elim
  | brk => exact hq'.elim
  | cont => exact hq'.elim
end
end Ag

end
/-! ## R1 -/
section
set_option linter.all false
set_option maxRecDepth 100000
set_option maxHeartbeats 4000000
namespace Ag
open PySem PySem.Spec PyProof.Rows L2
open SX (S S_len S_cat S_inj)
/-! ### a pool among data -/
def poolD (ps : List (List Nat × Nat)) : PyData := .tuple (ps.map fun e => .tuple [.str (S e.1), .int ((e.2 : Nat) : Int)])
theorem share_E {p c : Addr} {H : Hp} {v : V} {d : PyData} (h : Dg p c H v d) (e : shareB d = true) : ∃ (t : Addr) (x : List Nat) (n : Nat), v = .ref t ∧ H t = some (.tup [.str (S x), .int (n : Nat)]) ∧ d = .tuple [.str (S x), .int ((n : Nat) : Int)] ∧ wordL x = true ∧ 1 ≤ n ∧ n ≤ 100 := by
  cases h with
  | tup a b =>
    rename_i t xs ds
    cases b with
    | nil => simp [shareB] at e
    | cons h1 b =>
      cases b with
      | nil => simp [shareB] at e
      | cons h2 b =>
        cases b with
        | cons h3 b => simp [shareB] at e
        | nil =>
          simp only [shareB, Bool.and_eq_true] at e
          cases h1 with
          | str x =>
            cases h2 with
            | int w =>
              have e2 : (decide (1 ≤ w) && decide (w ≤ 100)) = true := e.2
              rw [Bool.and_eq_true, decide_eq_true_eq, decide_eq_true_eq] at e2
              obtain ⟨n, rfl⟩ := Int.eq_ofNat_of_zero_le (show 0 ≤ w by omega)
              exact ⟨t, x.cps.toList, n, rfl, a.2.2, rfl, e.1, by omega, by omega⟩
            | _ => simp [wholeB] at e
          | _ => simp [wordB] at e
  | _ => simp [shareB] at e
theorem shares_of {p c : Addr} {H : Hp} : ∀ {vs : List V} {ds : List PyData}, DgA p c H vs ds → ds.all shareB = true → ∃ (ts : List Addr) (ps : List (List Nat × Nat)), vs = ts.map V.ref ∧ PlI H ts ps ∧ ds = ps.map (fun e => .tuple [.str (S e.1), .int ((e.2 : Nat) : Int)]) ∧ (∀ e ∈ ps, wordL e.1 = true) ∧ (∀ e ∈ ps, 1 ≤ e.2 ∧ e.2 ≤ 100) ∧ ds.map labD = ps.map fun e => S e.1
  | [], [], _, _ => ⟨[], [], rfl, ⟨rfl, fun j t h => by simp at h⟩, rfl, (fun e h => by cases h), (fun e h => by cases h), rfl⟩
  | v :: vs, d :: ds, .cons h hs, e => by
    rw [List.all_cons, Bool.and_eq_true] at e
    obtain ⟨ts, ps, rfl, hp, rfl, hw, ht, hl⟩ := shares_of hs e.2
    obtain ⟨t, x, n, rfl, h1, rfl, h2, h3, h4⟩ := share_E h e.1
    refine ⟨t :: ts, (x, n) :: ps, rfl, ⟨by simp [hp.1], fun j u hj => ?_⟩, rfl, fun e he => ?_, fun e he => ?_, ?_⟩
    · match j, hj with
      | 0, hj => cases hj; exact ⟨_, rfl, h1⟩
      | j + 1, hj =>
        obtain ⟨y, h1, h2⟩ := hp.2 j u hj
        exact ⟨y, h1, h2⟩
    · rcases List.mem_cons.mp he with rfl | he
      · exact h2
      · exact hw e he
    · rcases List.mem_cons.mp he with rfl | he
      · exact ⟨h3, h4⟩
      · exact ht e he
    · rw [List.map_cons, List.map_cons, hl]
      rfl
theorem pool_of {p c : Addr} {H : Hp} {v : V} {d : PyData} (h : Dg p c H v d) (e : poolB d = true) : ∃ a ts ps, v = .ref a ∧ Pool a ts ps H ∧ d = poolD ps := by
  cases h with
  | tup ha hA =>
    rename_i a xs ds
    have e : (((decide (1 ≤ ds.length) && decide (ds.length ≤ 8)) && ds.all shareB) && decide ((ds.map labD).Nodup)) = true := e
    simp only [Bool.and_eq_true, decide_eq_true_eq] at e
    obtain ⟨⟨⟨h1, h8⟩, hs⟩, hn⟩ := e
    obtain ⟨ts, ps, rfl, hp, rfl, hw, ht, hl⟩ := shares_of hA hs
    refine ⟨a, ts, ps, rfl, ⟨ha.2.2, hp, ⟨by simpa using h1, by simpa using h8, hw, ht, ?_⟩⟩, rfl⟩
    rw [hl] at hn
    have : ((ps.map Prod.fst).map S).Nodup := by rw [List.map_map]; exact hn
    exact (List.pairwise_map.mp this).imp fun h z => h (by rw [z])
  | _ => cases e
/-! ### counts, of any data -/
abbrev ctD (cs : List Nat) : List PyData := cs.map fun k => PyData.int ((k : Nat) : Int)
def nonnegB : PyData → Bool
  | .int i => decide (0 ≤ i)
  | _ => false
def loadsB (n : Nat) : PyData → Bool
  | .tuple xs => decide (xs.length = n) && xs.all nonnegB
  | _ => false
theorem loads_ct (cs : List Nat) : loadsB cs.length (.tuple (ctD cs)) = true := by
  simp [loadsB, List.all_map, nonnegB]
theorem nats_of_D {p c : Addr} {H : Hp} : ∀ {vs : List V} {ds : List PyData}, DgA p c H vs ds → ds.all nonnegB = true → ∃ cs : List Nat, ds = ctD cs ∧ vs = ctV cs
  | [], [], _, _ => ⟨[], rfl, rfl⟩
  | v :: vs, d :: ds, .cons h t, e => by
    rw [List.all_cons, Bool.and_eq_true] at e
    obtain ⟨cs, rfl, rfl⟩ := nats_of_D t e.2
    cases h with
    | int i =>
      have h0 : 0 ≤ i := of_decide_eq_true e.1
      obtain ⟨n, rfl⟩ := Int.eq_ofNat_of_zero_le h0
      exact ⟨n :: cs, rfl, rfl⟩
    | _ => exact absurd e.1 (by simp [nonnegB])
theorem eqv_ct : ∀ a b : List Nat, PyData.eqvAll (ctD a) (ctD b) = decide (a = b)
  | [], [] => by simp [PyData.eqvAll]
  | [], _ :: _ => by simp [PyData.eqvAll]
  | _ :: _, [] => by simp [PyData.eqvAll]
  | x :: a, y :: b => by
    show PyData.eqvAll (PyData.int (x : Int) :: ctD a) (PyData.int (y : Int) :: ctD b) = _
    simp only [PyData.eqvAll, PyData.eqv, eqv_ct a b]
    rw [Bool.eq_iff_iff]
    simp
    omega
/-- counts after some number of turns -/
def Right (ps : List (List Nat × Nat)) (d : PyData) : Prop := ∃ cs : List Nat, d = .tuple (ctD cs) ∧ cs.length = ps.length ∧ Fair.Run ps.length (wF ps) (kF cs) cs.sum
section
variable {P : Program} {w : World} {K : PySem.W.Frag} {mg : Str → Option Value} {base : Heap} {tw tp tg : Tok}
def spLoadsG : Sp := fun vs H Q _ => ∃ p c a ts ps v d, vs = [.ref a, v] ∧ Pool a ts ps H ∧ Dg p c H v d ∧ ∀ H', Same H H' → Q (.bl (loadsB ps.length d)) H'
theorem ok_loadsG {f f1 : Addr} {fd fd1 : FuncData} (F : Fn K mg "are_loads" s_are_loads ["pool", "thing"] f fd) (B : Con mg tw tp tg) (F_is_integer : Fn K mg "is_integer" s_is_integer ["thing"] f1 fd1) : FnOk P w K mg base CX0 2 f fd ["pool", "thing"] spLoadsG := by
  have G_is_integer : FnOk P w K mg base CX0 1 f1 fd1 ["thing"] spIntG := ok_intG F_is_integer B
  refine F.F.ok sc_are_loads (fun vs H Q E h => ?_) (fun cdv A outer s H vs Q E hr h => ?_)
  · obtain ⟨p, c, a, ts, ps, v, d, rfl, _⟩ := h
    rfl
  · obtain ⟨p, c, a, ts, ps, v, d, rfl, pl, hd, q⟩ := h
    refine ⟨_, (pss_cons (ps_if (PW.pt (pw_or (pt_not (pt_val (pe_callB call_isi (by rfl) B.n_isinstance (by decide +kernel) (pa_cons (pv 1) (pa_cons (pe_bltn (v := .ty "tuple") (by rfl) B.n_tuple (by decide +kernel) rfl) pa_nil))))) (pw_or1 (pt_cmpR op_ne (pe_callB call_len_seq (by rfl) B.n_len PySem.boot_len (pa_cons (pv 1) pa_nil)) (pe_callB call_len_seq (by rfl) B.n_len PySem.boot_len (pa_cons (pv 0) pa_nil)) (nomark _)))))
      (pss_one (ps_ret pe_bl))
      pss_nil)
      (pss_one (ps_ret (pe_callB (cr_all rfl) (by rfl) B.n_all (by decide +kernel) (pa_cons (pe_lc (own := [("load", 2)]) rfl sc_are_loads.nd (pi_tup (pv 1)) (blkOk_by (N := N_are_loads) (sc := defScope s_are_loads) (by decide +kernel)) (fun _ _ _ _ _ => (pg_name (i := 2) sc_are_loads.nd rfl (Or.inl rfl))) (fun _ _ _ _ _ => pts_nil) (fun _ _ _ _ _ => (pe_and (pe_call G_is_integer (hr.mono (by decide)) (by rfl) F_is_integer.g F_is_integer.F.kp F_is_integer.b .nil pass0 (pa_cons (pv 2) pa_nil)) (pe_one (pe_cmpR op_ge (pv 2) pe_int (nomark _)))))) pa_nil))))), ?_⟩
    have n8 := pl.ok.n8
    have ln := pl.it.1
    refine ⟨v, rfl, v, .ty "tuple", _, _, _, rfl, .ty "tuple", hd.tyx, isi_T d, _, rfl, ?_⟩
    cases hd with
    | tup at_ da =>
      rename_i t xs ds
      have hl := da.len
      refine iteF ⟨_, rfl, t, _, rfl, .inr (SqT.of at_.2.2), _, rfl, a, _, rfl, .inr (SqT.of pl.at_), rfl, _, rfl, ?_⟩
      have q : ∀ H', Same H H' → Q (.bl (decide (ds.length = ps.length) && ds.all nonnegB)) H' := q
      by_cases e : ds.length = ps.length
      · rw [decide_eq_true e, Bool.true_and] at q
        rw [decide_eq_true (by rw [List.length_map, hl, ln, e])]
        refine iteF ⟨_, rfl, t, rfl, ⟨_, SqT.of at_.2.2⟩, fun D hD => ?_⟩
        refine lc_sel (walk_tup (K := K) (a := t) (xs := xs)) (fun _ => true) (fun i => .bl (nonnegB ((ds[i]?).getD .none))) (by omega) hD (fun H' s => SqT.of (s _ _ at_.2.2)) ?_ ?_
        · rintro j y H1 H2 k k0 hi s1 ⟨rfl, hy⟩ hk _
          obtain ⟨d', hd', dd⟩ := da.at_ hy
          have hk := hk rfl _ (Same.refl _)
          rw [hd'] at hk
          have dd := dd.to (Kp.same s1)
          refine ⟨rfl, _, rfl, p, c, y, d', rfl, dd, _, rfl, ?_⟩
          cases dd with
          | int i => exact iteT ⟨_, rfl, _, _, rfl, rfl, hk⟩
          | _ => exact iteF hk
        · intro H1 s1 h1
          rw [filt_all, bls_map] at h1
          refine ⟨D, _, rfl, SqL.of h1, ?_⟩
          have eall : ((List.range xs.length).map fun i => nonnegB ((ds[i]?).getD .none)).all id = ds.all nonnegB := by
            rw [hl, map_at ds fun o => nonnegB (o.getD .none)]
            simp [List.all_map]
          rw [eall]
          exact q _ s1
      · rw [decide_eq_false e, Bool.false_and] at q
        rw [decide_eq_false (fun z => e (by have := V.int.inj z; rw [List.length_map, hl, ln] at this; omega))]
        exact iteT (q _ (Same.refl _))
    | _ => exact iteT (iteT (q _ (Same.refl _)))
def spCountsG : Sp := fun vs H Q _ => ∃ p c a ts ps v d, vs = [.ref a, v] ∧ Pool a ts ps H ∧ Dg p c H v d ∧ ∀ (b : Bool) H', Same H H' → (b = true ↔ Right ps d) → Q (.bl b) H'
theorem ok_countsG {f f1 f2 : Addr} {fd fd1 fd2 : FuncData} (F : Fn K mg "are_counts" s_are_counts ["pool", "thing"] f fd) (B : Blt mg) (F_are_loads : Fn K mg "are_loads" s_are_loads ["pool", "thing"] f1 fd1) (G_are_loads : FnOk P w K mg base CX0 2 f1 fd1 ["pool", "thing"] spLoadsG)
    (F_counts_from_start : Fn K mg "counts_from_start" s_counts_from_start ["pool", "many"] f2 fd2) (G_counts_from_start : FnOk P w K mg base CX0 4 f2 fd2 ["pool", "many"] spFrom) : FnOk P w K mg base CX0 5 f fd ["pool", "thing"] spCountsG := by
  refine F.F.ok sc_are_counts (fun vs H Q E h => ?_) (fun cdv A outer s H vs Q E hr h => ?_)
  · obtain ⟨p, c, a, ts, ps, v, d, rfl, _⟩ := h
    rfl
  · obtain ⟨p, c, a, ts, ps, v, d, rfl, pl, hd, q⟩ := h
    refine ⟨_, (pss_one (ps_ret (pe_and (pe_call G_are_loads (hr.mono (by decide)) (by rfl) F_are_loads.g F_are_loads.F.kp F_are_loads.b .nil pass0 (pa_cons (pv 0) (pa_cons (pv 1) pa_nil))) (pe_one (pe_cmpR (op_eqD hr.units) (pe_call G_counts_from_start (hr.mono (by decide)) (by rfl) F_counts_from_start.g F_counts_from_start.F.kp F_counts_from_start.b .nil pass0 (pa_cons (pv 0) (pa_cons (pe_callB (cr_sumT rfl) (by rfl) B.n_sum (by decide +kernel) (pa_cons (pv 1) pa_nil)) pa_nil))) (pv 1) (nomark _)))))), ?_⟩
    refine ⟨_, rfl, _, rfl, p, c, a, ts, ps, v, d, rfl, pl, hd, fun H1 s1 => ⟨_, rfl, ?_⟩⟩
    cases hb : loadsB ps.length d with
    | false =>
      refine iteF (q false _ s1 ⟨fun z => (by cases z), fun z => ?_⟩)
      obtain ⟨cs, rfl, hl, _⟩ := z
      rw [← hl, loads_ct] at hb
      cases hb
    | true =>
      refine iteT ?_
      cases hd with
      | tup at_ da =>
        rename_i t xs ds
        simp only [loadsB, Bool.and_eq_true, decide_eq_true_eq] at hb
        obtain ⟨cs, rfl, rfl⟩ := nats_of_D da hb.2
        have hl : cs.length = ps.length := by rw [← hb.1]; simp
        have hc := at_.2.2
        refine ⟨_, rfl, _, rfl, t, cs.map (fun k => ((k : Nat) : Int)), rfl, SqT.of ((s1 _ _ hc).trans (by rw [ctV_int])), ?_⟩
        rw [sum_int]
        refine ⟨a, ts, ps, cs.sum, rfl, pl.to s1, fun t2 ks H2 s2 ht hkl hkr => ?_⟩
        have s12 := s1.trans s2
        refine ⟨_, rfl, .tuple (ctD ks), .tuple (ctD cs), .tup (SqT.of ht) (dp_ct ks), .tup (SqT.of (s12 _ _ hc)) (dp_ct cs), shaped_ct ks, shaped_ct cs, ?_⟩
        rw [show PyData.eqv (.tuple (ctD ks)) (.tuple (ctD cs)) = decide (ks = cs) by simp only [PyData.eqv]; exact eqv_ct ks cs]
        refine q _ _ s12 ⟨fun z => ?_, fun z => ?_⟩
        · have e := of_decide_eq_true z
          subst e
          exact ⟨ks, rfl, hl, hkr⟩
        · obtain ⟨cs', e, hl', hr'⟩ := z
          have e2 : ∀ a b : List Nat, ctD a = ctD b → a = b := fun a b h => by
            have := eqv_ct a b
            rw [h, eqv_ct b b, decide_eq_true rfl] at this
            exact of_decide_eq_true this.symm
          have e3 : cs = cs' := e2 _ _ (by injection e)
          subst e3
          exact decide_eq_true (kF_ext (hkl.trans hl.symm) (hkr.uniq hr'))
      | _ => simp [loadsB] at hb
end
end Ag

end
/-! ## EN -/
section
set_option linter.all false
set_option maxRecDepth 100000
namespace Ag
open PySem PySem.Spec PyProof.Rows L2
/-! ### defs that raise own exceptions where nothing is handled: the context of what they raise is None -/
section
variable {P : Program} {w : World} {K : PySem.W.Frag} {mg : Str → Option Value} {base : Heap}
theorem okXN {x qual : Str} {st : Stmt} {f : Addr} {fd : FuncData} {N ps : List Str} {k : Nat} {sp : Sp} (F : Fun K x qual st f fd) (S : FnScope N ps (defScope st)) (len : ∀ vs H Q E, sp vs H Q E → vs.length = ps.length)
    (body : ∀ (cdv : Value) (A : Around) (outer : List Env) (s : Shared) (H : Hp) (vs : List V) (Q : VK) (E : XK), Room k (A.deeper (envOfC qual (defScope st) s.heap.objs.size f cdv)) → sp vs H Q E →
      ∃ t, PSs (cxOf (L2N.CX P w) P w K mg base N qual (defScope st) f cdv A outer s H E) (defBody st) t ∧ t { nx := fun _ G => Q .non G, rt := Q } (start N vs) H) : FnOk P w K mg base (L2N.CX P w) (k + 1) f fd ps sp :=
  let ⟨_, _, _, _, _, _, _, _, _, ex, lk, hcd⟩ := F.ex
  by subst ex; exact fn_of lk hcd S len fun A outer s H vs Q E hr q => body _ A outer s H vs Q E hr q
end
section
variable {X : Cx} {o e : Expr} {es : List Expr} {to te : TE} {ta : TA} {f x : Str} {p p' pos : Pos}
theorem pmkEN {CX : CXT} {C fI : Addr} {k : Nat} {fd : FuncData} {ps : List Str} {sp : Sp} (T : OexE X.K C) (iC : PySem.W.findIn X.K (.ref C) "__init__" = some (some (.ref fI)) ∧ PySem.W.typeIn X.K (.ref fI) = some (.type "function"))
    (F1 : FnOk X.prog X.w X.K X.mg X.base CX k fI fd ps sp) (hr : Room (k + 1) X.A) (hb : Binds X.K fd ps []) (hx : Passes CX X E0) (hg : Gl X x) (hm : X.mg x = some (.ref C)) (ha : PA X (e :: es) ta) (hdb : (x == ("__debug__" : Str)) = false := by decide)
    (he : starEach (e :: es) X.env = (false, eval e X.env) :: starEach es X.env := by rfl) (hpl : (backTo pos (starEach es X.env)).any (·.1) = false := by rfl) : L2N.PMk X (.Call (.Name x p) (e :: es) [] pos) (tMkO C sp [] ta) := by
  intro pins s σ H Q I h
  refine wpAny_Call_Name_kw (ld_glob I hg hm (PySem.W.callWith_K (h₀ := X.base) I.ok.mod.kin T.st.2.2.2 (thn (ha.run pos pins s σ H _ I h) ?_) he hpl) hdb)
  rintro us ⟨hp, g, dr, tk, os⟩ ⟨vs, H1, I1, r1, hz, q1⟩
  refine ⟨I1.kIn, ?_⟩
  show wpAny _ _ (call (.ref C) us) _ _ _
  obtain ⟨nm, q, N, bs, bm, sn, sub, ab, col, dd, k0, k1, k2, k3, k5, hC, hbm⟩ := T.cl
  have hq := q1 (hp.objs.size + 1) (I1.hok.fresh (Nat.le_succ _))
  rw [List.append_nil] at hq
  generalize hP : hp.push (PySem.W.kdv_tup us) = hp1
  have z1 : hp1.objs.size = hp.objs.size + 1 := by rw [← hP, Heap.size_push]
  have kk : ∀ b o, hp.get? b = some o → (hp1.push (HandSPX.excO C hp.objs.size)).get? b = some o := fun b o w => Heap.get?_push_of_some _ (by rw [← hP]; exact Heap.get?_push_of_some _ w)
  have gt : (hp1.push (HandSPX.excO C hp.objs.size)).get? (hp.objs.size + 1) = some (HandSPX.excO C hp.objs.size) := by rw [← z1]; exact Heap.get?_push_size _ rfl
  have I2 : Inv X pins σ (upd H1 (hp.objs.size + 1) (exo (hp.objs.size + 1) C none)) ⟨hp1.push (HandSPX.excO C hp.objs.size), g, dr, tk, os⟩ := I1.laid (t' := tk) kk (Nat.le_succ _) (exo_ok gt)
  have r2 : Vals (V.ref (hp.objs.size + 1) :: vs) (Value.ref (hp.objs.size + 1) :: us) := .cons rfl r1
  have hus : us.length ≤ 1000 := by rw [← Paired.length r1]; exact hz
  have hlen : (Value.ref (hp.objs.size + 1) :: us).length = ps.length := r2.length.symm.trans (F1.len _ _ _ _ hq)
  have bb := hb ⟨hp1.push (HandSPX.excO C hp.objs.size), g, dr, tk, os⟩ (Value.ref (hp.objs.size + 1) :: us) I2.kIn (by rw [List.append_nil]; exact hlen)
  rw [List.append_nil] at bb
  have run := F1.run _ X.stack _ _ ⟨Value.ref (hp.objs.size + 1) :: us, []⟩ _ _ _ E0 (hr.make C us []) (I2.env0.make C us []) bb r2 hq
  refine wpAny_call (HandSPX.call_own F.excBase_Exception (fun Y => PySem.W.excTail_contains Y bm hbm) (I1.kIn _ _ hC) (PySem.W.looks_findIn I1.kIn iC.1) (fun self => PySem.W.bind_fn I1.kIn self iC.2) (Nat.le_trans hus (by rw [sizeLine_eq]; omega)) ?_)
  rw [hP]
  refine codeAny_mono run ?_
  rintro (er | fl) s' hq'
  · exact hx pins σ _ _ er s' I2 hq'
  cases fl with
  | ret u =>
    obtain ⟨v, H2, os2, bare2, un2, hok2, rv, rfl, d, fs, ea, ed, hd1, q2⟩ := hq'
    obtain ⟨h2, g2, d2, t2, os'⟩ := s'
    obtain ⟨t0, G, J, kG, ge, hoe, na⟩ := mk_end0 (d2 := d2) (t2 := t2) I1 (Nat.le_succ _) kk un2 hok2 os2 bare2 ea ed hd1
    exact ⟨rv, _, _, _, ⟨G, g2, d2, t2, os'⟩, _, .ref C, some d, rfl, J, kG, ge, hoe, ⟨rfl, rfl, fun vs e => by cases e; rfl⟩, rfl, rfl, na, rfl, bare2, raises_own T.st.2.1 T.st.2.2.1, q2⟩
  | next => exact hq'.elim
  | brk => exact hq'.elim
  | cont => exact hq'.elim
end
end Ag

end
/-! ## R2 -/
section
set_option linter.all false
set_option maxRecDepth 100000
set_option maxHeartbeats 4000000
namespace Ag
open PySem PySem.Spec PyProof.Rows L2
open SX (S S_len S_cat S_inj)
/-! ### own exception classes whose __init__ keeps one thing -/
abbrev N_BC : List Str := ["self", "thing"]
structure ExcI (K : PySem.W.Frag) (mg : Str → Option Value) (x qual : Str) (st : Stmt) (C fI : Addr) (fd : FuncData) : Prop where
  E : OexE K C
  X : XfC K C
  no : PySem.W.findIn K (.ref C) "thing" = some none
  i : PySem.W.findIn K (.ref C) "__init__" = some (some (.ref fI)) ∧ PySem.W.typeIn K (.ref fI) = some (.type "function")
  F : Fun K "__init__" qual st fI fd
  b : Binds K fd ["self", "thing"] []
  g : mg x = some (.ref C)
  ex : PySem.W.exmOne K (.ref C) (.ref C) = some true
def spIni (K : PySem.W.Frag) : Sp := fun vs H Q _ => ∃ (a C : Addr) (y : V), vs = [.ref a, y] ∧ OexE K C ∧ PySem.W.findIn K (.ref C) "thing" = some none ∧ H a = some (exo a C none) ∧ ∀ dx, H dx = none → dx ≠ a → Q .non (upd (upd H dx (exd dx [("thing", y)])) a (exo a C (some dx)))
section
variable {P : Program} {w : World} {K : PySem.W.Frag} {mg : Str → Option Value} {base : Heap} {tw tp tg : Tok}
theorem ini_BadNumber {f : Addr} {fd : FuncData} (F : Fun K "__init__" "BadNumber.__init__" s_BadNumber f fd) : FnOk P w K mg base CX0 1 f fd ["self", "thing"] (spIni K) := by
  refine F.ok sc_BadNumber (fun vs H Q E h => ?_) (fun cdv A outer s H vs Q E hr h => ?_)
  · obtain ⟨a, C, y, rfl, _⟩ := h
    rfl
  · obtain ⟨a, C, y, rfl, T, hno, ea, q⟩ := h
    refine ⟨_, pss_one (psE_ost (pv 0) (pv 1)), ?_⟩
    exact ⟨_, rfl, _, rfl, a, C, rfl, T, hno, ea, q⟩
theorem ini_BadPool {f : Addr} {fd : FuncData} (F : Fun K "__init__" "BadPool.__init__" s_BadPool f fd) : FnOk P w K mg base CX0 1 f fd ["self", "thing"] (spIni K) := by
  refine F.ok sc_BadPool (fun vs H Q E h => ?_) (fun cdv A outer s H vs Q E hr h => ?_)
  · obtain ⟨a, C, y, rfl, _⟩ := h
    rfl
  · obtain ⟨a, C, y, rfl, T, hno, ea, q⟩ := h
    refine ⟨_, pss_one (psE_ost (pv 0) (pv 1)), ?_⟩
    exact ⟨_, rfl, _, rfl, a, C, rfl, T, hno, ea, q⟩
theorem ini_BadCounts {f : Addr} {fd : FuncData} (F : Fun K "__init__" "BadCounts.__init__" s_BadCounts f fd) : FnOk P w K mg base CX0 1 f fd ["self", "thing"] (spIni K) := by
  refine F.ok sc_BadCounts (fun vs H Q E h => ?_) (fun cdv A outer s H vs Q E hr h => ?_)
  · obtain ⟨a, C, y, rfl, _⟩ := h
    rfl
  · obtain ⟨a, C, y, rfl, T, hno, ea, q⟩ := h
    refine ⟨_, pss_one (psE_ost (pv 0) (pv 1)), ?_⟩
    exact ⟨_, rfl, _, rfl, a, C, rfl, T, hno, ea, q⟩
theorem ini_BadLot {f : Addr} {fd : FuncData} (F : Fun K "__init__" "BadLot.__init__" s_BadLot f fd) : FnOk P w K mg base CX0 1 f fd ["self", "thing"] (spIni K) := by
  refine F.ok sc_BadLot (fun vs H Q E h => ?_) (fun cdv A outer s H vs Q E hr h => ?_)
  · obtain ⟨a, C, y, rfl, _⟩ := h
    rfl
  · obtain ⟨a, C, y, rfl, T, hno, ea, q⟩ := h
    refine ⟨_, pss_one (psE_ost (pv 0) (pv 1)), ?_⟩
    exact ⟨_, rfl, _, rfl, a, C, rfl, T, hno, ea, q⟩
theorem ini_BadWord {f : Addr} {fd : FuncData} (F : Fun K "__init__" "BadWord.__init__" s_BadWord f fd) : FnOk P w K mg base CX0 1 f fd ["self", "thing"] (spIni K) := by
  refine F.ok sc_BadWord (fun vs H Q E h => ?_) (fun cdv A outer s H vs Q E hr h => ?_)
  · obtain ⟨a, C, y, rfl, _⟩ := h
    rfl
  · obtain ⟨a, C, y, rfl, T, hno, ea, q⟩ := h
    refine ⟨_, pss_one (psE_ost (pv 0) (pv 1)), ?_⟩
    exact ⟨_, rfl, _, rfl, a, C, rfl, T, hno, ea, q⟩
/-- what a raise leaves: the thing in a new exception's fields -/
def Rsd (E : XK) (C : Addr) (H : Hp) (v : V) : Prop := ∀ dx H', Same H H' → H dx = none → H' dx = some (.xd [("thing", v)]) → E (.ref C) (some dx) H'
def spNextA (CP CC : Addr) : Sp := fun vs H Q E => ∃ p c v1 d1 v2 d2 q n b, vs = [v1, v2] ∧ Dg p c H v1 d1 ∧ Gd q d1 n b ∧ Dg p c H v2 d2 ∧ (poolB d1 = false → Rsd E CP H v1) ∧ ∀ ps, d1 = poolD ps → poolB d1 = true →
  (¬ Right ps d2 → Rsd E CC H v2) ∧ ∀ cs, d2 = .tuple (ctD cs) → cs.length = ps.length → Fair.Run ps.length (wF ps) (kF cs) cs.sum → ∀ (i : Nat) H', Same H H' → Fair.Pick ps.length (wF ps) (kF cs) (cs.sum + 1) i → Q (.int (i : Int)) H'
theorem ok_nextA {f f1 f2 f3 fI C fJ D : Addr} {fd fd1 fd2 fd3 fdI fdJ : FuncData} (F : Fn K mg "next_turn" s_next_turn ["pool", "counts"] f fd) (B : Con mg tw tp tg) (F_is_pool : Fn K mg "is_pool" s_is_pool ["thing"] f1 fd1) (G_is_pool : FnOk P w K mg base CX0 3 f1 fd1 ["thing"] spPoolG)
    (F_are_counts : Fn K mg "are_counts" s_are_counts ["pool", "thing"] f2 fd2) (G_are_counts : FnOk P w K mg base CX0 5 f2 fd2 ["pool", "thing"] spCountsG) (F_turn_after : Fn K mg "turn_after" s_turn_after ["pool", "counts"] f3 fd3) (G_turn_after : FnOk P w K mg base CX0 2 f3 fd3 ["pool", "counts"] spAfter)
    (TP : ExcI K mg "BadPool" "BadPool.__init__" s_BadPool C fI fdI) (TC : ExcI K mg "BadCounts" "BadCounts.__init__" s_BadCounts D fJ fdJ) : FnOk P w K mg base (L2N.CX P w) 6 f fd ["pool", "counts"] (spNextA C D) := by
  have G_p : FnOk P w K mg base CX0 1 fI fdI ["self", "thing"] (spIni K) := ini_BadPool TP.F
  have G_c : FnOk P w K mg base CX0 1 fJ fdJ ["self", "thing"] (spIni K) := ini_BadCounts TC.F
  refine okXN F.F sc_next_turn (fun vs H Q E h => ?_) (fun cdv A outer s H vs Q E hr h => ?_)
  · obtain ⟨p, c, v1, d1, v2, d2, qq, n, b, rfl, _⟩ := h
    rfl
  · obtain ⟨p, c, v1, d1, v2, d2, qq, n, b, rfl, hd1, hg1, hd2, q1, q2⟩ := h
    refine ⟨_, (pss_cons (ps_if (pt_not (pt_val (pe_call G_is_pool (hr.mono (by decide)) (by rfl) F_is_pool.g F_is_pool.F.kp F_is_pool.b .nil pass0 (pa_cons (pv 0) pa_nil))))
      (pss_one (L2N.ps_raise rfl (L2N.takes_of rfl rfl rfl rfl) (pmkEN TP.E TP.i G_p (hr.mono (by decide)) TP.b pass0 (by rfl) TP.g (pa_cons (pv 0) pa_nil))))
      pss_nil)
      (pss_cons (ps_if (pt_not (pt_val (pe_call G_are_counts (hr.mono (by decide)) (by rfl) F_are_counts.g F_are_counts.F.kp F_are_counts.b .nil pass0 (pa_cons (pv 0) (pa_cons (pv 1) pa_nil)))))
      (pss_one (L2N.ps_raise rfl (L2N.takes_of rfl rfl rfl rfl) (pmkEN TC.E TC.i G_c (hr.mono (by decide)) TC.b pass0 (by rfl) TC.g (pa_cons (pv 1) pa_nil))))
      pss_nil)
      (pss_one (ps_ret (pe_call G_turn_after (hr.mono (by decide)) (by rfl) F_turn_after.g F_turn_after.F.kp F_turn_after.b .nil pass0 (pa_cons (pv 0) (pa_cons (pv 1) pa_nil))))))), ?_⟩
    refine ⟨_, rfl, p, c, v1, d1, qq, n, b, rfl, hd1, hg1, fun H1 s1 => ⟨_, rfl, ?_⟩⟩
    cases hb : poolB d1 with
    | false =>
      refine iteT ⟨_, rfl, Nat.le_of_ble_eq_true rfl, fun x hx => ?_⟩
      refine ⟨x, _, _, rfl, TP.E, TP.no, upd_same, fun dx hdx ne => ⟨rfl, dx, _, upd_same, by rw [upd_ne ne, upd_same], by rw [upd_ne ne] at hdx; exact hdx, ?_⟩⟩
      rw [upd_ne ne] at hdx
      refine (q1 hb) dx _ (fun b o e => ?_) ((s1).free hdx) upd_same
      have e' := (s1) _ _ e
      have nb1 : b ≠ dx := ne_of_none e' hdx
      have nb2 : b ≠ x := ne_of_none e' hx
      rw [upd_ne nb1, del_ne nb2, upd_ne nb2, upd_ne nb1, upd_ne nb2]
      exact e'
    | true =>
    obtain ⟨a, ts, ps, rfl, pl, rfl⟩ := pool_of hd1 hb
    obtain ⟨q2, q3⟩ := q2 ps rfl hb
    refine iteF ?_
    refine ⟨_, rfl, _, rfl, p, c, a, ts, ps, v2, d2, rfl, pl.to s1, hd2.to (Kp.same s1), fun b H2 s2 hb => ⟨_, rfl, ?_⟩⟩
    have s12 := s1.trans s2
    cases b with
    | false =>
      have hn : ¬ Right ps d2 := fun z => by
        have := hb.mpr z
        cases this
      refine iteT ⟨_, rfl, Nat.le_of_ble_eq_true rfl, fun x hx => ?_⟩
      refine ⟨x, _, _, rfl, TC.E, TC.no, upd_same, fun dx hdx ne => ⟨rfl, dx, _, upd_same, by rw [upd_ne ne, upd_same], by rw [upd_ne ne] at hdx; exact hdx, ?_⟩⟩
      rw [upd_ne ne] at hdx
      refine (q2 hn) dx _ (fun b o e => ?_) ((s12).free hdx) upd_same
      have e' := (s12) _ _ e
      have nb1 : b ≠ dx := ne_of_none e' hdx
      have nb2 : b ≠ x := ne_of_none e' hx
      rw [upd_ne nb1, del_ne nb2, upd_ne nb2, upd_ne nb1, upd_ne nb2]
      exact e'
    | true =>
      obtain ⟨cs, rfl, hl, hrun⟩ := hb.mp rfl
      refine iteF ?_
      have hd2 := hd2.to (Kp.same s12)
      cases hd2 with
      | @tup t xs _ at_ da =>
        obtain ⟨cs', e, rfl⟩ := nats_of_D da (by simp [List.all_map, nonnegB])
        have e2 : cs = cs' := by
          have := eqv_ct cs cs'
          rw [e, eqv_ct cs' cs', decide_eq_true rfl] at this
          exact of_decide_eq_true this.symm
        subst e2
        exact ⟨_, rfl, _, rfl, a, ts, ps, t, cs, rfl, pl.to s12, .inr at_.2.2, hl, fun i H3 s3 pk => q3 cs rfl hl hrun i H3 (s12.trans s3) pk⟩
end
end Ag

end
/-! ## R3 -/
section
set_option linter.all false
set_option maxRecDepth 100000
set_option maxHeartbeats 4000000
namespace Ag
open PySem PySem.Spec PyProof.Rows L2
open SX (S S_len S_cat S_inj)
/-! ### turns and counts at any data -/
section
variable {P : Program} {w : World} {K : PySem.W.Frag} {mg : Str → Option Value} {base : Heap} {tw tp tg tt : Tok}
def spTurnsA (CP CN : Addr) : Sp := fun vs H Q E => ∃ p c v1 d1 v2 d2 q n b, vs = [v1, v2] ∧ Dg p c H v1 d1 ∧ Gd q d1 n b ∧ Dg p c H v2 d2 ∧ (poolB d1 = false → Rsd E CP H v1) ∧ ∀ ps, d1 = poolD ps → poolB d1 = true →
  (wholeB 0 2000 d2 = false → Rsd E CN H v2) ∧ ∀ k : Nat, d2 = .int k → k ≤ 2000 → ∀ t given H', Same H H' → H' t = some (.tup (ctV given)) → Tn ps.length (wF ps) given → given.length = k → Q (.ref t) H'
theorem ok_turnsA {f f1 f2 f3 fI C fJ D : Addr} {fd fd1 fd2 fd3 fdI fdJ : FuncData} (F : Fn K mg "turns" s_turns ["pool", "t"] f fd) (B : Con mg tw tp tg) (hT : mg "TURNS_MOST" = some (.int 2000 tt)) (F_is_pool : Fn K mg "is_pool" s_is_pool ["thing"] f1 fd1) (G_is_pool : FnOk P w K mg base CX0 3 f1 fd1 ["thing"] spPoolG)
    (F_is_integer : Fn K mg "is_integer" s_is_integer ["thing"] f2 fd2) (G_is_integer : FnOk P w K mg base CX0 1 f2 fd2 ["thing"] spIntG) (F_first_turns : Fn K mg "first_turns" s_first_turns ["pool", "many"] f3 fd3) (G_first_turns : FnOk P w K mg base CX0 3 f3 fd3 ["pool", "many"] spFirst)
    (TP : ExcI K mg "BadPool" "BadPool.__init__" s_BadPool C fI fdI) (TN : ExcI K mg "BadNumber" "BadNumber.__init__" s_BadNumber D fJ fdJ) : FnOk P w K mg base (L2N.CX P w) 6 f fd ["pool", "t"] (spTurnsA C D) := by
  have G_p : FnOk P w K mg base CX0 1 fI fdI ["self", "thing"] (spIni K) := ini_BadPool TP.F
  have G_c : FnOk P w K mg base CX0 1 fJ fdJ ["self", "thing"] (spIni K) := ini_BadNumber TN.F
  refine okXN F.F sc_turns (fun vs H Q E h => ?_) (fun cdv A outer s H vs Q E hr h => ?_)
  · obtain ⟨p, c, v1, d1, v2, d2, qq, n, b, rfl, _⟩ := h
    rfl
  · obtain ⟨p, c, v1, d1, v2, d2, qq, n, b, rfl, hd1, hg1, hd2, q1, q2⟩ := h
    refine ⟨_, (pss_cons (ps_if (pt_not (pt_val (pe_call G_is_pool (hr.mono (by decide)) (by rfl) F_is_pool.g F_is_pool.F.kp F_is_pool.b .nil pass0 (pa_cons (pv 0) pa_nil))))
      (pss_one (L2N.ps_raise rfl (L2N.takes_of rfl rfl rfl rfl) (pmkEN TP.E TP.i G_p (hr.mono (by decide)) TP.b pass0 (by rfl) TP.g (pa_cons (pv 0) pa_nil))))
      pss_nil)
      (pss_cons (ps_if (PW.pt (pw_or (pt_not (pt_val (pe_call G_is_integer (hr.mono (by decide)) (by rfl) F_is_integer.g F_is_integer.F.kp F_is_integer.b .nil pass0 (pa_cons (pv 1) pa_nil)))) (pw_or1 (pt_not (pt_chain op_le op_le pe_int (pv 1) (pe_glob (v := .int 2000) rfl hT ⟨_, rfl⟩))))))
      (pss_one (L2N.ps_raise rfl (L2N.takes_of rfl rfl rfl rfl) (pmkEN TN.E TN.i G_c (hr.mono (by decide)) TN.b pass0 (by rfl) TN.g (pa_cons (pv 1) pa_nil))))
      pss_nil)
      (pss_one (ps_ret (pe_callTy call_tuple_of (by rfl) B.n_tuple (by decide +kernel) (pa_cons (pe_call G_first_turns (hr.mono (by decide)) (by rfl) F_first_turns.g F_first_turns.F.kp F_first_turns.b .nil pass0 (pa_cons (pv 0) (pa_cons (pv 1) pa_nil))) pa_nil)))))), ?_⟩
    refine ⟨_, rfl, p, c, v1, d1, qq, n, b, rfl, hd1, hg1, fun H1 s1 => ⟨_, rfl, ?_⟩⟩
    cases hb : poolB d1 with
    | false =>
      refine iteT ⟨_, rfl, Nat.le_of_ble_eq_true rfl, fun x hx => ?_⟩
      refine ⟨x, _, _, rfl, TP.E, TP.no, upd_same, fun dx hdx ne => ⟨rfl, dx, _, upd_same, by rw [upd_ne ne, upd_same], by rw [upd_ne ne] at hdx; exact hdx, ?_⟩⟩
      rw [upd_ne ne] at hdx
      refine (q1 hb) dx _ (fun b o e => ?_) ((s1).free hdx) upd_same
      have e' := (s1) _ _ e
      have nb1 : b ≠ dx := ne_of_none e' hdx
      have nb2 : b ≠ x := ne_of_none e' hx
      rw [upd_ne nb1, del_ne nb2, upd_ne nb2, upd_ne nb1, upd_ne nb2]
      exact e'
    | true =>
    obtain ⟨a, ts, ps, rfl, pl, rfl⟩ := pool_of hd1 hb
    obtain ⟨q2, q3⟩ := q2 ps rfl hb
    refine iteF ?_
    refine ⟨_, rfl, p, c, v2, d2, rfl, hd2.to (Kp.same s1), _, rfl, ?_⟩
    cases hi : isIntB d2 with
    | false =>
      have hw : wholeB 0 2000 d2 = false := by cases d2 <;> first | rfl | cases hi
      refine iteT ?_
      refine iteT ⟨_, rfl, Nat.le_of_ble_eq_true rfl, fun x hx => ?_⟩
      refine ⟨x, _, _, rfl, TN.E, TN.no, upd_same, fun dx hdx ne => ⟨rfl, dx, _, upd_same, by rw [upd_ne ne, upd_same], by rw [upd_ne ne] at hdx; exact hdx, ?_⟩⟩
      rw [upd_ne ne] at hdx
      refine (q2 hw) dx _ (fun b o e => ?_) ((s1).free hdx) upd_same
      have e' := (s1) _ _ e
      have nb1 : b ≠ dx := ne_of_none e' hdx
      have nb2 : b ≠ x := ne_of_none e' hx
      rw [upd_ne nb1, del_ne nb2, upd_ne nb2, upd_ne nb1, upd_ne nb2]
      exact e'
    | true =>
      cases hd2 with
      | int i =>
        refine iteF ⟨_, rfl, _, _, rfl, rfl, _, rfl, ?_⟩
        have hwi : wholeB 0 2000 (.int i) = (decide (0 ≤ i) && decide (i ≤ 2000)) := rfl
        cases h0 : decide (0 ≤ i) with
        | false =>
          rw [h0, Bool.false_and] at hwi
          refine iteF ⟨_, rfl, ?_⟩
          refine iteT ⟨_, rfl, Nat.le_of_ble_eq_true rfl, fun x hx => ?_⟩
          refine ⟨x, _, _, rfl, TN.E, TN.no, upd_same, fun dx hdx ne => ⟨rfl, dx, _, upd_same, by rw [upd_ne ne, upd_same], by rw [upd_ne ne] at hdx; exact hdx, ?_⟩⟩
          rw [upd_ne ne] at hdx
          refine (q2 hwi) dx _ (fun b o e => ?_) ((s1).free hdx) upd_same
          have e' := (s1) _ _ e
          have nb1 : b ≠ dx := ne_of_none e' hdx
          have nb2 : b ≠ x := ne_of_none e' hx
          rw [upd_ne nb1, del_ne nb2, upd_ne nb2, upd_ne nb1, upd_ne nb2]
          exact e'
        | true =>
          rw [h0, Bool.true_and] at hwi
          refine iteT ⟨_, _, rfl, rfl, _, rfl, ?_⟩
          refine (show if (!decide (i ≤ 2000)) = true then _ else _ from ?_)
          cases h1 : decide (i ≤ 2000) with
          | false =>
            rw [h1] at hwi
            refine iteT ⟨_, rfl, Nat.le_of_ble_eq_true rfl, fun x hx => ?_⟩
            refine ⟨x, _, _, rfl, TN.E, TN.no, upd_same, fun dx hdx ne => ⟨rfl, dx, _, upd_same, by rw [upd_ne ne, upd_same], by rw [upd_ne ne] at hdx; exact hdx, ?_⟩⟩
            rw [upd_ne ne] at hdx
            refine (q2 hwi) dx _ (fun b o e => ?_) ((s1).free hdx) upd_same
            have e' := (s1) _ _ e
            have nb1 : b ≠ dx := ne_of_none e' hdx
            have nb2 : b ≠ x := ne_of_none e' hx
            rw [upd_ne nb1, del_ne nb2, upd_ne nb2, upd_ne nb1, upd_ne nb2]
            exact e'
          | true =>
            rw [decide_eq_true_eq] at h0 h1
            obtain ⟨k, rfl⟩ := Int.eq_ofNat_of_zero_le h0
            refine iteF ⟨_, rfl, _, rfl, a, ts, ps, k, rfl, pl.to s1, by omega, fun L given H' s2 hL tn hl => ⟨L, _, rfl, .inl ⟨SqL.of hL, fun u hu => ?_⟩⟩⟩
            exact q3 k rfl (by omega) u given _ ((s1.trans s2).trans (same_new hu)) upd_same tn hl
      | _ => cases hi
end
end Ag

end
/-! ## SetI -/
section
set_option linter.all false
set_option maxRecDepth 100000
namespace Ag
open PySem PySem.Spec PyProof.Rows L2
/-! ### set(xs) of a list or a tuple of ints, its length -/
section
variable {P : Program} {w : World} {A : Around} {E : Value → Shared → Prop} {s : Shared}
/-- a set's object as it is made -/
abbrev nilSetI (w : World) : Obj := { cls := .type "set", dict := none, data := .set #[] 0 (.fresh 0 0 (!w.params.followText "set-order")) }
set_option maxHeartbeats 3200000 in
theorem set_lstI {l : Addr} {its : Array Value} (ns : List Int) {Q : Value → Shared → Prop} (hh : A.handled = none) (hl : s.heap.IsList l its) (hit : IntsAre its.toList ns) (hb : ns.length + 1 < scanBound)
    (fin : ∀ (h' : Heap) (tk c : Nat), SetR w h' s.heap.objs.size (fun j => decide (j ∈ ns)) c → c ≤ ns.length → (∀ b o, s.heap.get? b = some o → h'.get? b = some o) → Q (.ref s.heap.objs.size) { s with heap := h', toks := tk }) :
    wpAny (model P w) A (call (.type "set") [.ref l]) Q E s := by
  have esz : its.size = ns.length := by
    have q := IntsAre.length hit
    rwa [Array.length_toList] at q
  obtain ⟨cc, tl, m0⟩ := F.called_set.mro
  have m1 := F.called_set.made
  have m2 := F.called_set.sub
  refine wpAny_call (codeAny_of_tree (show wpAny _ _ (callAny (.type "set") _) _ _ _ from wpAny_pure ⟨Code.quiet_builtin _ (by decide +kernel), codeAny_builtin F.entry_type_call ?_⟩))
  rw [Around.under_plain (weight_type_call_type "set" [.ref l] []) rfl]
  have m3 := F.called_set.notType
  have m4 := F.called_set.canCreate
  have m5 := F.typeCall_set_1 (.ref l)
  repeat (any_goals (first | assumption | wp_step))
  refine codeAny_mono (code_set_led1 (.ref l) (E := E) (Q₁ := fun ob s1 => ob = .ref s.heap.objs.size ∧ s1 = { s with heap := s.heap.push (nilSetI w) }) ⟨rfl, rfl⟩) fun r s1 hr => ?_
  match r, hr with
  | .error e, hr => exact hr
  | .ok .next, hr => exact hr.elim
  | .ok .brk, hr => exact hr.elim
  | .ok .cont, hr => exact hr.elim
  | .ok (.ret ob), hr =>
    obtain ⟨rfl, rfl⟩ := hr
    have g1 : (s.heap.push (nilSetI w)).get? s.heap.objs.size = some (nilSetI w) := Heap.get?_push_size _ rfl
    have g2 : Shared.TypeIs { s with heap := s.heap.push (nilSetI w) } (.ref s.heap.objs.size) "set" := ⟨_, g1, rfl⟩
    have m6 := F.called_set.init.lookup
    have m7 := F.called_set.init.bind (.ref s.heap.objs.size)
    repeat (any_goals (first | assumption | wp_step))
    refine codeAny_mono (codeAny_call_builtin (R := wants (fun r s2 => r = .none ∧ ∃ h' tk c, s2 = { s with heap := h', toks := tk } ∧ SetR w h' s.heap.objs.size (fun j => decide (j ∈ ns)) c ∧ c ≤ ns.length ∧
        (∀ b o, s.heap.get? b = some o → h'.get? b = some o)) E) F.called_set.init.plain F.entry_set_init (check_set_init_1 g2 ?_)) fun r2 s2 hr2 => ?_
    · obtain ⟨ol, e1, e2, nl, e3⟩ := hl
      obtain ⟨k1, k2, k3, k4⟩ := ol
      simp only at e2 e3
      subst e2 e3
      have g3 : (s.heap.push (nilSetI w)).get? l = some { cls := .type "list", dict := k2, data := .seq its nl, slots := k4 } := Heap.get?_push_of_some _ e1
      have m8 := F.sub_list_set
      have m9 := F.sub_list_frozenset
      have ma : (Value.type "list" == Value.type "dict") = false := by decide
      have hl1 : (s.heap.push (nilSetI w)).IsList l its := ⟨_, g3, rfl, nl, rfl⟩
      unfold Builtin.«set.__init__» noKeywords Builtin.Frozenset.updateFrom
      generalize hPI : pyIter = PI
      wp_walk
      subst hPI
      refine wpAny_pyIter_list hl1 (wpAny_bind (wpAny_runValue ?_))
      have lt := Heap.lt_size e1
      have hh3 : A.in1.in1.in1.handled = none := by simp [hh]
      have nI : l ≠ (s.heap.push (nilSetI w)).objs.size := by
        rw [Heap.size_push]
        exact Nat.ne_of_lt (Nat.lt_succ_of_lt lt)
      have nS : s.heap.objs.size ∉ [(s.heap.push (nilSetI w)).objs.size, l] := by
        rw [Heap.size_push]
        intro z
        rcases List.mem_cons.mp z with z | z
        · exact Nat.ne_of_lt (Nat.lt_succ_self _) z
        · exact Nat.ne_of_gt lt (List.mem_singleton.mp z)
      have vals : ∀ (i : Nat) (v : Value), its[i]? = some v → ∃ k t, ns[i]? = some k ∧ v = .int k t := fun i v hv => by
        have hi : i < ns.length := by rw [← esz]; exact (Array.getElem?_eq_some_iff.mp hv).1
        obtain ⟨t, e⟩ := IntsAre.int_at hit i v (by rw [Array.getElem?_toList]; exact hv)
        exact ⟨ns[i], t, List.getElem?_eq_getElem hi, by rw [e, List.getD_eq_getElem?_getD, List.getElem?_eq_getElem hi] <;> rfl⟩
      refine set_update_ints ((Walks.list hh3 _ l nI its).toS) s.heap.objs.size nS ns esz hb vals (its.size - 0) 0 _ (by omega) (Nat.zero_le _) ⟨⟨_, Heap.get?_push_size _ rfl, rfl, rfl⟩, (hl1.push _)⟩ ?_ ?_
      · exact ⟨0, Nat.le_refl 0, setR_new_at (Heap.get?_push_of_some _ g1)⟩
      · intro s' c' hm hc' hS'
        obtain ⟨h', q1, q2, tk', q3⟩ := s'
        obtain rfl : q1 = s.gens := hm.gens
        obtain rfl : q2 = s.drawn := hm.drawn
        obtain rfl : q3 = s.os := hm.os
        rw [esz] at hc'
        refine show wpAny _ _ _ _ _ _ from wpAny_pure (show wpAny _ _ (ret Value.none) _ _ _ from wpAny_pure ⟨rfl, h', tk', c', rfl, hS', hc', fun b o e => ?_⟩)
        have b0 : b < s.heap.objs.size := Heap.lt_size e
        refine hm.heap b o ?_ (Heap.get?_push_of_some _ (Heap.get?_push_of_some _ e))
        rw [Heap.size_push]
        intro z
        rcases List.mem_cons.mp z with z | z
        · exact Nat.ne_of_lt b0 z
        · exact Nat.ne_of_lt (Nat.lt_succ_of_lt b0) (List.mem_singleton.mp z)
    · match r2, hr2 with
      | .error e, hr2 => exact hr2
      | .ok .next, hr2 => exact hr2.elim
      | .ok .brk, hr2 => exact hr2.elim
      | .ok .cont, hr2 => exact hr2.elim
      | .ok (.ret r), hr2 =>
        obtain ⟨rfl, h', tk, c', rfl, a1, a2, a3⟩ := hr2
        repeat (any_goals (first | assumption | wp_step))
        exact fin _ _ _ a1 a2 a3
end
theorem setR_mem {w : World} {h : Heap} {a : Addr} {F : Int → Bool} {n : Nat} (R : SetR w h a F n) : ∃ L : List Int, L.Nodup ∧ (∀ k, k ∈ L ↔ F k = true) ∧ L.length = n := by
  obtain ⟨o, es, ep, t, _, _, _, _, nd, hk, _, _, hn, _⟩ := R
  exact ⟨es.toList.map keyOf, nd, fun k => (hk k).symm, by rw [List.length_map, Array.length_toList, hn]⟩
section
variable {X : Cx}
def rSetI (K : PySem.W.Frag) (w : World) : List V → Hp → VK → Prop := fun xs H Q => ∃ (l : Addr) (ns : List Int), xs = [.ref l] ∧ (SqL K H l (ns.map V.int) ∨ SqT K H l (ns.map V.int)) ∧ ns.length ≤ 1000 ∧
  ∀ (a : Addr) (L : List Int), H a = none → L.Nodup → (∀ k, k ∈ L ↔ k ∈ ns) → L.length ≤ ns.length → Q (.ref a) (upd H a (SetO w a (fun j => decide (j ∈ ns)) L.length))
theorem cr_setI (hc : X.calm = true) : CallR X (.type "set") (rSetI X.K X.w) := by
  intro pins s σ H xs us Q I r h
  obtain ⟨l, ns, rfl, hs, hz, q⟩ := h
  rw [Vals.ref1 r]
  have hz2 : ns.length + 1 < scanBound := by unfold scanBound; omega
  have done : ∀ (h' : Heap) (tk c : Nat), SetR X.w h' s.heap.objs.size (fun j => decide (j ∈ ns)) c → c ≤ ns.length → (∀ b o, s.heap.get? b = some o → h'.get? b = some o) → EP X pins σ Q (.ref s.heap.objs.size) { s with heap := h', toks := tk } := by
    intro h' tk c R hcn kp
    obtain ⟨L, nd, hm, hl⟩ := setR_mem R
    subst hl
    exact ⟨.ref _, _, I.laid (t' := tk) kp (Nat.le_refl _) (setO_new R), rfl, q _ L (I.hok.fresh (Nat.le_refl _)) nd (fun k => by rw [hm k, decide_eq_true_eq]) hcn⟩
  rcases hs with hs | hs
  · obtain ⟨its, rv, pl, _⟩ := I.list hs
    exact set_lstI ns (I.ok.hd hc) pl.isList (by simpa using ints_of_vals rv) hz2 done
  · obtain ⟨its, rv, pl, _⟩ := I.tuple hs
    exact call_set_tupI ns (I.ok.hd hc) pl (by simpa using ints_of_vals rv) hz2 done
def rLenSet (w : World) : List V → Hp → VK → Prop := fun xs H Q => ∃ (a : Addr) (F : Int → Bool) (n : Nat), xs = [.ref a] ∧ H a = some (SetO w a F n) ∧ n ≤ 1000 ∧ Q (.int (n : Nat)) H
theorem cr_lenSet : CallR X (.builtin "len") (rLenSet X.w) := by
  intro pins s σ H xs us Q I r h
  obtain ⟨a, F, n, rfl, ha, hn, q⟩ := h
  rw [Vals.ref1 r]
  obtain ⟨o, es, ep, t, ho, hex, hd, _, _, _, _, hf, he, _⟩ := setO_get I ha
  exact call_len_set ho hex hd hf (by rw [he]; omega) ⟨.int n, H, I.tok _, ⟨_, by rw [he]⟩, q⟩
end
end Ag

end
/-! ## R4 -/
section
set_option linter.all false
set_option maxRecDepth 100000
set_option maxHeartbeats 4000000
namespace Ag
open PySem PySem.Spec PyProof.Rows L2
open SX (S S_len S_cat S_inj)
/-! ### lots at any data -/
def ascI : List Int → Bool
  | [] => true
  | a :: l => l.all (fun b => decide (a < b)) && ascI l
def lotB (hi : Int) : PyData → Bool
  | .tuple xs => xs.all (wholeB 0 hi) && ascI (xs.map asInt)
  | _ => false
theorem ascI_iff : ∀ l : List Int, ascI l = true ↔ l.Pairwise (· < ·)
  | [] => by simp [ascI]
  | a :: l => by
    rw [ascI, Bool.and_eq_true, ascI_iff l, List.pairwise_cons, List.all_eq_true]
    simp
theorem asc_uniq : ∀ {l k : List Int}, l.Pairwise (· < ·) → k.Pairwise (· < ·) → (∀ x, x ∈ l ↔ x ∈ k) → l = k
  | [], [], _, _, _ => rfl
  | [], b :: k, _, _, h => absurd ((h b).mpr List.mem_cons_self) (by simp)
  | a :: l, [], _, _, h => absurd ((h a).mp List.mem_cons_self) (by simp)
  | a :: l, b :: k, hl, hk, h => by
    rw [List.pairwise_cons] at hl hk
    have hab : a = b := by
      have h1 := (h a).mp List.mem_cons_self
      have h2 := (h b).mpr List.mem_cons_self
      rcases List.mem_cons.mp h1 with e | e
      · exact e
      · rcases List.mem_cons.mp h2 with e2 | e2
        · exact e2.symm
        · have := hk.1 a e
          have := hl.1 b e2
          omega
    subst hab
    congr 1
    refine asc_uniq hl.2 hk.2 fun x => ⟨fun hx => ?_, fun hx => ?_⟩
    · rcases List.mem_cons.mp ((h x).mp (List.mem_cons_of_mem _ hx)) with e | e
      · have := hl.1 x hx
        omega
      · exact e
    · rcases List.mem_cons.mp ((h x).mpr (List.mem_cons_of_mem _ hx)) with e | e
      · have := hk.1 x hx
        omega
      · exact e
theorem eqv_ints : ∀ a b : List Int, PyData.eqvAll (a.map PyData.int) (b.map PyData.int) = decide (a = b)
  | [], [] => by simp [PyData.eqvAll]
  | [], _ :: _ => by simp [PyData.eqvAll]
  | _ :: _, [] => by simp [PyData.eqvAll]
  | x :: a, y :: b => by
    simp only [List.map_cons, PyData.eqvAll, PyData.eqv, eqv_ints a b]
    rw [Bool.eq_iff_iff]
    simp
/-- a tuple's items that are all ints -/
theorem ints_of_D {p c : Addr} {H : Hp} {lo hi : Int} : ∀ {vs : List V} {ds : List PyData}, DgA p c H vs ds → ds.all (wholeB lo hi) = true → vs = (ds.map asInt).map V.int
  | [], [], _, _ => rfl
  | v :: vs, d :: ds, .cons h t, e => by
    rw [List.all_cons, Bool.and_eq_true] at e
    rw [List.map_cons, List.map_cons, ← ints_of_D t e.2]
    cases h with
    | int i => rfl
    | _ => exact absurd e.1 (by simp [wholeB])
section
variable {P : Program} {w : World} {K : PySem.W.Frag} {mg : Str → Option Value} {base : Heap} {tw tp tg tt : Tok}
def spAfterA (CP CN : Addr) : Sp := fun vs H Q E => ∃ p c v1 d1 v2 d2 q n b, vs = [v1, v2] ∧ Dg p c H v1 d1 ∧ Gd q d1 n b ∧ Dg p c H v2 d2 ∧ (poolB d1 = false → Rsd E CP H v1) ∧ ∀ ps, d1 = poolD ps → poolB d1 = true →
  ((∀ k : Nat, d2 ≠ .int k) → Rsd E CN H v2) ∧ ∀ k : Nat, d2 = .int k → ∀ t ks H', Same H H' → H' t = some (.tup (ctV ks)) → ks.length = ps.length → Fair.Run ps.length (wF ps) (kF ks) k → Q (.ref t) H'
theorem ok_afterA {f f1 f2 f3 fI C fJ D : Addr} {fd fd1 fd2 fd3 fdI fdJ : FuncData} (F : Fn K mg "counts_after" s_counts_after ["pool", "t"] f fd) (B : Con mg tw tp tg) (F_is_pool : Fn K mg "is_pool" s_is_pool ["thing"] f1 fd1) (G_is_pool : FnOk P w K mg base CX0 3 f1 fd1 ["thing"] spPoolG)
    (F_is_integer : Fn K mg "is_integer" s_is_integer ["thing"] f2 fd2) (G_is_integer : FnOk P w K mg base CX0 1 f2 fd2 ["thing"] spIntG) (F_counts_from_start : Fn K mg "counts_from_start" s_counts_from_start ["pool", "many"] f3 fd3) (G_counts_from_start : FnOk P w K mg base CX0 4 f3 fd3 ["pool", "many"] spFrom)
    (TP : ExcI K mg "BadPool" "BadPool.__init__" s_BadPool C fI fdI) (TN : ExcI K mg "BadNumber" "BadNumber.__init__" s_BadNumber D fJ fdJ) : FnOk P w K mg base (L2N.CX P w) 6 f fd ["pool", "t"] (spAfterA C D) := by
  have G_p : FnOk P w K mg base CX0 1 fI fdI ["self", "thing"] (spIni K) := ini_BadPool TP.F
  have G_c : FnOk P w K mg base CX0 1 fJ fdJ ["self", "thing"] (spIni K) := ini_BadNumber TN.F
  refine okXN F.F sc_counts_after (fun vs H Q E h => ?_) (fun cdv A outer s H vs Q E hr h => ?_)
  · obtain ⟨p, c, v1, d1, v2, d2, qq, n, b, rfl, _⟩ := h
    rfl
  · obtain ⟨p, c, v1, d1, v2, d2, qq, n, b, rfl, hd1, hg1, hd2, q1, q2⟩ := h
    refine ⟨_, (pss_cons (ps_if (pt_not (pt_val (pe_call G_is_pool (hr.mono (by decide)) (by rfl) F_is_pool.g F_is_pool.F.kp F_is_pool.b .nil pass0 (pa_cons (pv 0) pa_nil))))
      (pss_one (L2N.ps_raise rfl (L2N.takes_of rfl rfl rfl rfl) (pmkEN TP.E TP.i G_p (hr.mono (by decide)) TP.b pass0 (by rfl) TP.g (pa_cons (pv 0) pa_nil))))
      pss_nil)
      (pss_cons (ps_if (PW.pt (pw_or (pt_not (pt_val (pe_call G_is_integer (hr.mono (by decide)) (by rfl) F_is_integer.g F_is_integer.F.kp F_is_integer.b .nil pass0 (pa_cons (pv 1) pa_nil)))) (pw_or1 (pt_cmpR op_lt (pv 1) pe_int (nomark _)))))
      (pss_one (L2N.ps_raise rfl (L2N.takes_of rfl rfl rfl rfl) (pmkEN TN.E TN.i G_c (hr.mono (by decide)) TN.b pass0 (by rfl) TN.g (pa_cons (pv 1) pa_nil))))
      pss_nil)
      (pss_one (ps_ret (pe_call G_counts_from_start (hr.mono (by decide)) (by rfl) F_counts_from_start.g F_counts_from_start.F.kp F_counts_from_start.b .nil pass0 (pa_cons (pv 0) (pa_cons (pv 1) pa_nil))))))), ?_⟩
    refine ⟨_, rfl, p, c, v1, d1, qq, n, b, rfl, hd1, hg1, fun H1 s1 => ⟨_, rfl, ?_⟩⟩
    cases hb : poolB d1 with
    | false =>
      refine iteT ⟨_, rfl, Nat.le_of_ble_eq_true rfl, fun x hx => ?_⟩
      refine ⟨x, _, _, rfl, TP.E, TP.no, upd_same, fun dx hdx ne => ⟨rfl, dx, _, upd_same, by rw [upd_ne ne, upd_same], by rw [upd_ne ne] at hdx; exact hdx, ?_⟩⟩
      rw [upd_ne ne] at hdx
      refine (q1 hb) dx _ (fun b o e => ?_) ((s1).free hdx) upd_same
      have e' := (s1) _ _ e
      have nb1 : b ≠ dx := ne_of_none e' hdx
      have nb2 : b ≠ x := ne_of_none e' hx
      rw [upd_ne nb1, del_ne nb2, upd_ne nb2, upd_ne nb1, upd_ne nb2]
      exact e'
    | true =>
    obtain ⟨a, ts, ps, rfl, pl, rfl⟩ := pool_of hd1 hb
    obtain ⟨q2, q3⟩ := q2 ps rfl hb
    refine iteF ?_
    refine ⟨_, rfl, p, c, v2, d2, rfl, hd2.to (Kp.same s1), _, rfl, ?_⟩
    cases hi : isIntB d2 with
    | false =>
      have hw : ∀ k : Nat, d2 ≠ .int k := fun k e => by rw [e] at hi; cases hi
      refine iteT ?_
      refine iteT ⟨_, rfl, Nat.le_of_ble_eq_true rfl, fun x hx => ?_⟩
      refine ⟨x, _, _, rfl, TN.E, TN.no, upd_same, fun dx hdx ne => ⟨rfl, dx, _, upd_same, by rw [upd_ne ne, upd_same], by rw [upd_ne ne] at hdx; exact hdx, ?_⟩⟩
      rw [upd_ne ne] at hdx
      refine (q2 hw) dx _ (fun b o e => ?_) ((s1).free hdx) upd_same
      have e' := (s1) _ _ e
      have nb1 : b ≠ dx := ne_of_none e' hdx
      have nb2 : b ≠ x := ne_of_none e' hx
      rw [upd_ne nb1, del_ne nb2, upd_ne nb2, upd_ne nb1, upd_ne nb2]
      exact e'
    | true =>
      cases hd2 with
      | int i =>
        refine iteF ⟨_, rfl, _, _, rfl, rfl, _, rfl, ?_⟩
        cases h0 : decide (i < 0) with
        | true =>
          have hw : ∀ k : Nat, PyData.int i ≠ .int k := fun k e => by
            injection e with e
            have := of_decide_eq_true h0
            omega
          refine iteT ⟨_, rfl, Nat.le_of_ble_eq_true rfl, fun x hx => ?_⟩
          refine ⟨x, _, _, rfl, TN.E, TN.no, upd_same, fun dx hdx ne => ⟨rfl, dx, _, upd_same, by rw [upd_ne ne, upd_same], by rw [upd_ne ne] at hdx; exact hdx, ?_⟩⟩
          rw [upd_ne ne] at hdx
          refine (q2 hw) dx _ (fun b o e => ?_) ((s1).free hdx) upd_same
          have e' := (s1) _ _ e
          have nb1 : b ≠ dx := ne_of_none e' hdx
          have nb2 : b ≠ x := ne_of_none e' hx
          rw [upd_ne nb1, del_ne nb2, upd_ne nb2, upd_ne nb1, upd_ne nb2]
          exact e'
        | false =>
          have h0 := of_decide_eq_false h0
          obtain ⟨k, rfl⟩ := Int.eq_ofNat_of_zero_le (show 0 ≤ i by omega)
          exact iteF ⟨_, rfl, _, rfl, a, ts, ps, k, rfl, pl.to s1, fun t ks H' s2 ht hl hr => q3 k rfl t ks H' (s1.trans s2) ht hl hr⟩
      | _ => cases hi
def spLotA : Sp := fun vs H Q _ => ∃ p c a ts ps v d q n b, vs = [.ref a, v] ∧ Pool a ts ps H ∧ Dg p c H v d ∧ Gd q d n b ∧ ∀ H', Same H H' → Q (.bl (lotB ((ps.length : Int) - 1) d)) H'
theorem ok_lotA (hso : mg "sorted" = none) {f f1 : Addr} {fd fd1 : FuncData} (F : Fn K mg "is_lot" s_is_lot ["pool", "thing"] f fd) (B : Con mg tw tp tg) (F_is_integer : Fn K mg "is_integer" s_is_integer ["thing"] f1 fd1) (G_is_integer : FnOk P w K mg base CX0 1 f1 fd1 ["thing"] spIntG) : FnOk P w K mg base CX0 2 f fd ["pool", "thing"] spLotA := by
  refine F.F.ok sc_is_lot (fun vs H Q E h => ?_) (fun cdv A outer s H vs Q E hr h => ?_)
  · obtain ⟨p, c, a, ts, ps, v, d, qq, n, b, rfl, _⟩ := h
    rfl
  · obtain ⟨p, c, a0, ts, ps, x, d, qq, n, b, rfl, pl, hd, hg, q⟩ := h
    refine ⟨_, (pss_cons (ps_if (PW.pt (pw_or (pt_not (pt_val (pe_callB call_isi (by rfl) B.n_isinstance (by decide +kernel) (pa_cons (pv 1) (pa_cons (pe_bltn (v := .ty "tuple") (by rfl) B.n_tuple (by decide +kernel) rfl) pa_nil))))) (pw_or1 (pt_not (pt_val (pe_callB (cr_all rfl) (by rfl) B.n_all (by decide +kernel) (pa_cons (pe_lc (own := [("at", 2)]) rfl sc_is_lot.nd (pi_tup (pv 1)) (blkOk_by (N := N_is_lot) (sc := defScope s_is_lot) (by decide +kernel)) (fun _ _ _ _ _ => (pg_name (i := 2) sc_is_lot.nd rfl (Or.inl rfl))) (fun _ _ _ _ _ => pts_nil) (fun _ _ _ _ _ => (pe_and (pe_call G_is_integer (hr.mono (by decide)) (by rfl) F_is_integer.g F_is_integer.F.kp F_is_integer.b .nil pass0 (pa_cons (pv 2) pa_nil)) (pe_one (pe_chain op_le op_lt pe_int (pv 2) (pe_callB (call_lenK K rfl) (by rfl) B.n_len PySem.boot_len (pa_cons (pv 0) pa_nil))))))) pa_nil)))))))
      (pss_one (ps_ret pe_bl))
      pss_nil)
      (pss_one (ps_ret (pe_cmpR (op_eqD hr.units) (pe_callTy call_list_of (by rfl) B.n_list (by decide +kernel) (pa_cons (pv 1) pa_nil)) (pe_callB (cr_sortedSet rfl) (by rfl) hso (by decide +kernel) (pa_cons (pe_callTy (cr_setI rfl) (by rfl) B.n_set (by decide +kernel) (pa_cons (pv 1) pa_nil)) pa_nil)) (nomark _))))), ?_⟩
    refine ⟨_, rfl, x, .ty "tuple", _, _, _, rfl, .ty "tuple", hd.tyx, isi_T d, _, rfl, ?_⟩
    cases hd with
    | @tup a xs ds ha hA =>
      obtain ⟨hgA, hl⟩ := hg.untup
      have hxl : xs.length ≤ 60 := by rw [hA.len]; exact hl
      have hpl : ts.length = ps.length := pl.it.1
      refine iteF ?_
      refine ⟨_, rfl, a, rfl, ⟨_, SqT.of ha.2.2⟩, fun D hD => ?_⟩
      refine lc_sel (walk_tup (K := K) (a := a) (xs := xs)) (fun _ => true) (fun i => .bl (wholeB 0 ((ps.length : Int) - 1) (ds.getD i .none))) (by omega) hD (fun H' s => SqT.of (s _ _ ha.2.2)) ?_ ?_
      · rintro i y H1 H2 k k0 hi s1 ⟨rfl, hy⟩ hk _
        obtain ⟨d, hdi, hdg⟩ := hA.at_ hy
        have hk := hk rfl H2 (Same.refl _)
        rw [List.getD_eq_getElem?_getD, hdi] at hk
        have hk : k (.bl (wholeB 0 ((ps.length : Int) - 1) d)) H2 := hk
        have hdg := hdg.to (.same s1)
        refine ⟨rfl, _, rfl, p, c, y, d, rfl, hdg, _, rfl, ?_⟩
        cases hi2 : isIntB d with
        | false =>
          have hw : wholeB 0 ((ps.length : Int) - 1) d = false := by cases d <;> first | rfl | cases hi2
          rw [hw] at hk
          exact iteF hk
        | true =>
          cases hdg with
          | int j =>
            have hk : k (.bl (decide (0 ≤ j) && decide (j ≤ (ps.length : Int) - 1))) H2 := hk
            refine iteT ⟨_, rfl, _, _, rfl, rfl, _, rfl, ?_⟩
            cases h0 : decide (0 ≤ j) with
            | false =>
              rw [h0, Bool.false_and] at hk
              exact iteF hk
            | true =>
              rw [h0, Bool.true_and] at hk
              refine iteT ⟨_, rfl, a0, _, rfl, .inr (SqT.of (s1 _ _ pl.at_)), _, _, rfl, rfl, ?_⟩
              have e : decide (j < ((ts.map V.ref).length : Int)) = decide (j ≤ (ps.length : Int) - 1) := by
                rw [List.length_map, hpl, Bool.eq_iff_iff, decide_eq_true_eq, decide_eq_true_eq]
                omega
              refine (show k (.bl (decide (j < ((ts.map V.ref).length : Int)))) H2 from ?_)
              rw [e]
              exact hk
          | _ => cases hi2
      · intro H1 s1 h1
        rw [filt_all, bls_map] at h1
        refine ⟨D, _, rfl, SqL.of h1, _, rfl, ?_⟩
        have e : ((List.range xs.length).map fun i => wholeB 0 ((ps.length : Int) - 1) (ds.getD i .none)).all id = ds.all (wholeB 0 ((ps.length : Int) - 1)) := by
          rw [hA.len]
          exact all_at ds _ .none
        rw [e]
        have q : ∀ H', Same H H' → Q (.bl (ds.all (wholeB 0 ((ps.length : Int) - 1)) && ascI (ds.map asInt))) H' := q
        cases hall : ds.all (wholeB 0 ((ps.length : Int) - 1)) with
        | false =>
          rw [hall, Bool.false_and] at q
          exact iteT (q _ s1)
        | true =>
          rw [hall, Bool.true_and] at q
          refine iteF ?_
          have hxs := ints_of_D hA hall
          generalize ds.map asInt = ns at hxs q
          subst hxs
          rw [List.length_map] at hxl
          refine ⟨_, rfl, a, _, rfl, .inr (SqT.of (s1 _ _ ha.2.2)), fun l hl => ?_⟩
          have s2 := s1.trans (same_new (o := .lst (ns.map V.int)) hl)
          refine ⟨_, rfl, a, ns, rfl, .inr (SqT.of (s2 _ _ ha.2.2)), by omega, fun st L hst nd hm hll => ?_⟩
          have nls : l ≠ st := ne_of_none (H := upd H1 l (.lst (ns.map V.int))) upd_same hst
          refine ⟨st, _, _, rfl, upd_same, by omega, fun ns' r hpw hmem hlen hr => ?_⟩
          have nsr : st ≠ r := ne_of_none upd_same hr
          have nlr : l ≠ r := ne_of_none (by rw [upd_ne nls]; exact upd_same) hr
          refine ⟨.list (ns.map .int), .list (ns'.map .int), .lst (SqL.of (by rw [upd_ne nlr, upd_ne nls, upd_same])) (dpIntsG _), .lst (SqL.of upd_same) (dpIntsG _), shaped_ints _, shaped_ints _, ?_⟩
          have e2 : PyData.eqv (.list (ns.map .int)) (.list (ns'.map .int)) = ascI ns := by
            rw [PyData.eqv, eqv_ints, Bool.eq_iff_iff, decide_eq_true_eq, ascI_iff]
            constructor
            · rintro rfl
              exact hpw
            · intro h
              exact asc_uniq h hpw fun k => by rw [hmem k, decide_eq_true_eq]
          rw [e2]
          exact q _ ((s2.trans (same_new hst)).trans (same_new hr))
    | _ => exact iteT (iteT (q _ (Same.refl _)))
end
end Ag

end
/-! ## ScM -/
section
set_option linter.all false
namespace Sc
/-! ### scores, the best of a lot, the least busy one: plain mathematics -/
def scL (l : List Nat) : Nat := l.foldl (fun v c => (v * 251 + c) % 65521) 7
theorem scL_snoc (l : List Nat) (c : Nat) : scL (l ++ [c]) = (scL l * 251 + c) % 65521 := by
  unfold scL
  rw [List.foldl_append]
  rfl
theorem scL_take {l : List Nat} {j c : Nat} (h : l[j]? = some c) : scL (l.take (j + 1)) = (scL (l.take j) * 251 + c) % 65521 := by
  rw [List.take_add_one, h]
  exact scL_snoc _ _
theorem scL_lt (l : List Nat) : scL l < 65521 := by
  rcases List.eq_nil_or_concat l with rfl | ⟨a, c, rfl⟩
  · decide
  · rw [List.concat_eq_append, scL_snoc]
    exact Nat.mod_lt _ (by decide)
structure Bst (f : Nat → Nat) (ns : List Nat) (i : Nat) : Prop where
  mem : i ∈ ns
  top : ∀ j ∈ ns, f j ≤ f i
  low : ∀ j ∈ ns, f j = f i → i ≤ j
theorem Bst.uniq {f : Nat → Nat} {ns : List Nat} {i j : Nat} (a : Bst f ns i) (b : Bst f ns j) : i = j := by
  have h1 := a.top j b.mem
  have h2 := b.top i a.mem
  have h3 := a.low j b.mem (by omega)
  have h4 := b.low i a.mem (by omega)
  omega
theorem Bst.out {f : Nat → Nat} {ns ms : List Nat} {i k x : Nat} (a : Bst f ns i) (b : Bst f ms k) (hm : ∀ y, y ∈ ms ↔ y ∈ ns ∧ y ≠ x) (h : x ≠ i) : k = i :=
  b.uniq ⟨(hm i).mpr ⟨a.mem, h.symm⟩, fun j hj => a.top j ((hm j).mp hj).1, fun j hj => a.low j ((hm j).mp hj).1⟩
theorem Bst.into {f : Nat → Nat} {ns ms : List Nat} {i k x : Nat} (a : Bst f ns i) (b : Bst f ms k) (hm : ∀ y, y ∈ ms ↔ y ∈ ns ∨ y = x) : k = i ∨ k = x := by
  rcases (hm k).mp b.mem with h | h
  · have h1 := a.top k h
    have h2 := b.top i ((hm i).mpr (.inl a.mem))
    have h3 := a.low k h (by omega)
    have h4 := b.low i ((hm i).mpr (.inl a.mem)) (by omega)
    exact .inl (by omega)
  · exact .inr h
theorem first_at {α : Type} (P : α → Prop) [DecidablePred P] : ∀ (l : List α), (∃ x ∈ l, P x) → ∃ (j : Nat) (z : α), l[j]? = some z ∧ P z ∧ ∀ (m : Nat) (y : α), m < j → l[m]? = some y → ¬ P y
  | [], h => by obtain ⟨x, h, _⟩ := h; cases h
  | a :: l, h => by
    by_cases ha : P a
    · exact ⟨0, a, rfl, ha, fun m y hm => absurd hm (Nat.not_lt_zero _)⟩
    · obtain ⟨x, hx, px⟩ := h
      have hx : x ∈ l := by
        rcases List.mem_cons.mp hx with rfl | hx
        · exact absurd px ha
        · exact hx
      obtain ⟨j, z, h1, h2, h3⟩ := first_at P l ⟨x, hx, px⟩
      refine ⟨j + 1, z, h1, h2, fun m y hm hy => ?_⟩
      cases m with
      | zero => rw [← Option.some.inj hy]; exact ha
      | succ m => exact h3 m y (by omega) hy
/-- the first of the greatest, in a row that ascends -/
theorem Bst.first {f : Nat → Nat} {ns : List Nat} {j i : Nat} (asc : ns.Pairwise (· < ·)) (hj : ns[j]? = some i) (top : ∀ y ∈ ns, f y ≤ f i) (fst : ∀ (m : Nat) (y : Nat), m < j → ns[m]? = some y → ¬ f y = f i) : Bst f ns i := by
  refine ⟨List.mem_of_getElem? hj, top, fun y hy e => ?_⟩
  obtain ⟨m, hm⟩ := List.getElem?_of_mem hy
  have h1 : ¬ m < j := fun z => fst m y z hm e
  by_cases h : m = j
  · subst h
    rw [hj] at hm
    exact Nat.le_of_eq (Option.some.inj hm)
  · obtain ⟨lj, ej⟩ := List.getElem?_eq_some_iff.mp hj
    obtain ⟨lm, em⟩ := List.getElem?_eq_some_iff.mp hm
    have := List.pairwise_iff_getElem.mp asc j m lj lm (by omega)
    omega
theorem asc_ext : ∀ {a b : List Int}, a.Pairwise (· < ·) → b.Pairwise (· < ·) → (∀ x, x ∈ a ↔ x ∈ b) → a = b
  | [], [], _, _, _ => rfl
  | [], y :: b, _, _, h => absurd ((h y).mpr List.mem_cons_self) (by simp)
  | x :: a, [], _, _, h => absurd ((h x).mp List.mem_cons_self) (by simp)
  | x :: a, y :: b, ha, hb, h => by
    obtain ⟨ha1, ha2⟩ := List.pairwise_cons.mp ha
    obtain ⟨hb1, hb2⟩ := List.pairwise_cons.mp hb
    have exy : x = y := by
      rcases List.mem_cons.mp ((h x).mp List.mem_cons_self) with e | e
      · exact e
      · rcases List.mem_cons.mp ((h y).mpr List.mem_cons_self) with e' | e'
        · exact e'.symm
        · have h1 := hb1 x e
          have h2 := ha1 y e'
          omega
    subst exy
    congr 1
    refine asc_ext ha2 hb2 fun z => ⟨fun hz => ?_, fun hz => ?_⟩
    · rcases List.mem_cons.mp ((h z).mp (List.mem_cons_of_mem _ hz)) with e | e
      · have := ha1 z hz
        omega
      · exact e
    · rcases List.mem_cons.mp ((h z).mpr (List.mem_cons_of_mem _ hz)) with e | e
      · have := hb1 z hz
        omega
      · exact e
/-! the least busy one -/
def lbS (w b : Nat → Nat) (best at_ : Nat) : Nat := if (b at_ + 1) * w best < (b best + 1) * w at_ then at_ else best
def lbF (w b : Nat → Nat) : List Nat → Nat
  | [] => 0
  | x :: xs => xs.foldl (lbS w b) x
theorem lbS_self (w b : Nat → Nat) (x : Nat) : lbS w b x x = x := by
  unfold lbS
  split <;> rfl
theorem lbF_all (w b : Nat → Nat) (x : Nat) (xs : List Nat) : (x :: xs).foldl (lbS w b) x = lbF w b (x :: xs) := by
  rw [List.foldl_cons, lbS_self]
  rfl
theorem fold_take {w b : Nat → Nat} {x0 : Nat} {ns : List Nat} {j c : Nat} (h : ns[j]? = some c) : (ns.take (j + 1)).foldl (lbS w b) x0 = lbS w b ((ns.take j).foldl (lbS w b) x0) c := by
  rw [List.take_add_one, h, List.foldl_append]
  rfl
theorem fold_mem {w b : Nat → Nat} : ∀ {ns : List Nat} {x0 : Nat}, ns.foldl (lbS w b) x0 = x0 ∨ ns.foldl (lbS w b) x0 ∈ ns
  | [], _ => .inl rfl
  | y :: ns, x0 => by
    rw [List.foldl_cons]
    have e : lbS w b x0 y = x0 ∨ lbS w b x0 y = y := by
      unfold lbS
      split
      · exact .inr rfl
      · exact .inl rfl
    rcases fold_mem (w := w) (b := b) (ns := ns) (x0 := lbS w b x0 y) with h | h
    · rw [h]
      rcases e with e | e
      · exact .inl e
      · exact .inr (by rw [e]; exact List.mem_cons_self)
    · exact .inr (List.mem_cons_of_mem _ h)
end Sc

end
/-! ## R5 -/
section
set_option linter.all false
set_option maxRecDepth 100000
set_option maxHeartbeats 4000000
namespace Ag
open PySem PySem.Spec PyProof.Rows L2
open SX (S S_len S_cat S_inj)
/-! ### scores at any data -/
/-- the score's row of signs -/
def keyL (k l : List Nat) : List Nat := k ++ 47 :: l
theorem word_len {l : List Nat} (h : wordL l = true) : 1 ≤ l.length ∧ l.length ≤ 10 := by
  unfold wordL at h
  rw [Bool.and_eq_true, Bool.and_eq_true, decide_eq_true_eq, decide_eq_true_eq] at h
  exact h.1
theorem sc_int {v c : Nat} : ((v : Int) * 251 + (c : Int)) % 65521 = (((v * 251 + c) % 65521 : Nat) : Int) := by
  rw [Int.natCast_emod, Int.natCast_add, Int.natCast_mul]
  rfl
theorem word_E {p c : Addr} {H : Hp} {v : V} {d : PyData} (h : Dg p c H v d) (e : wordB d = true) : ∃ l, v = .str (S l) ∧ d = .str (S l) ∧ wordL l = true := by
  cases h with
  | str x => exact ⟨x.cps.toList, rfl, rfl, e⟩
  | _ => cases e
section
variable {P : Program} {w : World} {K : PySem.W.Frag} {mg : Str → Option Value} {base : Heap} {tw tp tg t1 t2 t3 : Tok}
def spScoreA (CW : Addr) : Sp := fun vs H Q E => ∃ p c v1 d1 v2 d2 q q' n b, vs = [v1, v2] ∧ Dg p c H v1 d1 ∧ Gd q d1 n b ∧ Dg p c H v2 d2 ∧ Gd q' d2 n b ∧ (wordB d1 = false → Rsd E CW H v1) ∧ (wordB d1 = true → wordB d2 = false → Rsd E CW H v2) ∧
  ∀ k l, d1 = .str (S k) → d2 = .str (S l) → wordL k = true → wordL l = true → ∀ H', Same H H' → Q (.int (Sc.scL (keyL k l) : Nat)) H'
theorem ok_scoreA {f f1 fI C : Addr} {fd fd1 fdI : FuncData} (F : Fn K mg "score" s_score ["key", "label"] f fd) (B : Con mg tw tp tg) (hs1 : mg "SCORE_START" = some (.int 7 t1)) (hs2 : mg "SCORE_FACTOR" = some (.int 251 t2)) (hs3 : mg "SCORE_MODULUS" = some (.int 65521 t3)) (hord : mg "ord" = none)
    (F_is_word : Fn K mg "is_word" s_is_word ["thing"] f1 fd1) (G_is_word : FnOk P w K mg base CX0 1 f1 fd1 ["thing"] spWordG) (TW : ExcI K mg "BadWord" "BadWord.__init__" s_BadWord C fI fdI) : FnOk P w K mg base (L2N.CX P w) 3 f fd ["key", "label"] (spScoreA C) := by
  have G_w : FnOk P w K mg base CX0 1 fI fdI ["self", "thing"] (spIni K) := ini_BadWord TW.F
  refine okXN F.F sc_score (fun vs H Q E h => ?_) (fun cdv A outer s H vs Q E hr h => ?_)
  · obtain ⟨p, c, v1, d1, v2, d2, qq, q5, n, b, rfl, _⟩ := h
    rfl
  · obtain ⟨p, c, v1, d1, v2, d2, qq, q5, n, b, rfl, hd1, hg1, hd2, hg2, q1, q2, q3⟩ := h
    refine ⟨_, (pss_cons (ps_for (passes_of rfl) rfl (pi_tup (pe_tup (pa_cons (pv 0) (pa_cons (pv 1) pa_nil)))) (pg_name (i := 2) sc_score.nd rfl (Or.inl rfl))
      (pss_one (ps_if (pt_not (pt_val (pe_call G_is_word (hr.mono (by decide)) (by rfl) F_is_word.g F_is_word.F.kp F_is_word.b .nil pass0 (pa_cons (pv 2) pa_nil))))
        (pss_one (L2N.ps_raise rfl (L2N.takes_of rfl rfl rfl rfl) (pmkEN TW.E TW.i G_w (hr.mono (by decide)) TW.b pass0 (by rfl) TW.g (pa_cons (pv 2) pa_nil))))
        pss_nil)))
      (pss_cons (ps_set (i := 3) sc_score.nd rfl (.inl rfl) (pe_glob (v := .int 7) rfl hs1 ⟨_, rfl⟩))
      (pss_cons (ps_for (passes_of rfl) rfl (pi_str (pe_joined (.cons (pe_fmt (pv 0)) (.cons pe_str (.cons (pe_fmt (pv 1)) .nil))))) (pg_name (i := 4) sc_score.nd rfl (Or.inl rfl))
      (pss_one (ps_set (i := 3) sc_score.nd rfl (.inl rfl) (pe_op op_mod (pe_op op_add (pe_op op_mul (pv 3) (pe_glob (v := .int 251) rfl hs2 ⟨_, rfl⟩)) (pe_callB call_ord (by rfl) hord (by decide +kernel) (pa_cons (pv 4) pa_nil))) (pe_glob (v := .int 65521) rfl hs3 ⟨_, rfl⟩)))))
      (pss_one (ps_ret (pv 3)))))), ?_⟩
    refine ⟨_, rfl, _, rfl, sz (by show 2 ≤ 16000000; decide), fun T hT => ⟨T, rfl, ⟨_, SqT.of upd_same⟩, ?_⟩⟩
    refine for_it (walk_tup (K := K) (a := T) (xs := [v1, v2])) (fun j σ H' => ∃ (x2 x3 x4 : Option V), σ = [some v1, some v2, x2, x3, x4] ∧ Same H H' ∧ H' T = some (.tup [v1, v2]) ∧ (1 ≤ j → wordB d1 = true) ∧ (2 ≤ j → wordB d2 = true)) ⟨_, _, _, rfl, same_new hT, upd_same, fun z => absurd z (by decide), fun z => absurd z (by decide)⟩ (fun j σ H' _ z => ?_) ?_ ?_
    · obtain ⟨_, _, _, _, _, e, _⟩ := z
      exact SqT.of e
    · rintro j y σ H3 H4 hj ⟨x2, x3, x4, rfl, sm, e, w1, w2⟩ ⟨rfl, hy⟩
      match j, hy with
      | 0, hy =>
        cases hy
        refine ⟨_, rfl, p, c, v1, d1, qq, n, b, rfl, hd1.to (Kp.same sm), hg1, _, rfl, ?_⟩
        cases hb : wordB d1 with
        | false =>
          refine iteT ⟨_, rfl, Nat.le_of_ble_eq_true rfl, fun x hx => ?_⟩
          refine ⟨x, _, _, rfl, TW.E, TW.no, upd_same, fun dx hdx ne => ⟨rfl, dx, _, upd_same, by rw [upd_ne ne, upd_same], by rw [upd_ne ne] at hdx; exact hdx, ?_⟩⟩
          rw [upd_ne ne] at hdx
          refine (q1 hb) dx _ (fun b o e => ?_) ((sm).free hdx) upd_same
          have e' := (sm) _ _ e
          have nb1 : b ≠ dx := ne_of_none e' hdx
          have nb2 : b ≠ x := ne_of_none e' hx
          rw [upd_ne nb1, del_ne nb2, upd_ne nb2, upd_ne nb1, upd_ne nb2]
          exact e'
        | true => exact iteF ⟨_, _, _, rfl, sm, e, fun _ => rfl, fun z => absurd z (by decide)⟩
      | 1, hy =>
        cases hy
        have w1 := w1 (by decide)
        refine ⟨_, rfl, p, c, v2, d2, q5, n, b, rfl, hd2.to (Kp.same sm), hg2, _, rfl, ?_⟩
        cases hb : wordB d2 with
        | false =>
          refine iteT ⟨_, rfl, Nat.le_of_ble_eq_true rfl, fun x hx => ?_⟩
          refine ⟨x, _, _, rfl, TW.E, TW.no, upd_same, fun dx hdx ne => ⟨rfl, dx, _, upd_same, by rw [upd_ne ne, upd_same], by rw [upd_ne ne] at hdx; exact hdx, ?_⟩⟩
          rw [upd_ne ne] at hdx
          refine (q2 w1 hb) dx _ (fun b o e => ?_) ((sm).free hdx) upd_same
          have e' := (sm) _ _ e
          have nb1 : b ≠ dx := ne_of_none e' hdx
          have nb2 : b ≠ x := ne_of_none e' hx
          rw [upd_ne nb1, del_ne nb2, upd_ne nb2, upd_ne nb1, upd_ne nb2]
          exact e'
        | true => exact iteF ⟨_, _, _, rfl, sm, e, fun _ => w1, fun _ => rfl⟩
      | j + 2, hy => cases hy
    · rintro σ H2 ⟨x2, x3, x4, rfl, sm, _, w1, w2⟩
      obtain ⟨k, rfl, rfl, hk⟩ := word_E hd1 (w1 (by show 1 ≤ 2; decide))
      obtain ⟨l, rfl, rfl, hl⟩ := word_E hd2 (w2 (by show 2 ≤ 2; decide))
      have lk := word_len hk
      have ll := word_len hl
      have q := q3 k l rfl rfl hk hl
      have c1 : Str.empty ++ S k = S k := S_cat [] k
      have c2 : S k ++ Str.ofString "/" = S (k ++ [47]) := S_cat k [47]
      have c3 : S (k ++ [47]) ++ S l = S (keyL k l) := by rw [S_cat]; unfold keyL; simp
      have len : (keyL k l).length = k.length + l.length + 1 := by unfold keyL; simp; omega
      refine ⟨_, rfl, .inl ⟨_, rfl, sz (by rw [S_len]; omega), _, rfl, ?_, ?_⟩⟩
      · rw [c1]; exact sz (by rw [S_len]; omega)
      rw [c1]
      refine ⟨_, rfl, ?_, ?_⟩
      · rw [c2]; exact sz (by rw [S_len]; simp; omega)
      rw [c2]
      refine ⟨_, rfl, .inl ⟨_, rfl, sz (by rw [S_len]; omega), _, rfl, ?_, ?_⟩⟩
      · rw [c3]; exact sz (by rw [S_len]; omega)
      rw [c3]
      refine ⟨_, rfl, ?_⟩
      refine for_it (walk_str (z := S (keyL k l))) (fun j σ H' => ∃ (y2 y4 : Option V), σ = [some (.str (S k)), some (.str (S l)), y2, some (.int (Sc.scL ((keyL k l).take j) : Nat)), y4] ∧ Same H H') ⟨_, _, rfl, sm⟩ (fun _ _ _ _ _ => trivial) ?_ ?_
      · rintro j y σ H3 H4 hj ⟨y2, y4, rfl, s3⟩ ⟨rfl, ch, hch, rfl⟩
        have hch : (keyL k l)[j]? = some ch := by
          rw [← Array.getElem?_toList] at hch
          exact hch
        refine ⟨_, rfl, _, _, rfl, rfl, .inr ⟨by decide, by decide⟩, _, rfl, _, rfl, rfl, _, _, rfl, rfl, _, _, rfl, rfl, (by show (0 : Int) < 65521; decide), ?_⟩
        refine ⟨y2, some (.str ⟨#[ch]⟩), ?_, s3⟩
        rw [Sc.scL_take hch, ← sc_int]
        rfl
      · rintro σ H3 ⟨y2, y4, rfl, s3⟩
        rw [List.take_of_length_le (by show _ ≤ (keyL k l).length; exact Nat.le_refl _)]
        exact ⟨_, rfl, q _ s3⟩

end
end Ag

end
/-! ## R6 -/
section
set_option linter.all false
set_option maxRecDepth 100000
set_option maxHeartbeats 4000000
namespace Ag
open PySem PySem.Spec PyProof.Rows L2
open SX (S S_len S_cat S_inj)
/-! ### check_lot at any data -/
section
variable {P : Program} {w : World} {K : PySem.W.Frag} {mg : Str → Option Value} {base : Heap} {tw tp tg : Tok}
def spCheckA (CP CL : Addr) : Sp := fun vs H Q E => ∃ p c v1 d1 v2 d2 q q' n b, vs = [v1, v2] ∧ Dg p c H v1 d1 ∧ Gd q d1 n b ∧ Dg p c H v2 d2 ∧ Gd q' d2 n b ∧ (poolB d1 = false → Rsd E CP H v1) ∧ ∀ ps, d1 = poolD ps → poolB d1 = true →
  ((lotB ((ps.length : Int) - 1) d2 && !isT0 d2) = false → Rsd E CL H v2) ∧ ((lotB ((ps.length : Int) - 1) d2 && !isT0 d2) = true → ∀ H', Same H H' → Q .non H')
theorem ok_checkA {f f1 f2 fI C fJ D : Addr} {fd fd1 fd2 fdI fdJ : FuncData} (F : Fn K mg "check_lot" s_check_lot ["pool", "lot"] f fd) (B : Con mg tw tp tg) (F_is_pool : Fn K mg "is_pool" s_is_pool ["thing"] f1 fd1) (G_is_pool : FnOk P w K mg base CX0 3 f1 fd1 ["thing"] spPoolG)
    (F_is_lot : Fn K mg "is_lot" s_is_lot ["pool", "thing"] f2 fd2) (G_is_lot : FnOk P w K mg base CX0 2 f2 fd2 ["pool", "thing"] spLotA)
    (TP : ExcI K mg "BadPool" "BadPool.__init__" s_BadPool C fI fdI) (TL : ExcI K mg "BadLot" "BadLot.__init__" s_BadLot D fJ fdJ) : FnOk P w K mg base (L2N.CX P w) 4 f fd ["pool", "lot"] (spCheckA C D) := by
  have G_p : FnOk P w K mg base CX0 1 fI fdI ["self", "thing"] (spIni K) := ini_BadPool TP.F
  have G_c : FnOk P w K mg base CX0 1 fJ fdJ ["self", "thing"] (spIni K) := ini_BadLot TL.F
  refine okXN F.F sc_check_lot (fun vs H Q E h => ?_) (fun cdv A outer s H vs Q E hr h => ?_)
  · obtain ⟨p, c, v1, d1, v2, d2, qq, q5, n, b, rfl, _⟩ := h
    rfl
  · obtain ⟨p, c, v1, d1, v2, d2, qq, q5, n, b, rfl, hd1, hg1, hd2, hg2, q1, q2⟩ := h
    refine ⟨_, (pss_cons (ps_if (pt_not (pt_val (pe_call G_is_pool (hr.mono (by decide)) (by rfl) F_is_pool.g F_is_pool.F.kp F_is_pool.b .nil pass0 (pa_cons (pv 0) pa_nil))))
      (pss_one (L2N.ps_raise rfl (L2N.takes_of rfl rfl rfl rfl) (pmkEN TP.E TP.i G_p (hr.mono (by decide)) TP.b pass0 (by rfl) TP.g (pa_cons (pv 0) pa_nil))))
      pss_nil)
      (pss_one (ps_if (PW.pt (pw_or (pt_not (pt_val (pe_call G_is_lot (hr.mono (by decide)) (by rfl) F_is_lot.g F_is_lot.F.kp F_is_lot.b .nil pass0 (pa_cons (pv 0) (pa_cons (pv 1) pa_nil))))) (pw_or1 (pt_cmpR (op_eqT0 hr.units) (pv 1) (pe_tup pa_nil) (nomark _)))))
      (pss_one (L2N.ps_raise rfl (L2N.takes_of rfl rfl rfl rfl) (pmkEN TL.E TL.i G_c (hr.mono (by decide)) TL.b pass0 (by rfl) TL.g (pa_cons (pv 1) pa_nil))))
      pss_nil))), ?_⟩
    refine ⟨_, rfl, p, c, v1, d1, qq, n, b, rfl, hd1, hg1, fun H1 s1 => ⟨_, rfl, ?_⟩⟩
    cases hb : poolB d1 with
    | false =>
      refine iteT ⟨_, rfl, Nat.le_of_ble_eq_true rfl, fun x hx => ?_⟩
      refine ⟨x, _, _, rfl, TP.E, TP.no, upd_same, fun dx hdx ne => ⟨rfl, dx, _, upd_same, by rw [upd_ne ne, upd_same], by rw [upd_ne ne] at hdx; exact hdx, ?_⟩⟩
      rw [upd_ne ne] at hdx
      refine (q1 hb) dx _ (fun b o e => ?_) ((s1).free hdx) upd_same
      have e' := (s1) _ _ e
      have nb1 : b ≠ dx := ne_of_none e' hdx
      have nb2 : b ≠ x := ne_of_none e' hx
      rw [upd_ne nb1, del_ne nb2, upd_ne nb2, upd_ne nb1, upd_ne nb2]
      exact e'
    | true =>
    obtain ⟨a, ts, ps, rfl, pl, rfl⟩ := pool_of hd1 hb
    obtain ⟨q2, q3⟩ := q2 ps rfl hb
    refine iteF ?_
    refine ⟨_, rfl, _, rfl, p, c, a, ts, ps, v2, d2, q5, n, b, rfl, pl.to s1, hd2.to (Kp.same s1), hg2, fun H2 s2 => ⟨_, rfl, ?_⟩⟩
    have s12 := s1.trans s2
    cases hL : lotB ((ps.length : Int) - 1) d2 with
    | false =>
      rw [hL, Bool.false_and] at q2
      refine iteT ?_
      refine iteT ⟨_, rfl, Nat.le_of_ble_eq_true rfl, fun x hx => ?_⟩
      refine ⟨x, _, _, rfl, TL.E, TL.no, upd_same, fun dx hdx ne => ⟨rfl, dx, _, upd_same, by rw [upd_ne ne, upd_same], by rw [upd_ne ne] at hdx; exact hdx, ?_⟩⟩
      rw [upd_ne ne] at hdx
      refine (q2 rfl) dx _ (fun b o e => ?_) ((s12).free hdx) upd_same
      have e' := (s12) _ _ e
      have nb1 : b ≠ dx := ne_of_none e' hdx
      have nb2 : b ≠ x := ne_of_none e' hx
      rw [upd_ne nb1, del_ne nb2, upd_ne nb2, upd_ne nb1, upd_ne nb2]
      exact e'
    | true =>
      rw [hL, Bool.true_and] at q2 q3
      refine iteF ⟨_, rfl, Nat.zero_le _, fun t ht => ?_⟩
      have s3 := s12.trans (same_new (o := .tup []) ht)
      refine ⟨p, c, d2, t, hd2.to (Kp.same s3), hg2.asc, rfl, upd_same, _, rfl, ?_⟩
      generalize upd H2 t (.tup []) = H3 at s3 ⊢
      cases hT : isT0 d2 with
      | true =>
        rw [hT] at q2
        refine iteT ⟨_, rfl, Nat.le_of_ble_eq_true rfl, fun x hx => ?_⟩
        refine ⟨x, _, _, rfl, TL.E, TL.no, upd_same, fun dx hdx ne => ⟨rfl, dx, _, upd_same, by rw [upd_ne ne, upd_same], by rw [upd_ne ne] at hdx; exact hdx, ?_⟩⟩
        rw [upd_ne ne] at hdx
        refine (q2 rfl) dx _ (fun b o e => ?_) ((s3).free hdx) upd_same
        have e' := (s3) _ _ e
        have nb1 : b ≠ dx := ne_of_none e' hdx
        have nb2 : b ≠ x := ne_of_none e' hx
        rw [upd_ne nb1, del_ne nb2, upd_ne nb2, upd_ne nb1, upd_ne nb2]
        exact e'
      | false =>
        rw [hT] at q3
        exact iteF (q3 rfl _ s3)
end
end Ag

end
/-! ## R7 -/
section
set_option linter.all false
set_option maxRecDepth 100000
set_option maxHeartbeats 4000000
namespace Ag
open PySem PySem.Spec PyProof.Rows L2
open SX (S S_len S_cat S_inj)
/-! ### least_busy at any data -/
/-- the places of a lot -/
structure Lot (n : Nat) (ns : List Nat) : Prop where
  asc : ns.Pairwise (· < ·)
  lt : ∀ x ∈ ns, x < n
  len : ns.length ≤ 20
theorem ctV_get {cs : List Nat} {j : Nat} {y : V} (h : (ctV cs)[j]? = some y) : ∃ n : Nat, cs[j]? = some n ∧ y = .int (n : Int) := by
  unfold ctV at h
  rw [List.getElem?_map] at h
  cases e : cs[j]? with
  | none => rw [e] at h; cases h
  | some n => rw [e] at h; exact ⟨n, rfl, (Option.some.inj h).symm⟩

theorem u10 {k : Nat} {A : Around} (hr : Room k A) : A.units + 10 < cLine := Nat.lt_of_le_of_lt (Nat.add_le_add_left (by decide : 10 ≤ 64) _) hr.units
/-- a label's score with a key, by place -/
def fS (ps : List (List Nat × Nat)) (k : List Nat) (i : Nat) : Nat := Sc.scL (keyL k (((ps[i]?).map Prod.fst).getD []))
theorem fS_at {ps : List (List Nat × Nat)} {k : List Nat} {i : Nat} {e : List Nat × Nat} (h : ps[i]? = some e) : fS ps k i = Sc.scL (keyL k e.1) := by
  unfold fS
  rw [h]
  rfl
theorem Pool.row {a : Addr} {ts : List Addr} {ps : List (List Nat × Nat)} {H : Hp} (p : Pool a ts ps H) {i : Nat} (h : i < ps.length) : ∃ t e, (ts.map V.ref)[i]? = some (.ref t) ∧ ps[i]? = some e ∧ H t = some (.tup [.str (S e.1), .int (e.2 : Nat)]) ∧ e ∈ ps ∧ 1 ≤ e.2 ∧ e.2 ≤ 100 ∧ wordL e.1 = true := by
  have hl := p.it.1
  have ht : ts[i]? = some (ts[i]'(by omega)) := List.getElem?_eq_getElem (by omega)
  obtain ⟨e, h1, h2⟩ := p.it.2 i _ ht
  have hm := List.mem_of_getElem? h1
  exact ⟨_, e, by rw [List.getElem?_map, ht]; rfl, h1, h2, hm, (p.ok.wt e hm).1, (p.ok.wt e hm).2, p.ok.wd e hm⟩
theorem lb_step {ps : List (List Nat × Nat)} {bs : List Nat} {x y b1 b2 : Nat} {e1 e2 : List Nat × Nat} (h1 : ps[x]? = some e1) (h2 : ps[y]? = some e2) (k1 : bs[x]? = some b1) (k2 : bs[y]? = some b2) :
    Sc.lbS (wF ps) (kF bs) x y = if decide (((b2 : Int) + 1) * (e1.2 : Nat) < ((b1 : Int) + 1) * (e2.2 : Nat)) = true then y else x := by
  unfold Sc.lbS
  rw [kF_at k1, kF_at k2, wF_at h1, wF_at h2]
  have m1 : (((b2 + 1) * e1.2 : Nat) : Int) = ((b2 : Int) + 1) * (e1.2 : Nat) := by rw [Int.natCast_mul]; rfl
  have m2 : (((b1 + 1) * e2.2 : Nat) : Int) = ((b1 : Int) + 1) * (e2.2 : Nat) := by rw [Int.natCast_mul]; rfl
  rw [← m1, ← m2]
  by_cases h : (b2 + 1) * e1.2 < (b1 + 1) * e2.2
  · rw [if_pos h, if_pos (decide_eq_true (by omega))]
  · rw [if_neg h, if_neg (by rw [decide_eq_true_eq]; omega)]

theorem poolD_inj {a b : List (List Nat × Nat)} (h : poolD a = poolD b) : a = b := by
  unfold poolD at h
  injection h with h
  induction a generalizing b with
  | nil =>
    cases b with
    | nil => rfl
    | cons _ _ => cases h
  | cons x a ih =>
    cases b with
    | nil => cases h
    | cons y b =>
      rw [List.map_cons, List.map_cons] at h
      injection h with h1 h2
      injection h1 with h1
      injection h1 with h3 h4
      injection h3 with h3
      injection h4 with h4
      injection h4 with h4
      have := S_inj h3
      rw [ih h2, show x = y from Prod.ext this (by omega)]
theorem asc_le : ∀ {ns : List Nat} {n : Nat}, ns.Pairwise (· < ·) → (∀ x ∈ ns, x < n) → ns.length ≤ n
  | [], _, _, _ => Nat.zero_le _
  | x :: ns, n, h, hl => by
    rw [List.pairwise_cons] at h
    have : (ns.map (· - (x + 1))).length ≤ n - (x + 1) := by
      refine asc_le (List.pairwise_map.mpr (List.Pairwise.imp_of_mem ?_ h.2)) ?_
      · intro a b ha hb hab
        have := h.1 a ha
        have := h.1 b hb
        omega
      · intro y hy
        obtain ⟨z, hz, rfl⟩ := List.mem_map.mp hy
        have := h.1 z hz
        have := hl z (List.mem_cons_of_mem _ hz)
        omega
    rw [List.length_map] at this
    have := hl x List.mem_cons_self
    rw [List.length_cons]
    omega
termination_by ns => ns.length
decreasing_by simp
theorem lot_E {p c : Addr} {H : Hp} {v : V} {d : PyData} {n : Nat} (h : Dg p c H v d) (e : lotB ((n : Int) - 1) d = true) (hn : n ≤ 8) : ∃ a ns, v = .ref a ∧ H a = some (.tup (ctV ns)) ∧ d = .tuple (ctD ns) ∧ Lot n ns := by
  cases h with
  | @tup a xs ds ha hA =>
    have e : (ds.all (wholeB 0 ((n : Int) - 1)) && ascI (ds.map asInt)) = true := e
    rw [Bool.and_eq_true] at e
    obtain ⟨cs, rfl, rfl⟩ := nats_of_D hA (List.all_eq_true.mpr fun d hd => by
      have := List.all_eq_true.mp e.1 d hd
      cases d with
      | int i =>
        have this : (decide (0 ≤ i) && decide (i ≤ (n : Int) - 1)) = true := this
        rw [Bool.and_eq_true] at this
        exact this.1
      | _ => cases this)
    have hlt : ∀ x ∈ cs, x < n := fun x hx => by
      have := List.all_eq_true.mp e.1 (.int (x : Int)) (List.mem_map_of_mem (f := fun k : Nat => PyData.int (k : Int)) hx)
      have this : (decide (0 ≤ (x : Int)) && decide ((x : Int) ≤ (n : Int) - 1)) = true := this
      rw [Bool.and_eq_true, decide_eq_true_eq, decide_eq_true_eq] at this
      omega
    have hasc : cs.Pairwise (· < ·) := by
      have := (ascI_iff _).mp e.2
      rw [List.map_map] at this
      exact (List.pairwise_map.mp this).imp fun h => by
        have h : ((_ : Nat) : Int) < ((_ : Nat) : Int) := h
        omega
    exact ⟨a, cs, rfl, ha.2.2, rfl, hasc, hlt, by have := asc_le hasc hlt; omega⟩
  | _ => cases e
section
variable {P : Program} {w : World} {K : PySem.W.Frag} {mg : Str → Option Value} {base : Heap} {tw tp tg : Tok}
def spLbA (CP CL CC : Addr) : Sp := fun vs H Q E => ∃ p c v1 d1 v2 d2 v3 d3 q q' n b, vs = [v1, v2, v3] ∧ Dg p c H v1 d1 ∧ Gd q d1 n b ∧ Dg p c H v2 d2 ∧ Gd q' d2 n b ∧ Dg p c H v3 d3 ∧ (poolB d1 = false → Rsd E CP H v1) ∧ ∀ ps, d1 = poolD ps → poolB d1 = true →
  ((lotB ((ps.length : Int) - 1) d2 && !isT0 d2) = false → Rsd E CL H v2) ∧ ((lotB ((ps.length : Int) - 1) d2 && !isT0 d2) = true → (loadsB ps.length d3 = false → Rsd E CC H v3) ∧
  ∀ ns bs, d2 = .tuple (ctD ns) → Lot ps.length ns → ns ≠ [] → d3 = .tuple (ctD bs) → bs.length = ps.length → ∀ H', Same H H' → Q (.int (Sc.lbF (wF ps) (kF bs) ns : Nat)) H')
theorem ok_lbA {f f1 f2 fI fJ C D D2 : Addr} {fd fd1 fd2 fdJ : FuncData} (F : Fn K mg "least_busy" s_least_busy ["pool", "lot", "busy"] f fd) (B : Con mg tw tp tg) (F_check_lot : Fn K mg "check_lot" s_check_lot ["pool", "lot"] f1 fd1) (G_check_lot : FnOk P w K mg base (L2N.CX P w) 4 f1 fd1 ["pool", "lot"] (spCheckA C D))
    (F_are_loads : Fn K mg "are_loads" s_are_loads ["pool", "thing"] f2 fd2) (G_are_loads : FnOk P w K mg base CX0 2 f2 fd2 ["pool", "thing"] spLoadsG) (TC : ExcI K mg "BadCounts" "BadCounts.__init__" s_BadCounts D2 fJ fdJ) : FnOk P w K mg base (L2N.CX P w) 5 f fd ["pool", "lot", "busy"] (spLbA C D D2) := by
  have G_c : FnOk P w K mg base CX0 1 fJ fdJ ["self", "thing"] (spIni K) := ini_BadCounts TC.F
  refine okXN F.F sc_least_busy (fun vs H Q E h => ?_) (fun cdv A outer s H vs Q E hr h => ?_)
  · obtain ⟨p, c, v1, d1, v2, d2, v3, d3, qq, q5, n, b, rfl, _⟩ := h
    rfl
  · obtain ⟨p0, c0, v1, d1, v2, d2, v3, d3, qq, q5, n0, b0, rfl, hd1, hg1, hd2, hg2, hd3, q1, q2⟩ := h
    refine ⟨_, (pss_cons (ps_expr (pe_call G_check_lot (hr.mono (by decide)) (by rfl) F_check_lot.g F_check_lot.F.kp F_check_lot.b .nil (L2N.passes_call (L2N.takes_of rfl rfl rfl rfl) (fun _ _ _ _ h => h)) (pa_cons (pv 0) (pa_cons (pv 1) pa_nil))))
      (pss_cons (ps_if (pt_not (pt_val (pe_call G_are_loads (hr.mono (by decide)) (by rfl) F_are_loads.g F_are_loads.F.kp F_are_loads.b .nil pass0 (pa_cons (pv 0) (pa_cons (pv 2) pa_nil)))))
      (pss_one (L2N.ps_raise rfl (L2N.takes_of rfl rfl rfl rfl) (pmkEN TC.E TC.i G_c (hr.mono (by decide)) TC.b pass0 (by rfl) TC.g (pa_cons (pv 2) pa_nil))))
      pss_nil)
      (pss_cons (ps_set (i := 3) sc_least_busy.nd rfl (.inl rfl) (pe_ix ix_tup (pv 1) pe_int (fun _ _ => rfl)))
      (pss_cons (ps_for (passes_of rfl) rfl (pi_tup (pv 1)) (pg_name (i := 4) sc_least_busy.nd rfl (Or.inl rfl))
      (pss_one (ps_if (pt_cmpR op_lt (pe_op op_mul (pe_op op_add (pe_ix ix_tup (pv 2) (pv 4) (fun _ _ => rfl)) pe_int) (pe_ix ix_seq (pe_ix ix_tup (pv 0) (pv 3) (fun _ _ => rfl)) pe_int (fun _ _ => rfl))) (pe_op op_mul (pe_op op_add (pe_ix ix_tup (pv 2) (pv 3) (fun _ _ => rfl)) pe_int) (pe_ix ix_seq (pe_ix ix_tup (pv 0) (pv 4) (fun _ _ => rfl)) pe_int (fun _ _ => rfl))) (nomark _))
        (pss_one (ps_set (i := 3) sc_least_busy.nd rfl (.inl rfl) (pv 4)))
        pss_nil)))
      (pss_one (ps_ret (pv 3))))))), ?_⟩
    refine ⟨_, rfl, _, rfl, p0, c0, v1, d1, v2, d2, qq, q5, n0, b0, rfl, hd1, hg1, hd2, hg2, q1, fun ps e hb => ⟨(q2 ps e hb).1, fun hl H1 s1 => ?_⟩⟩
    obtain ⟨a, ts, ps', rfl, p, e2⟩ := pool_of hd1 hb
    have e3 := poolD_inj (e.symm.trans e2)
    subst e3
    obtain ⟨q3, q4⟩ := (q2 ps e hb).2 hl
    rw [Bool.and_eq_true, Bool.not_eq_true'] at hl
    obtain ⟨c, ns, rfl, hc, rfl, lo⟩ := lot_E hd2 hl.1 p.ok.n8
    have hne : ns ≠ [] := fun z => by
      have := hl.2
      rw [z] at this
      cases this
    refine ⟨_, rfl, _, rfl, p0, c0, a, ts, ps, v3, d3, rfl, p.to s1, hd3.to (Kp.same s1), fun H2 s2 => ⟨_, rfl, ?_⟩⟩
    have s12 := s1.trans s2
    cases hb3 : loadsB ps.length d3 with
    | false =>
      refine iteT ⟨_, rfl, Nat.le_of_ble_eq_true rfl, fun x hx => ?_⟩
      refine ⟨x, _, _, rfl, TC.E, TC.no, upd_same, fun dx hdx ne => ⟨rfl, dx, _, upd_same, by rw [upd_ne ne, upd_same], by rw [upd_ne ne] at hdx; exact hdx, ?_⟩⟩
      rw [upd_ne ne] at hdx
      refine (q3 hb3) dx _ (fun b o e => ?_) ((s12).free hdx) upd_same
      have e' := (s12) _ _ e
      have nb1 : b ≠ dx := ne_of_none e' hdx
      have nb2 : b ≠ x := ne_of_none e' hx
      rw [upd_ne nb1, del_ne nb2, upd_ne nb2, upd_ne nb1, upd_ne nb2]
      exact e'
    | true =>
    cases hd3 with
    | @tup d xs ds had hA3 =>
      have hb3 : (decide (ds.length = ps.length) && ds.all nonnegB) = true := hb3
      rw [Bool.and_eq_true, decide_eq_true_eq] at hb3
      obtain ⟨bs, rfl, rfl⟩ := nats_of_D hA3 hb3.2
      have hbl : bs.length = ps.length := by have := hb3.1; rwa [List.length_map] at this
      have hd := had.2.2
      have q := q4 ns bs rfl lo hne rfl hbl
      obtain ⟨x0, tl, rfl⟩ : ∃ x l, ns = x :: l := by
        cases ns with
        | nil => exact absurd rfl hne
        | cons x l => exact ⟨x, l, rfl⟩
      have l20 := lo.len
      refine iteF ?_
      refine ⟨_, rfl, c, _, _, _, rfl, rfl, SqT.of (s12 _ _ hc), atI_nat (j := 0) (ctV_at rfl), ?_⟩
      refine ⟨_, rfl, c, rfl, ⟨_, SqT.of (s12 _ _ hc)⟩, ?_⟩
      refine for_it (walk_tup (K := K) (a := c) (xs := ctV (x0 :: tl))) (fun j σ H' => ∃ x4 : Option V, σ = [some (.ref a), some (.ref c), some (.ref d), some (.int (((x0 :: tl).take j).foldl (Sc.lbS (wF ps) (kF bs)) x0 : Nat)), x4] ∧ Same H H') ⟨_, rfl, s12⟩ (fun j σ H' _ z => ?_) ?_ ?_
      · obtain ⟨_, _, sm⟩ := z
        exact SqT.of (sm _ _ hc)
      · rintro j y σ H3 H4 hj ⟨x4, rfl, s3⟩ ⟨rfl, hy⟩
        obtain ⟨n, hn, rfl⟩ := ctV_get hy
        have hn8 := lo.lt n (List.mem_of_getElem? hn)
        have hst := Sc.fold_take (w := wF ps) (b := kF bs) (x0 := x0) hn
        have hb8 : ((x0 :: tl).take j).foldl (Sc.lbS (wF ps) (kF bs)) x0 < ps.length := by
          rcases Sc.fold_mem (w := wF ps) (b := kF bs) (ns := (x0 :: tl).take j) (x0 := x0) with h | h
          · rw [h]
            exact lo.lt _ List.mem_cons_self
          · exact lo.lt _ (List.mem_of_mem_take h)
        generalize ((x0 :: tl).take j).foldl (Sc.lbS (wF ps) (kF bs)) x0 = b at hst hb8 ⊢
        have p3 := p.to s3
        obtain ⟨tn, en, r1, r2, r3, _, r4, r5, _⟩ := p3.row hn8
        obtain ⟨tb, eb, u1, u2, u3, _, u4, u5, _⟩ := p3.row hb8
        obtain ⟨bn, hbn⟩ : ∃ k, bs[n]? = some k := ⟨bs[n]'(by omega), List.getElem?_eq_getElem (by omega)⟩
        obtain ⟨bb, hbb⟩ : ∃ k, bs[b]? = some k := ⟨bs[b]'(by omega), List.getElem?_eq_getElem (by omega)⟩
        have hd3 := s3 _ _ hd
        refine ⟨_, rfl, _, rfl, d, _, _, _, rfl, rfl, SqT.of hd3, atI_nat (ctV_at hbn), _, _, rfl, rfl, _, rfl, _, rfl, a, _, _, _, rfl, rfl, SqT.of p3.at_, atI_nat u1, .inr (.inl ⟨tb, _, _, _, rfl, rfl, SqT.of u3, atI_nat (j := 1) rfl, _, _, rfl, rfl, .inr ⟨by omega, by omega⟩, ?_⟩)⟩
        refine ⟨_, rfl, _, rfl, d, _, _, _, rfl, rfl, SqT.of hd3, atI_nat (ctV_at hbb), _, _, rfl, rfl, _, rfl, _, rfl, a, _, _, _, rfl, rfl, SqT.of p3.at_, atI_nat r1, .inr (.inl ⟨tn, _, _, _, rfl, rfl, SqT.of r3, atI_nat (j := 1) rfl, _, _, rfl, rfl, .inr ⟨by omega, by omega⟩, ?_⟩)⟩
        refine ⟨_, _, rfl, rfl, _, rfl, ?_⟩
        rw [lb_step u2 r2 hbb hbn] at hst
        refine ite2 (fun h => ?_) (fun h => ?_)
        · rw [if_pos h] at hst
          exact ⟨_, rfl, _, by rw [hst]; rfl, s3⟩
        · rw [if_neg h] at hst
          exact ⟨some (.int n), by rw [hst]; rfl, s3⟩
      · rintro σ H3 ⟨x4, rfl, s3⟩
        rw [List.take_of_length_le (by rw [ctV_len]; exact Nat.le_refl _), Sc.lbF_all]
        exact ⟨_, rfl, q _ s3⟩

    | _ => cases hb3
end
end Ag

end
/-! ## LcH -/
section
set_option linter.all false
set_option maxRecDepth 100000
namespace Ag
open PySem PySem.Spec PyProof.Rows L2
/-- a comprehension without tests, each item as v says of the heap and its place -/
theorem lc_allH {J : It} {n : Nat} {G : Hp → Prop} {Y : Nat → Hp → V → Hp → Prop} (w : Walk J n G Y) {g : TG} {te : TE} {vs : List Nat} {σ : L2.St} {H1 : Hp} {D : Addr} {Qd : Hp → Prop} (R : Hp → Prop) (v : Hp → Nat → V → Prop) (hn : n ≤ 16000000) (r0 : R H1) (rD : ∀ H o, R H → R (upd H D o))
    (vD : ∀ H o j y, v H j y → v (upd H D o) j y) (hG : ∀ H, R H → G H)
    (hs : ∀ i x H H' xs (k : VK), i < n → R H → H D = some (.lst xs) → Y i H x H' → (∀ y H4, (∀ j z, v H j z → v H4 j z) → v H4 i y → R H4 → H4 D = some (.lst xs) → k y H4) → g x (wipe σ vs) H' fun σ2 H2 => wipe σ2 vs = wipe σ vs ∧ te σ2 H2 k)
    (hd : ∀ H xs, xs.length = n → (∀ i y, xs[i]? = some y → v H i y) → R H → H D = some (.lst xs) → Qd H) :
    ∃ W : Nat → Nat → Hp → Prop, (∃ m, W 0 m (upd H1 D (.lst []))) ∧ ∀ i m H, W i m H →
      (J.stop i H ∧ Qd H) ∨ (J.go i H ∧ ∃ Nx : Hp → Prop, (∀ H', Nx H' → ∃ m', m' < m ∧ W (i + 1) m' H') ∧ ∀ x H', J.yld i H x H' → g x (wipe σ vs) H' fun σ2 H2 => wipe σ2 vs = wipe σ vs ∧ tYes σ2 H2 fun b H3 =>
        if b = true then te σ2 H3 fun y H4 => ∃ acc, H4 D = some (.lst acc) ∧ acc.length < sizeLine ∧ Nx (upd H4 D (.lst (acc ++ [y]))) else Nx H3) := by
  refine lc_it (g := g) (tt := tYes) (te := te) (vs := vs) (σ := σ) w (fun i H => ∃ xs : List V, xs.length = i ∧ (∀ j y, xs[j]? = some y → v H j y) ∧ R H ∧ H D = some (.lst xs)) ⟨[], rfl, fun j y h => by simp at h, rD _ _ r0, upd_same⟩ (fun i H hi p => ?_) (fun i x H H' hi p hy => ?_) (fun H p => ?_)
  · obtain ⟨xs, _, _, r, _⟩ := p
    exact hG H r
  · obtain ⟨xs, hl, hv, r, hD⟩ := p
    refine hs i x H H' xs _ hi r hD hy ?_
    rintro y H4 keep hvy r4 h4
    refine ⟨xs, h4, ?_, xs ++ [y], by simp [hl], fun j z hz => vD _ _ _ _ ?_, rD _ _ r4, upd_same⟩
    · rw [sizeLine_eq]; omega
    · rw [List.getElem?_append] at hz
      split at hz
      · exact keep j z (hv j z hz)
      · rename_i hj
        have e : j - xs.length = 0 := by
          cases hq : j - xs.length with
          | zero => rfl
          | succ k => rw [hq] at hz; simp at hz
        rw [e] at hz
        simp at hz
        subst hz
        have : j = i := by omega
        subst this
        exact hvy
  · obtain ⟨xs, hl, hv, r, hD⟩ := p
    exact hd H xs hl hv r hD
end Ag

end
/-! ## MinP -/
section
set_option linter.all false
set_option maxRecDepth 100000
namespace Ag
open PySem PySem.Spec PyProof.Rows L2
open PySem.W (DatumOrd Datum)
/-! ### min of a list of pairs of ints -/
def plt (p q : Int × Int) : Prop := p.1 < q.1 ∨ (p.1 = q.1 ∧ p.2 < q.2)
theorem lt_plt (p q : Int × Int) : DatumOrd.lt p q = true ↔ plt p q := by
  show (if p.1 = q.1 then decide (p.2 < q.2) else decide (p.1 < q.1)) = true ↔ _
  unfold plt
  split <;> rw [decide_eq_true_eq] <;> omega
theorem least_all : ∀ (xs : List (Int × Int)) (x : Int × Int), ∀ y ∈ x :: xs, ¬ plt y (PySem.W.minOf x xs)
  | [], x, y, hy => by
    rw [List.mem_singleton.mp hy]
    show ¬ plt x x
    unfold plt
    omega
  | z :: xs, x, y, hy => by
    have e : PySem.W.minOf x (z :: xs) = PySem.W.minOf (if DatumOrd.lt z x = true then z else x) xs := rfl
    rw [e]
    by_cases h : DatumOrd.lt z x = true
    · rw [if_pos h]
      rw [lt_plt] at h
      have ih := least_all xs z
      rcases List.mem_cons.mp hy with rfl | hy
      · have := ih z List.mem_cons_self
        revert this h
        generalize PySem.W.minOf z xs = m
        unfold plt
        omega
      · exact ih y hy
    · rw [if_neg h]
      rw [lt_plt] at h
      have ih := least_all xs x
      rcases List.mem_cons.mp hy with rfl | hy
      · exact ih _ List.mem_cons_self
      · rcases List.mem_cons.mp hy with rfl | hy
        · have := ih x List.mem_cons_self
          revert this h
          generalize PySem.W.minOf x xs = m
          unfold plt
          omega
        · exact ih y (List.mem_cons_of_mem _ hy)
section
variable {X : Cx}
abbrev pD (p : Int × Int) : PyData := .tuple [.int p.1, .int p.2]
theorem dp_ps {K : PySem.W.Frag} {H : Hp} : ∀ ks : List (Addr × (Int × Int)), (∀ k ∈ ks, H k.1 = some (.tup [.int k.2.1, .int k.2.2])) → DpAll K H (ks.map fun k => V.ref k.1) (ks.map fun k => pD k.2)
  | [], _ => .nil
  | k :: ks, h => .cons (.tup (SqT.of (h k List.mem_cons_self)) (.cons (.int _) (.cons (.int _) .nil))) (dp_ps ks fun j hj => h j (List.mem_cons_of_mem _ hj))
def rMinP (K : PySem.W.Frag) : List V → Hp → VK → Prop := fun vs H Q => ∃ (a : Addr) (ks : List (Addr × (Int × Int))), vs = [V.ref a] ∧ SqL K H a (ks.map fun k => V.ref k.1) ∧ ks ≠ [] ∧ (∀ k ∈ ks, H k.1 = some (.tup [.int k.2.1, .int k.2.2])) ∧
  ∀ k ∈ ks, (∀ j ∈ ks, ¬ plt j.2 k.2) → Q (.ref k.1) H
theorem cr_minP (hc : X.calm = true) (hu : X.A.units + 10 < cLine) : CallR X (.builtin "min") (rMinP X.K) := by
  intro pins s σ H vs us Q I r h
  obtain ⟨a, ks, rfl, hs, hne, hk, q⟩ := h
  rw [Vals.ref1 r]
  obtain ⟨its, rv, pl, _⟩ := I.list hs
  obtain ⟨k0, ks, rfl⟩ : ∃ k l, ks = k :: l := by
    cases ks with
    | nil => exact absurd rfl hne
    | cons k l => exact ⟨k, l, rfl⟩
  obtain ⟨as, rd⟩ := Dp.readsAll I _ _ _ (dp_ps (K := X.K) (k0 :: ks) hk) rv
  have HA : PySem.W.HoldAll s.heap its.toArray.toList (k0.2 :: ks.map (·.2)) := ⟨as, by
    have e : ((k0.2 :: ks.map (·.2)).map Datum.toD) = (k0 :: ks).map fun k => pD k.2 := by
      rw [List.map_cons, List.map_cons, List.map_map]
      rfl
    rw [e]
    simpa using rd⟩
  refine PySem.W.min_list_datum (I.ok.hd hc) pl.isList HA (by show X.A.units + 1 + 1 < cLine; omega) fun i v h' tk hv hm kp => ?_
  have hv : its[i]? = some v := by simpa using hv
  have hlt : i < its.length := (List.getElem?_eq_some_iff.mp hv).1
  have hl := rv.length
  rw [List.length_map] at hl
  obtain ⟨k, hki⟩ : ∃ k, (k0 :: ks)[i]? = some k := ⟨(k0 :: ks)[i]'(by omega), List.getElem?_eq_getElem (by omega)⟩
  have hmem := List.mem_of_getElem? hki
  obtain ⟨v', hv', rk⟩ := rv.get (show ((k0 :: ks).map fun k => V.ref k.1)[i]? = some (.ref k.1) by rw [List.getElem?_map, hki]; rfl)
  have ev : v' = v := by rw [hv] at hv'; exact (Option.some.inj hv').symm
  subst ev
  obtain ⟨bs, r1⟩ := hm
  obtain ⟨cs, r2⟩ := Dp.reads I _ _ _ (Dp.tup (SqT.of (hk k hmem)) (.cons (.int _) (.cons (.int _) .nil)) : Dp X.K H (.ref k.1) (pD k.2)) rk
  have e := (Reads.unique (PySem.W.reads_keeps kp r2) _ _ r1).1
  have ek : k.2 = PySem.W.minOf k0.2 (ks.map (·.2)) := by
    have e' : pD k.2 = pD (PySem.W.minOf k0.2 (ks.map (·.2))) := e
    simp only [pD, PyData.tuple.injEq, List.cons.injEq, PyData.int.injEq, and_true] at e'
    exact Prod.ext e'.1 e'.2
  refine ⟨.ref k.1, H, I.kept kp, rk, q k hmem fun j hj => ?_⟩
  rw [ek]
  refine least_all (ks.map (·.2)) k0.2 j.2 ?_
  rcases List.mem_cons.mp hj with rfl | hj
  · exact List.mem_cons_self
  · exact List.mem_cons_of_mem _ (List.mem_map_of_mem hj)
end
end Ag

end
/-! ## R9 -/
section
set_option linter.all false
set_option maxRecDepth 100000
set_option maxHeartbeats 4000000
namespace Ag
open PySem PySem.Spec PyProof.Rows L2
open SX (S S_len S_cat S_inj)
section
variable {P : Program} {w : World} {K : PySem.W.Frag} {mg : Str → Option Value} {base : Heap} {tw tp tg t1 t2 t3 : Tok}
/-! ### the law's own -/
def spLScore : Sp := fun vs H Q _ => ∃ k l, vs = [.str (S k), .str (S l)] ∧ k.length + l.length ≤ 1000 ∧ Q (.int (Sc.scL (keyL k l) : Nat)) H
theorem ok_lscore {f : Addr} {fd : FuncData} (F : Fn K mg "_law_score" s__law_score ["_law_key", "_law_label"] f fd) (B : Blt mg) : FnOk P w K mg base CX0 1 f fd ["_law_key", "_law_label"] spLScore := by
  refine F.F.ok sc__law_score (fun vs H Q E h => ?_) (fun cdv A outer s H vs Q E hr h => ?_)
  · obtain ⟨k, l, rfl, _⟩ := h
    rfl
  · obtain ⟨k, l, rfl, hz, q⟩ := h
    refine ⟨_, (pss_cons (ps_set (i := 2) sc__law_score.nd rfl (.inl rfl) pe_int)
      (pss_cons (ps_for PassesOwn.never rfl (pi_str (pe_op op_add_str (pe_op op_add_str (pv 0) pe_str) (pv 1))) (pg_name (i := 3) sc__law_score.nd rfl (Or.inl rfl))
      (pss_one (ps_set (i := 2) sc__law_score.nd rfl (.inl rfl) (pe_op op_mod (pe_callTy call_int1 (by rfl) B.n_int (by decide +kernel) (pa_cons (pe_op op_add (pe_op op_mul (pv 2) pe_int) (pe_callB call_ord (by rfl) B.n_ord (by decide +kernel) (pa_cons (pv 3) pa_nil))) pa_nil)) pe_int))))
      (pss_one (ps_ret (pv 2))))), ?_⟩
    have c2 : S k ++ Str.ofString "/" = S (k ++ [47]) := S_cat k [47]
    have c3 : S (k ++ [47]) ++ S l = S (keyL k l) := by rw [S_cat]; unfold keyL; simp
    have len : (keyL k l).length = k.length + l.length + 1 := by unfold keyL; simp; omega
    refine ⟨_, rfl, _, _, rfl, rfl, ?_, ?_⟩
    · rw [S_len]; exact sz (by show k.length + 1 ≤ _; omega)
    rw [c2]
    refine ⟨_, rfl, _, _, rfl, rfl, ?_, ?_⟩
    · rw [S_len, S_len]; exact sz (by simp; omega)
    rw [c3]
    refine ⟨_, rfl, ?_⟩
    refine for_it (walk_str (z := S (keyL k l))) (fun j σ H' => ∃ (y4 : Option V), σ = [some (.str (S k)), some (.str (S l)), some (.int (Sc.scL ((keyL k l).take j) : Nat)), y4] ∧ H' = H) ⟨_, rfl, rfl⟩ (fun _ _ _ _ _ => trivial) ?_ ?_
    · rintro j y σ H3 H4 hj ⟨y4, rfl, rfl⟩ ⟨rfl, ch, hch, rfl⟩
      have hch : (keyL k l)[j]? = some ch := by
        rw [← Array.getElem?_toList] at hch
        exact hch
      refine ⟨_, rfl, _, _, rfl, rfl, .inr ⟨by decide, by decide⟩, _, rfl, _, rfl, rfl, _, _, rfl, rfl, .inl ⟨_, rfl, _, _, rfl, rfl, (by show (0 : Int) < 65521; decide), ?_⟩⟩
      refine ⟨some (.str ⟨#[ch]⟩), ?_, rfl⟩
      rw [Sc.scL_take hch, ← sc_int]
      rfl
    · rintro σ H3 ⟨y4, rfl, rfl⟩
      rw [List.take_of_length_le (by show _ ≤ (keyL k l).length; exact Nat.le_refl _)]
      exact ⟨_, rfl, q⟩
def spLLb : Sp := fun vs H Q _ => ∃ a ts ps c ns d bs, vs = [.ref a, .ref c, .ref d] ∧ Pool a ts ps H ∧ H c = some (.tup (ctV ns)) ∧ Lot ps.length ns ∧ ns ≠ [] ∧ H d = some (.tup (ctV bs)) ∧ bs.length = ps.length ∧ ∀ H', Same H H' → Q (.int (Sc.lbF (wF ps) (kF bs) ns : Nat)) H'
theorem ok_llb {f : Addr} {fd : FuncData} (F : Fn K mg "_law_least_busy" s__law_least_busy ["_law_pool", "_law_lot", "_law_busy"] f fd) (B : Blt mg) : FnOk P w K mg base CX0 1 f fd ["_law_pool", "_law_lot", "_law_busy"] spLLb := by
  refine F.F.ok sc__law_least_busy (fun vs H Q E h => ?_) (fun cdv A outer s H vs Q E hr h => ?_)
  · obtain ⟨a, ts, ps, c, ns, d, bs, rfl, _⟩ := h
    rfl
  · obtain ⟨a, ts, ps, c, ns, d, bs, rfl, p, hc, lo, hne, hd, hbl, q⟩ := h
    refine ⟨_, (pss_cons (ps_set (i := 3) sc__law_least_busy.nd rfl (.inl rfl) (pe_ix ix_tup (pv 1) pe_int (fun _ _ => rfl)))
      (pss_cons (ps_for PassesOwn.never rfl (pi_tup (pe_slice sl_tupA (pv 1) (po_some pe_int) po_none)) (pg_name (i := 4) sc__law_least_busy.nd rfl (Or.inl rfl))
      (pss_one (ps_if (pt_cmpR op_lt (pe_op op_mul (pe_op op_add (pe_ix ix_tup (pv 2) (pv 4) (fun _ _ => rfl)) pe_int) (pe_ix ix_seq (pe_ix ix_tup (pv 0) (pv 3) (fun _ _ => rfl)) pe_int (fun _ _ => rfl))) (pe_op op_mul (pe_op op_add (pe_ix ix_tup (pv 2) (pv 3) (fun _ _ => rfl)) pe_int) (pe_ix ix_seq (pe_ix ix_tup (pv 0) (pv 4) (fun _ _ => rfl)) pe_int (fun _ _ => rfl))) (nomark _))
        (pss_one (ps_set (i := 3) sc__law_least_busy.nd rfl (.inl rfl) (pv 4)))
        pss_nil)))
      (pss_one (ps_ret (pv 3))))), ?_⟩
    obtain ⟨x0, tl, rfl⟩ : ∃ x l, ns = x :: l := by
      cases ns with
      | nil => exact absurd rfl hne
      | cons x l => exact ⟨x, l, rfl⟩
    have l20 := lo.len
    refine ⟨_, rfl, c, _, _, _, rfl, rfl, SqT.of hc, atI_nat (j := 0) (ctV_at rfl), ?_⟩
    have e1 : HT.sIx (ctV (x0 :: tl)).length 0 (some 1) = 1 := by
      rw [show (1 : Int) = ((1 : Nat) : Int) from rfl, HT.sIx_nat, ctV_len]
      simp
    refine ⟨_, rfl, 1, rfl, c, _, rfl, SqT.of hc, fun z => ?_, fun _ T hT => ?_⟩
    · rw [e1] at z
      exact absurd z.1 (by decide)
    have ecut : cutV (ctV (x0 :: tl)) (some 1) none = ctV tl := by
      unfold cutV
      rw [HT.sIx_none, e1]
      simp [ctV]
      exact List.take_of_length_le (by simp)
    rw [ecut]
    have s12 : Same H (upd H T (.tup (ctV tl))) := same_new hT
    have hT1 : upd H T (.tup (ctV tl)) T = some (.tup (ctV tl)) := upd_same
    generalize upd H T (.tup (ctV tl)) = H2 at s12 hT1 ⊢
    refine ⟨T, rfl, ⟨_, SqT.of hT1⟩, ?_⟩
    refine for_it (walk_tup (K := K) (a := T) (xs := ctV tl)) (fun j σ H' => ∃ x4 : Option V, σ = [some (.ref a), some (.ref c), some (.ref d), some (.int ((tl.take j).foldl (Sc.lbS (wF ps) (kF bs)) x0 : Nat)), x4] ∧ Same H2 H') ⟨_, rfl, Same.refl _⟩ (fun j σ H' _ z => ?_) ?_ ?_
    · obtain ⟨_, _, sm⟩ := z
      exact SqT.of (sm _ _ hT1)
    · rintro j y σ H3 H4 hj ⟨x4, rfl, s3⟩ ⟨rfl, hy⟩
      obtain ⟨n, hn, rfl⟩ := ctV_get hy
      have hn8 := lo.lt n (List.mem_cons_of_mem _ (List.mem_of_getElem? hn))
      have hst := Sc.fold_take (w := wF ps) (b := kF bs) (x0 := x0) hn
      have hb8 : (tl.take j).foldl (Sc.lbS (wF ps) (kF bs)) x0 < ps.length := by
        rcases Sc.fold_mem (w := wF ps) (b := kF bs) (ns := tl.take j) (x0 := x0) with h | h
        · rw [h]
          exact lo.lt _ List.mem_cons_self
        · exact lo.lt _ (List.mem_cons_of_mem _ (List.mem_of_mem_take h))
      generalize (tl.take j).foldl (Sc.lbS (wF ps) (kF bs)) x0 = b at hst hb8 ⊢
      have p3 := p.to (s12.trans s3)
      obtain ⟨tn, en, r1, r2, r3, _, r4, r5, _⟩ := p3.row hn8
      obtain ⟨tb, eb, u1, u2, u3, _, u4, u5, _⟩ := p3.row hb8
      obtain ⟨bn, hbn⟩ : ∃ k, bs[n]? = some k := ⟨bs[n]'(by omega), List.getElem?_eq_getElem (by omega)⟩
      obtain ⟨bb, hbb⟩ : ∃ k, bs[b]? = some k := ⟨bs[b]'(by omega), List.getElem?_eq_getElem (by omega)⟩
      have hd3 := s3 _ _ (s12 _ _ hd)
      refine ⟨_, rfl, _, rfl, d, _, _, _, rfl, rfl, SqT.of hd3, atI_nat (ctV_at hbn), _, _, rfl, rfl, _, rfl, _, rfl, a, _, _, _, rfl, rfl, SqT.of p3.at_, atI_nat u1, .inr (.inl ⟨tb, _, _, _, rfl, rfl, SqT.of u3, atI_nat (j := 1) rfl, _, _, rfl, rfl, .inr ⟨by omega, by omega⟩, ?_⟩)⟩
      refine ⟨_, rfl, _, rfl, d, _, _, _, rfl, rfl, SqT.of hd3, atI_nat (ctV_at hbb), _, _, rfl, rfl, _, rfl, _, rfl, a, _, _, _, rfl, rfl, SqT.of p3.at_, atI_nat r1, .inr (.inl ⟨tn, _, _, _, rfl, rfl, SqT.of r3, atI_nat (j := 1) rfl, _, _, rfl, rfl, .inr ⟨by omega, by omega⟩, ?_⟩)⟩
      refine ⟨_, _, rfl, rfl, _, rfl, ?_⟩
      rw [lb_step u2 r2 hbb hbn] at hst
      refine ite2 (fun h => ?_) (fun h => ?_)
      · rw [if_pos h] at hst
        exact ⟨_, rfl, _, by rw [hst]; rfl, s3⟩
      · rw [if_neg h] at hst
        exact ⟨some (.int n), by rw [hst]; rfl, s3⟩
    · rintro σ H3 ⟨x4, rfl, s3⟩
      rw [List.take_of_length_le (by rw [ctV_len]; exact Nat.le_refl _)]
      exact ⟨_, rfl, q _ (s12.trans s3)⟩
def spLBk : Sp := fun vs H Q _ => ∃ a ts ps c ns k, vs = [.ref a, .ref c, .str (S k)] ∧ Pool a ts ps H ∧ H c = some (.tup (ctV ns)) ∧ Lot ps.length ns ∧ ns ≠ [] ∧ wordL k = true ∧ ∀ (i : Nat) H', Same H H' → Sc.Bst (fS ps k) ns i → Q (.int (i : Int)) H'
theorem ok_lbk {f f1 : Addr} {fd fd1 : FuncData} (F : Fn K mg "_law_by_key" s__law_by_key ["_law_pool", "_law_lot", "_law_key"] f fd) (B : Blt mg) (F__law_score : Fn K mg "_law_score" s__law_score ["_law_key", "_law_label"] f1 fd1) (G__law_score : FnOk P w K mg base CX0 1 f1 fd1 ["_law_key", "_law_label"] spLScore) : FnOk P w K mg base CX0 2 f fd ["_law_pool", "_law_lot", "_law_key"] spLBk := by
  refine F.F.ok sc__law_by_key (fun vs H Q E h => ?_) (fun cdv A outer s H vs Q E hr h => ?_)
  · obtain ⟨a, ts, ps, c, ns, k, rfl, _⟩ := h
    rfl
  · obtain ⟨a, ts, ps, c, ns, k, rfl, p, hc, lo, hne, hk, q⟩ := h
    refine ⟨_, (pss_one (ps_ret (pe_ix ix_tup (pe_callB (cr_minP rfl (u10 hr)) (by rfl) B.n_min (by decide +kernel) (pa_cons (pe_lc (own := [("_law_at", 3)]) rfl sc__law_by_key.nd (pi_tup (pv 1)) (blkOk_by (N := N__law_by_key) (sc := defScope s__law_by_key) (by decide +kernel)) (fun _ _ _ _ _ => (pg_name (i := 3) sc__law_by_key.nd rfl (Or.inl rfl))) (fun _ _ _ _ _ => pts_nil) (fun _ _ _ _ _ => (pe_tup (pa_cons (pe_un un_neg (pe_call G__law_score (hr.mono (by decide)) (by rfl) F__law_score.g F__law_score.F.kp F__law_score.b .nil pass0 (pa_cons (pv 2) (pa_cons (pe_ix (ix_tupK K rfl) (pe_ix (ix_tupK K rfl) (pv 0) (pv 3) (fun _ _ => rfl)) pe_int (fun _ _ => rfl)) pa_nil)))) (pa_cons (pv 3) pa_nil))))) pa_nil)) pe_int (fun _ _ => rfl)))), ?_⟩
    have l20 := lo.len
    have lk := word_len hk
    refine ⟨_, rfl, c, rfl, ⟨_, SqT.of hc⟩, fun D hD => ?_⟩
    refine lc_allH (walk_tup (K := K) (a := c) (xs := ctV ns)) (fun H' => Same H H') (fun H' j y => ∃ T n, y = .ref T ∧ T ≠ D ∧ ns[j]? = some n ∧ H' T = some (.tup [.int (-((fS ps k n : Nat) : Int)), .int (n : Nat)])) (by rw [ctV_len]; omega) (Same.refl _) (fun H' o r b u e => by rw [upd_ne (ne_of_none e hD)]; exact r b u e) ?_ (fun H' r => SqT.of (r _ _ hc)) ?_ ?_
    · rintro H' o j y ⟨T, n, rfl, h1, h2, h3⟩
      exact ⟨T, n, rfl, h1, h2, by rw [upd_ne h1]; exact h3⟩
    · rintro j y H3 H4 xs kk hj r hxs ⟨rfl, hy⟩ hkk
      obtain ⟨n, hn, rfl⟩ := ctV_get hy
      obtain ⟨t, e, r1, r2, r3, _, _, _, r4⟩ := (p.to r).row (lo.lt n (List.mem_of_getElem? hn))
      have le := word_len r4
      refine ⟨rfl, _, rfl, _, rfl, _, rfl, a, _, _, _, rfl, rfl, SqT.of (p.to r).at_, atI_nat r1, t, _, _, _, rfl, rfl, SqT.of r3, atI_nat (j := 0) rfl, k, e.1, rfl, by omega, ?_⟩
      rw [← fS_at (k := k) r2]
      refine ⟨_, rfl, _, rfl, sz (by show 2 ≤ 16000000; decide), fun T hT => ?_⟩
      have nTD : T ≠ D := (ne_of_none hxs hT).symm
      refine hkk _ _ (fun j' z hz => ?_) ⟨T, n, rfl, nTD, hn, upd_same⟩ (r.trans (same_new hT)) (by rw [upd_ne nTD.symm]; exact hxs)
      obtain ⟨T', n', rfl, h1, h2, h3⟩ := hz
      exact ⟨T', n', rfl, h1, h2, same_new hT _ _ h3⟩
    · intro H3 xs hxl hv r hxs
      rw [ctV_len] at hxl
      have hks : ∃ ks : List (Addr × (Int × Int)), xs = ks.map (fun z => V.ref z.1) ∧ ∀ (j : Nat) z, ks[j]? = some z → ∃ n : Nat, ns[j]? = some n ∧ z.2 = (-((fS ps k n : Nat) : Int), (n : Int)) ∧ H3 z.1 = some (.tup [.int z.2.1, .int z.2.2]) := by
        have : ∀ (l : List V), (∀ (j : Nat) y, l[j]? = some y → ∃ T, ∃ n : Nat, y = V.ref T ∧ T ≠ D ∧ ns[j]? = some n ∧ H3 T = some (.tup [.int (-((fS ps k n : Nat) : Int)), .int (n : Nat)])) → ∀ m : Nat, m ≤ l.length → ∃ ks : List (Addr × (Int × Int)), ks.length = m ∧ l.take m = ks.map (fun z => V.ref z.1) ∧ ∀ (j : Nat) z, ks[j]? = some z → ∃ n : Nat, ns[j]? = some n ∧ z.2 = (-((fS ps k n : Nat) : Int), (n : Int)) ∧ H3 z.1 = some (.tup [.int z.2.1, .int z.2.2]) := by
          intro l hl m
          induction m with
          | zero => exact fun _ => ⟨[], rfl, by simp, fun j z h => by simp at h⟩
          | succ m ih =>
            intro hm
            obtain ⟨ks, e1, e2, e3⟩ := ih (by omega)
            have hlm : l[m]? = some (l[m]'(by omega)) := List.getElem?_eq_getElem (by omega)
            obtain ⟨T, n, ey, _, hn, hT⟩ := hl m _ hlm
            refine ⟨ks ++ [(T, (-((fS ps k n : Nat) : Int), (n : Int)))], by simp [e1], ?_, fun j z hz => ?_⟩
            · rw [List.take_add_one, hlm, e2, List.map_append, ey]
              rfl
            · rw [List.getElem?_append] at hz
              split at hz
              · exact e3 j z hz
              · rename_i hj
                have e0 : j - ks.length = 0 := by
                  cases hq : j - ks.length with
                  | zero => rfl
                  | succ i => rw [hq] at hz; simp at hz
                rw [e0] at hz
                simp at hz
                subst hz
                have : j = m := by omega
                subst this
                exact ⟨n, hn, rfl, hT⟩
        obtain ⟨ks, _, e2, e3⟩ := this xs hv xs.length (Nat.le_refl _)
        exact ⟨ks, by rw [← e2, List.take_length], e3⟩
      obtain ⟨ks, rfl, hk2⟩ := hks
      rw [List.length_map] at hxl
      have hne' : ks ≠ [] := by
        rintro rfl
        exact hne (List.eq_nil_of_length_eq_zero hxl.symm)
      refine ⟨D, ks, rfl, SqL.of hxs, hne', fun z hz => ?_, fun z hz hmin => ?_⟩
      · obtain ⟨j, hj⟩ := List.getElem?_of_mem hz
        obtain ⟨_, _, _, h⟩ := hk2 j z hj
        exact h
      · obtain ⟨j, hj⟩ := List.getElem?_of_mem hz
        obtain ⟨n, hn, ez, hT⟩ := hk2 j z hj
        have key : ∀ m ∈ ns, ¬ plt (-((fS ps k m : Nat) : Int), (m : Int)) z.2 := by
          intro m hm
          obtain ⟨i, hi⟩ := List.getElem?_of_mem hm
          have hil : i < ks.length := by rw [hxl]; exact (List.getElem?_eq_some_iff.mp hi).1
          have hki : ks[i]? = some ks[i] := List.getElem?_eq_getElem hil
          obtain ⟨m', hm', em, _⟩ := hk2 i _ hki
          rw [hi] at hm'
          obtain rfl := Option.some.inj hm'
          rw [← em]
          exact hmin _ (List.getElem_mem hil)
        refine ⟨z.1, _, _, _, rfl, rfl, SqT.of hT, atI_nat (j := 1) rfl, ?_⟩
        rw [ez]
        refine q n H3 r ⟨List.mem_of_getElem? hn, fun m hm => ?_, fun m hm em => ?_⟩
        · have := key m hm
          rw [ez] at this
          unfold plt at this
          simp only at this
          omega
        · have := key m hm
          rw [ez] at this
          unfold plt at this
          simp only at this
          omega
end
end Ag

end
/-! ## RW1 -/
section
set_option linter.all false
set_option maxRecDepth 100000
namespace Ag
open PySem PySem.Spec PyProof.Rows L2
open SX (S S_len S_cat S_inj)
theorem strs_of {P : List Nat → Prop} : ∀ {xs : List V}, (∀ (i : Nat) y, xs[i]? = some y → ∃ z, P z ∧ y = V.str (S z)) → ∃ zs : List (List Nat), xs = (zs.map S).map V.str ∧ ∀ z ∈ zs, P z
  | [], _ => ⟨[], rfl, fun _ h => by cases h⟩
  | x :: xs, h => by
    obtain ⟨z, hz, rfl⟩ := h 0 x rfl
    obtain ⟨zs, rfl, hp⟩ := strs_of (xs := xs) fun i y hy => h (i + 1) y (by simpa using hy)
    refine ⟨z :: zs, rfl, fun u hu => ?_⟩
    rcases List.mem_cons.mp hu with rfl | hu
    · exact hz
    · exact hp u hu
theorem joinL_nil : ∀ zs : List (List Nat), TL.joinL [] zs = zs.flatten
  | [] => rfl
  | [p] => by simp [TL.joinL]
  | p :: q :: r => by
    show p ++ ([] ++ TL.joinL [] (q :: r)) = _
    rw [joinL_nil (q :: r)]
    simp
theorem emptyS : (Str.ofString "") = S [] := by decide +kernel
theorem len_sum {zs : List (List Nat)} : ((zs.map S).map (·.length)).sum = zs.flatten.length := by
  rw [SX.lens, List.length_flatten]
theorem azzS : (Str.ofString "abcdefghijklmnopqrstuvwxyz") = S ((List.range 26).map (· + 97)) := by decide +kernel
theorem alS : (Str.ofString "abcdefghijkl") = S ((List.range 12).map (· + 97)) := by decide +kernel
theorem one_flat {zs : List (List Nat)} (h : ∀ z ∈ zs, ∃ ch, z = [ch] ∧ azC ch = true) : zs.flatten.length = zs.length ∧ zs.flatten.all azC = true := by
  induction zs with
  | nil => exact ⟨rfl, rfl⟩
  | cons z zs ih =>
    obtain ⟨h1, h2⟩ := ih fun u hu => h u (List.mem_cons_of_mem _ hu)
    obtain ⟨ch, rfl, hc⟩ := h z List.mem_cons_self
    refine ⟨?_, ?_⟩
    · rw [List.flatten_cons, List.length_append, h1]
      simp
      omega
    · rw [List.flatten_cons, List.all_append, h2]
      simp [hc]
theorem sub_len {α : Type} [DecidableEq α] : ∀ (a b : List α), a.Nodup → (∀ x ∈ a, x ∈ b) → a.length ≤ b.length
  | [], _, _, _ => Nat.zero_le _
  | x :: a, b, nd, h => by
    obtain ⟨h1, h2⟩ := List.nodup_cons.mp nd
    have hx := h x List.mem_cons_self
    have := sub_len a (b.erase x) h2 fun y hy => by
      have hne : y ≠ x := fun z => h1 (z ▸ hy)
      exact (List.mem_erase_of_ne hne).mpr (h y (List.mem_cons_of_mem _ hy))
    rw [List.length_erase_of_mem hx] at this
    have hp := List.length_pos_of_mem hx
    rw [List.length_cons]
    omega
/-- ten equal letters -/
def ten (i : Nat) : List Nat := List.replicate 10 (i + 97)
theorem ten_word {i : Nat} (h : i < 12) : wordL (ten i) = true := by
  match i, h with
  | 0, _ => decide
  | 1, _ => decide
  | 2, _ => decide
  | 3, _ => decide
  | 4, _ => decide
  | 5, _ => decide
  | 6, _ => decide
  | 7, _ => decide
  | 8, _ => decide
  | 9, _ => decide
  | 10, _ => decide
  | 11, _ => decide
theorem ten_free {ls : List (List Nat)} (h : ls.length < 12) : ∃ i, i < 12 ∧ ten i ∉ ls := by
  refine Classical.byContradiction fun z => ?_
  have all : ∀ x ∈ (List.range 12).map ten, x ∈ ls := by
    intro x hx
    obtain ⟨i, hi, rfl⟩ := List.mem_map.mp hx
    refine Classical.byContradiction fun q => z ⟨i, List.mem_range.mp hi, q⟩
  have := sub_len _ ls (by decide : ((List.range 12).map ten).Nodup) all
  simp at this
  omega
abbrev wV (ls : List (List Nat)) : List V := ls.map fun l => V.str (S l)
theorem flat_w (ls : List (List Nat)) : (wV ls).all flatV = true := by
  rw [List.all_eq_true]
  intro y hy
  obtain ⟨z, _, rfl⟩ := List.mem_map.mp hy
  rfl
theorem in_w (l : List Nat) (ls : List (List Nat)) : inV (.str (S l)) (wV ls) = decide (l ∈ ls) := by
  unfold inV
  rw [Bool.eq_iff_iff, List.any_eq_true, decide_eq_true_eq]
  constructor
  · rintro ⟨y, hy, e⟩
    obtain ⟨z, hz, rfl⟩ := List.mem_map.mp hy
    have : S z = S l := eq_of_beq e
    rw [← S_inj this]
    exact hz
  · intro h
    refine ⟨.str (S l), List.mem_map_of_mem h, ?_⟩
    show (S l == S l) = true
    exact beq_self_eq_true _
theorem op_notIn_seqK {X : Cx} (K : PySem.W.Frag) (hK : X.K = K) : OpR X (compareOp .NotIn) (rIn K true) := by
  subst hK
  exact op_notIn_seq
theorem wV_get {ls : List (List Nat)} {j : Nat} {l : List Nat} (h : ls[j]? = some l) : (wV ls)[j]? = some (.str (S l)) := by
  show (ls.map _)[j]? = _
  rw [List.getElem?_map, h]
  rfl
section
variable {P : Program} {w : World} {K : PySem.W.Frag} {mg : Str → Option Value} {base : Heap}
def spMkWord : Sp := fun vs H Q _ => ∃ (p c : Addr), vs = [.ref p] ∧ Dk p c H ∧ ∀ (l : List Nat) H', wordL l = true → Gx p c H H' → Q (.str (S l)) H'
theorem ok_mkword {f f2 : Addr} {fd fd2 : FuncData} (F : Fn K mg "_law_word" s__law_word ["_law_deck_here"] f fd) (B : Blt mg) (F__law_pick : Fn K mg "_law_pick" s__law_pick ["_law_deck_here", "_law_some"] f2 fd2)
    (G__law_pick : FnOk P w K mg base CX0 2 f2 fd2 ["_law_deck_here", "_law_some"] spPick) : FnOk P w K mg base CX0 3 f fd ["_law_deck_here"] spMkWord := by
  refine F.F.ok sc__law_word (fun vs H Q E h => ?_) (fun cdv A outer s H vs Q E hr h => ?_)
  · obtain ⟨p, c, rfl, _⟩ := h
    rfl
  · obtain ⟨p, c, rfl, dk, q⟩ := h
    refine ⟨_, (pss_cons (ps_set (i := 1) sc__law_word.nd rfl (.inl rfl) (pe_call G__law_pick (hr.mono (by decide)) (by rfl) F__law_pick.g F__law_pick.F.kp F__law_pick.b .nil pass0 (pa_cons (pv 0) (pa_cons (pe_lst (pa_cons pe_int (pa_cons pe_int (pa_cons pe_int (pa_cons pe_int (pa_cons pe_int (pa_cons pe_int pa_nil))))))) pa_nil))))
      (pss_one (ps_ret (pe_join pe_str (pe_lc (own := [("_law_letter", 2)]) rfl sc__law_word.nd (pi_range1 (by rfl) B.n_range (pa_cons (pv 1) pa_nil)) (blkOk_by (N := N__law_word) (sc := defScope s__law_word) (by decide +kernel)) (fun _ _ _ _ _ => (pg_name (i := 2) sc__law_word.nd rfl (Or.inl rfl))) (fun _ _ _ _ _ => pts_nil) (fun _ _ _ _ _ => (pe_call G__law_pick (hr.mono (by decide)) (by rfl) F__law_pick.g F__law_pick.F.kp F__law_pick.b .nil pass0 (pa_cons (pv 0) (pa_cons pe_str pa_nil))))))))), ?_⟩
    refine ⟨_, rfl, sz (by show 6 ≤ 16000000; decide), fun a ha => ?_⟩
    have g1 := Gx.new (o := .lst [.int 1, .int 2, .int 3, .int 5, .int 10, .int 4]) dk ha
    have a1 := At.new (o := .lst [.int 1, .int 2, .int 3, .int 5, .int 10, .int 4]) dk ha
    refine ⟨p, c, .ref a, rfl, g1.2, .inl ⟨a, _, rfl, a1, (by show 1 ≤ 6; decide), (by show 6 ≤ 100000; decide), fun r x H2 hx g2 => ?_⟩⟩
    have g2 := g1.trans g2
    obtain ⟨m, m1, hm, rfl⟩ : ∃ m : Nat, 1 ≤ m ∧ m ≤ 10 ∧ x = .int (m : Int) := by
      have mem := List.mem_of_getElem? hx
      simp only [List.mem_cons, List.not_mem_nil, or_false] at mem
      rcases mem with rfl | rfl | rfl | rfl | rfl | rfl
      · exact ⟨1, by decide, by decide, rfl⟩
      · exact ⟨2, by decide, by decide, rfl⟩
      · exact ⟨3, by decide, by decide, rfl⟩
      · exact ⟨5, by decide, by decide, rfl⟩
      · exact ⟨10, by decide, by decide, rfl⟩
      · exact ⟨4, by decide, by decide, rfl⟩
    refine ⟨⟨_, rfl⟩, _, rfl, _, rfl, by omega, by omega, fun D hD => ?_⟩
    have nD := g2.2.ne hD
    have hD0 := g2.free dk hD
    have hmm : ((m : Int)).toNat = m := by simp
    refine lc_all (walk_range (lo := 0) (n := ((m : Int)).toNat)) (fun H' => Gx p c H H') (fun _ y => ∃ z, (∃ ch, z = [ch] ∧ azC ch = true) ∧ y = .str (S z)) (by rw [hmm]; omega) g2 (fun H' o g => g.put dk hD0 nD) (fun _ _ => trivial) ?_ ?_
    · rintro i x Ha Hb xs k hi g hxs ⟨rfl, rfl⟩ hk
      refine ⟨rfl, _, rfl, p, c, _, rfl, g.2, .inr ⟨_, congrArg V.str azzS, by decide, by decide, fun r d H8 hd g8 => ?_⟩⟩
      refine hk _ _ ⟨[d], ⟨d, rfl, ?_⟩, rfl⟩ (g.trans g8) (g8.1 D _ nD.1 nD.2 hxs)
      obtain ⟨e, he, rfl⟩ := List.mem_map.mp (List.mem_of_getElem? hd)
      have he := List.mem_range.mp he
      simp only [azC, Bool.and_eq_true, decide_eq_true_eq]
      omega
    · rintro H' xs hl hv g hxs
      obtain ⟨zs, rfl, hz⟩ := strs_of (P := fun z => ∃ ch, z = [ch] ∧ azC ch = true) (fun i y hy => hv i y hy)
      have hzl : zs.length = m := by rw [← hmm, ← hl]; simp
      obtain ⟨hf1, hf2⟩ := one_flat hz
      refine ⟨_, D, zs.map S, rfl, rfl, .inl (SqL.of hxs), ?_, ?_⟩
      · rw [len_sum, emptyS, S_len, List.length_nil, Nat.mul_zero]
        omega
      · rw [emptyS, SX.join_S, joinL_nil]
        refine q _ _ ?_ g
        unfold wordL
        rw [hf2, decide_eq_true (by omega : 1 ≤ zs.flatten.length), decide_eq_true (by omega : zs.flatten.length ≤ 10)]
        rfl
def spMkWords : Sp := fun vs H Q _ => ∃ (p c : Addr) (many : Nat), vs = [.ref p, .int many] ∧ Dk p c H ∧ many ≤ 8 ∧ ∀ (L : Addr) (ls : List (List Nat)) H', H L = none → Gx p c H H' → At p c H' L (.lst (wV ls)) → ls.length = many → ls.Nodup → (∀ l ∈ ls, wordL l = true) → Q (.ref L) H'
set_option maxHeartbeats 1000000 in
theorem ok_mkwords {f f2 : Addr} {fd fd2 : FuncData} (F : Fn K mg "_law_words" s__law_words ["_law_deck_here", "_law_many"] f fd) (B : Blt mg) (F__law_word : Fn K mg "_law_word" s__law_word ["_law_deck_here"] f2 fd2)
    (G__law_word : FnOk P w K mg base CX0 3 f2 fd2 ["_law_deck_here"] spMkWord) : FnOk P w K mg base CX0 4 f fd ["_law_deck_here", "_law_many"] spMkWords := by
  refine F.F.ok sc__law_words (fun vs H Q E h => ?_) (fun cdv A outer s H vs Q E hr h => ?_)
  · obtain ⟨p, c, many, rfl, _⟩ := h
    rfl
  · obtain ⟨p, c, many, rfl, dk, m8, q⟩ := h
    refine ⟨_, (pss_cons (ps_set (i := 2) sc__law_words.nd rfl (.inr rfl) (pe_lst pa_nil))
      (pss_cons (ps_for PassesOwn.never rfl (pi_range1 (by rfl) B.n_range (pa_cons (pv 1) pa_nil)) (pg_name (i := 3) sc__law_words.nd rfl (Or.inl rfl))
      (pss_cons (ps_set (i := 4) sc__law_words.nd rfl (.inl rfl) (pe_call G__law_word (hr.mono (by decide)) (by rfl) F__law_word.g F__law_word.F.kp F__law_word.b .nil pass0 (pa_cons (pv 0) pa_nil)))
        (C8.pss_cut (ps_if (pt_cmpR op_in_seq (pv 4) (pv 2) rfl)
        (pss_one (ps_set (i := 4) sc__law_words.nd rfl (.inl rfl) (pe_ix ix_list (pe_lc (own := [("_law_letter", 5)]) rfl sc__law_words.nd (pi_str pe_str) (blkOk_by (N := N__law_words) (sc := defScope s__law_words) (by decide +kernel)) (fun _ _ _ _ _ => (pg_name (i := 5) sc__law_words.nd rfl (Or.inl rfl))) (fun _ _ _ _ _ => (pts_one (pt_cmpR (op_notIn_seqK K rfl) (pe_op op_rep_str (pv 5) pe_int) (pv 2) rfl))) (fun _ _ _ _ _ => (pe_op op_rep_str (pv 5) pe_int))) pe_int (fun _ _ => rfl))))
        pss_nil)
        (pss_one (ps_expr (pe_bm PySem.F.plainAttrs_list PySem.F.slot_list_append PySem.F.type_list_append mt_append (pv 2) (pa_cons (pv 4) pa_nil)))))))
      (pss_one (ps_ret (pv 2))))), ?_⟩
    refine ⟨Nat.zero_le _, fun L hL => ?_⟩
    have nL := dk.ne hL
    have g0 := Gx.new (o := .lst []) dk hL
    refine ⟨_, rfl, _, rfl, by omega, by omega, ?_⟩
    refine for_range (lo := 0) (n := ((many : Nat) : Int).toNat) (fun j σ H' => ∃ (ls : List (List Nat)) (x3 x4 x5 : Option V), σ = [some (.ref p), some (.int many), some (.ref L), x3, x4, x5] ∧ Gx p c H H' ∧ H' L = some (.lst (wV ls)) ∧ ls.length = j ∧ ls.Nodup ∧ ∀ l ∈ ls, wordL l = true) ⟨[], _, _, _, rfl, g0, upd_same, rfl, List.nodup_nil, fun l hl => by cases hl⟩ ?_ ?_
    · rintro j σ H1 hj ⟨ls, x3, x4, x5, rfl, g, hLs, hlen, nd, hw⟩
      have hj : j < many := by omega
      refine ⟨_, rfl, p, c, rfl, g.2, fun l H2 hl g2 => ?_⟩
      have g := g.trans g2
      have hLs := g2.1 _ _ nL.1 nL.2 hLs
      clear g2
      refine ⟨fun σ H' => ∃ (l : List Nat) (y3 y5 : Option V), σ = [some (.ref p), some (.int many), some (.ref L), y3, some (.str (S l)), y5] ∧ Gx p c H H' ∧ H' L = some (.lst (wV ls)) ∧ wordL l = true ∧ l ∉ ls, ?_, ?_⟩
      · refine ⟨_, rfl, _, rfl, L, wV ls, rfl, .inl (SqL.of hLs), rfl, flat_w ls, _, rfl, ?_⟩
        rw [if_neg (by decide), in_w]
        refine ite2 (fun h => ?_) (fun h => ?_)
        · refine ⟨_, rfl, fun D hD => ?_⟩
          have nD := g.2.ne hD
          have hD0 := g.free dk hD
          have nLD : L ≠ D := ne_of_none hLs hD
          rw [alS]
          refine lc_sel (walk_str (z := S ((List.range 12).map (· + 97)))) (fun i => decide (ten i ∉ ls)) (fun i => .str (S (ten i))) (by decide) hD (fun _ _ => trivial) ?_ ?_
          · rintro j y H3 H4 k k0 hi s3 ⟨rfl, ch, hch, rfl⟩ hk hk0
            have hi : j < 12 := hi
            have ech : ch = j + 97 := by
              rw [← Array.getElem?_toList] at hch
              have : ((List.range 12).map (· + 97))[j]? = some ch := hch
              rw [List.getElem?_map, List.getElem?_range hi] at this
              exact (Option.some.inj this).symm
            subst ech
            have erep : (List.replicate 10 [j + 97]).flatten = ten j := by
              unfold ten
              simp
            refine ⟨rfl, _, rfl, [j + 97], 10, rfl, rfl, by show 1 * 10 ≤ 16000000; decide, by decide, by show 1 ≤ 16000000; decide, ?_⟩
            rw [erep]
            refine ⟨_, rfl, L, wV ls, rfl, .inl (SqL.of (s3 _ _ hLs)), rfl, flat_w ls, _, rfl, ?_⟩
            rw [if_pos rfl, in_w]
            by_cases hm : ten j ∈ ls
            · rw [decide_eq_true hm]
              exact iteF (hk0 (decide_eq_false (by simpa using hm)) _ (Same.refl _))
            · rw [decide_eq_false hm]
              refine iteT ⟨_, rfl, [j + 97], 10, rfl, rfl, by show 1 * 10 ≤ 16000000; decide, by decide, by show 1 ≤ 16000000; decide, ?_⟩
              rw [erep]
              exact hk (decide_eq_true hm) _ (Same.refl _)
          · intro H3 s3 h3
            obtain ⟨i0, hi0, hn0⟩ := ten_free (ls := ls) (by omega)
            have hmem : i0 ∈ (List.range 12).filter fun i => decide (ten i ∉ ls) := List.mem_filter.mpr ⟨List.mem_range.mpr hi0, decide_eq_true hn0⟩
            have h3 : H3 D = some (.lst (((List.range 12).filter fun i => decide (ten i ∉ ls)).map fun i => V.str (S (ten i)))) := h3
            cases hf : (List.range 12).filter (fun i => decide (ten i ∉ ls)) with
            | nil => rw [hf] at hmem; cases hmem
            | cons i rest =>
              rw [hf] at h3
              have hi : i ∈ (List.range 12).filter fun i => decide (ten i ∉ ls) := by rw [hf]; exact List.mem_cons_self
              obtain ⟨hi1, hi2⟩ := List.mem_filter.mp hi
              refine ⟨D, _, _, _, rfl, rfl, SqL.of h3, atI_nat (j := 0) rfl, ?_⟩
              exact ⟨ten i, _, _, rfl, g.trans (Gx.same g.2 s3), s3 _ _ hLs, ten_word (List.mem_range.mp hi1), of_decide_eq_true hi2⟩
        · exact ⟨l, _, _, rfl, g, hLs, hl, of_decide_eq_false (Bool.eq_false_iff.mpr h)⟩
      · rintro σ H3 ⟨l, y3, y5, rfl, g, hLs, hl, hnl⟩
        refine ⟨_, rfl, .inl ⟨rfl, _, SqL.of hLs⟩, _, rfl, L, _, _, rfl, rfl, hLs, by rw [List.length_map, sizeLine_eq]; omega, ?_⟩
        refine ⟨ls ++ [l], _, _, _, rfl, g.put dk hL nL, by rw [upd_same]; simp [wV], by simp [hlen], ?_, fun x hx => ?_⟩
        · rw [List.nodup_append]
          refine ⟨nd, by simp, fun a ha b hb => ?_⟩
          rw [List.mem_singleton.mp hb]
          exact fun z => hnl (z ▸ ha)
        · rcases List.mem_append.mp hx with hx | hx
          · exact hw x hx
          · rw [List.mem_singleton.mp hx]
            exact hl
    · rintro σ H1 ⟨ls, x3, x4, x5, rfl, g, hLs, hlen, nd, hw⟩
      exact ⟨_, rfl, q L ls H1 hL g ⟨nL.1, nL.2, hLs⟩ (by simpa using hlen) nd hw⟩
end
end Ag

end
/-! ## R10 -/
section
set_option linter.all false
set_option maxRecDepth 100000
set_option maxHeartbeats 4000000
namespace Ag
open PySem PySem.Spec PyProof.Rows L2
open SX (S S_len S_cat S_inj)
section
variable {P : Program} {w : World} {K : PySem.W.Frag} {mg : Str → Option Value} {base : Heap}
def spLInt : Sp := fun vs H Q _ => ∃ p c v d lo hi, vs = [v, .int lo, .int hi] ∧ Dg p c H v d ∧ Q (.bl (wholeB lo hi d)) H
theorem ok_lint {f : Addr} {fd : FuncData} (F : Fn K mg "_law_is_int" s__law_is_int ["_law_thing", "_law_low", "_law_high"] f fd) (B : Blt mg) : FnOk P w K mg base CX0 1 f fd ["_law_thing", "_law_low", "_law_high"] spLInt := by
  refine F.F.ok sc__law_is_int (fun vs H Q E h => ?_) (fun cdv A outer s H vs Q E hr h => ?_)
  · obtain ⟨p, c, x, d, lo, hi, rfl, _⟩ := h
    rfl
  · obtain ⟨p, c, x, d, lo, hi, rfl, hd, q⟩ := h
    refine ⟨_, (pss_one (ps_ret (pe_and (pe_callB call_isi (by rfl) B.n_isinstance (by decide +kernel) (pa_cons (pv 0) (pa_cons (pe_bltn (v := .ty "int") (by rfl) B.n_int (by decide +kernel) rfl) pa_nil))) (pe_and (pe_not (pe_callB call_isi (by rfl) B.n_isinstance (by decide +kernel) (pa_cons (pv 0) (pa_cons (pe_bltn (v := .ty "bool") (by rfl) B.n_bool (by decide +kernel) rfl) pa_nil)))) (pe_one (pe_chain op_le op_le (pv 1) (pv 0) (pv 2))))))), ?_⟩
    refine ⟨x, rfl, x, .ty "int", _, _, _, rfl, .ty "int", hd.tyx, isi_I d, _, rfl, ite2 (fun h => ?_) (fun h => ?_)⟩
    · refine ⟨_, rfl, x, .ty "bool", _, _, _, rfl, .ty "bool", hd.tyx, isi_B d, _, rfl, _, rfl, ?_⟩
      cases hd with
      | int i =>
        refine iteT ⟨_, rfl, _, rfl, _, _, rfl, rfl, _, rfl, ?_⟩
        simp only [wholeB] at q
        refine ite2 (fun h1 => ?_) (fun h1 => ?_)
        · rw [h1, Bool.true_and] at q
          exact ⟨_, rfl, _, _, rfl, rfl, q⟩
        · rw [Bool.eq_false_iff.mpr h1, Bool.false_and] at q
          exact q
      | bl b => exact iteF q
      | _ => exact absurd h (by simp [isI])
    · cases d <;> first | exact q | exact absurd rfl h
def tupN (n : Nat) : PyData → Bool
  | .tuple xs => decide (xs.length = n)
  | _ => false
def spLTup : Sp := fun vs H Q _ => ∃ p c v d, ∃ n : Nat, vs = [v, .int n] ∧ Dg p c H v d ∧ Q (.bl (tupN n d)) H
theorem ok_ltup {f : Addr} {fd : FuncData} (F : Fn K mg "_law_is_tuple" s__law_is_tuple ["_law_thing", "_law_many"] f fd) (B : Blt mg) : FnOk P w K mg base CX0 1 f fd ["_law_thing", "_law_many"] spLTup := by
  refine F.F.ok sc__law_is_tuple (fun vs H Q E h => ?_) (fun cdv A outer s H vs Q E hr h => ?_)
  · obtain ⟨p, c, x, d, n, rfl, _⟩ := h
    rfl
  · obtain ⟨p, c, x, d, n, rfl, hd, q⟩ := h
    refine ⟨_, (pss_one (ps_ret (pe_and (pe_callB call_isi (by rfl) B.n_isinstance (by decide +kernel) (pa_cons (pv 0) (pa_cons (pe_bltn (v := .ty "tuple") (by rfl) B.n_tuple (by decide +kernel) rfl) pa_nil))) (pe_one (pe_cmpR op_eq (pe_callB call_len_seq (by rfl) B.n_len PySem.boot_len (pa_cons (pv 0) pa_nil)) (pv 1) (nomark _)))))), ?_⟩
    refine ⟨x, rfl, x, .ty "tuple", _, _, _, rfl, .ty "tuple", hd.tyx, isi_T d, _, rfl, ?_⟩
    cases hd with
    | @tup a xs ds ha hA =>
      refine iteT ⟨_, rfl, a, xs, rfl, .inr (SqT.of ha.2.2), _, rfl, rfl, ?_⟩
      have e : decide (V.int (xs.length : Nat) = V.int (n : Nat)) = decide (ds.length = n) := by
        rw [hA.len, Bool.eq_iff_iff, decide_eq_true_eq, decide_eq_true_eq]
        constructor
        · intro h
          injection h with h
          omega
        · rintro rfl
          rfl
      rw [e]
      exact q
    | _ => exact iteF q
end
end Ag

end
/-! ## EqL -/
section
set_option linter.all false
set_option maxRecDepth 100000
set_option maxHeartbeats 4000000
namespace Ag
open PySem PySem.Spec PyProof.Rows L2
open SX (S S_len S_cat S_inj)
open SeqAt
/-! ### any data == a text; a list == [], a list != [] -/
section
variable {A : Around} {s : Shared}
theorem rc_dictS {z : Addr} {o : Obj} {es : Array DictEntry} {e1 : Nat} (b : Str) (k : Tok) (ho : s.heap.get? z = some o) (hc : o.cls = .type "dict") (hd : o.data = .dict es e1) (hu : A.units < cLine) : RcAt A s (.ref z) (.str b k) false := by
  intro pr w E Q y
  obtain ⟨cls, q, data, sl⟩ := o
  simp only at hc hd
  subst hc hd
  refine rc_eq_decline_or (k := false) ⟨_, ho, rfl⟩ (typeIs_str s b k) (by decide) F.sub_str_dict F.slot_dict_eq F.slot_str_eq_refl ?_ ?_ ?_ (.inr hu) y
  · exact fun _ hq => call_meets F.slot_dict_eq ⟨_, ho, rfl⟩ F.entry_dict_eq (F.args_dict_eq_2 _ _) (dctS z es e1 q sl b k) ⟨ho, hq⟩
  · exact fun _ hq => call_meets F.slot_str_eq_refl (typeIs_str s b k) F.entry_str_eq (F.args_str_eq_2 _ _) (strD b k z es e1 q sl) ⟨ho, hq⟩
  · exact fun _ hq => wpAny_of_eq (rfl : isSame (.ref z) (.str b k) = pure false) hq
end
section
variable {X : Cx}
/-- any data == a text -/
def eqDS (b : Str) : PyData → Bool
  | .str x => x == b
  | _ => false
def rEqS : R2 := fun x y H Q => ∃ p c d b, Dg p c H x d ∧ y = .str b ∧ Q (.bl (eqDS b d)) H
theorem op_eqSA (hu : X.A.units + 64 < cLine) : OpR X (compareOp .Eq) rEqS := by
  intro pins s σ H x y v u Q I rx ry h
  obtain ⟨p, c, d, b, hd, rfl, q⟩ := h
  obtain ⟨k, rfl⟩ := ry
  have hu0 : X.A.units < cLine := by omega
  cases hd with
  | non => cases rx; exact RcAt.none_str b k _ _ _ _ ⟨.bl _, H, I, rfl, q⟩
  | bl i => cases rx; exact RcAt.bool_str i b k _ _ _ _ ⟨.bl _, H, I, rfl, q⟩
  | int i => obtain ⟨t, rfl⟩ := rx; exact RcAt.int_str i t b k _ _ _ _ ⟨.bl _, H, I, rfl, q⟩
  | str z => obtain ⟨t, rfl⟩ := rx; exact RcAt.str_str z t b k _ _ _ _ ⟨.bl _, H, I, rfl, q⟩
  | lst e _ =>
    cases rx
    obtain ⟨its2, rv2, hL, _⟩ := I.list (SqL.of e.2.2)
    exact RcAt.list_str b k hL.isList hu0 _ _ _ _ ⟨.bl _, H, I, rfl, q⟩
  | tup e _ =>
    cases rx
    obtain ⟨its2, rv2, hL, _⟩ := I.tuple (SqT.of e.2.2)
    exact RcAt.tuple_str b k hL hu0 _ _ _ _ ⟨.bl _, H, I, rfl, q⟩
  | dic e _ =>
    cases rx
    obtain ⟨_, _, vs, _, o, es, ep, ho, hex, hdt, _⟩ := I.hok _ _ e.2.2
    exact rc_dictS b k ho hex.1 hdt hu0 _ _ _ _ ⟨.bl _, H, I, rfl, q⟩
/-- a list == [], a list != [] -/
def rEqL0 : R2 := fun x y H Q => ∃ a xs t, x = .ref a ∧ H a = some (.lst xs) ∧ y = .ref t ∧ H t = some (.lst []) ∧ Q (.bl (decide (xs = []))) H
def rNeL0 : R2 := fun x y H Q => ∃ a xs t, x = .ref a ∧ H a = some (.lst xs) ∧ y = .ref t ∧ H t = some (.lst []) ∧ Q (.bl (!decide (xs = []))) H
theorem op_eqL0 (hu : X.A.units + 64 < cLine) : OpR X (compareOp .Eq) rEqL0 := by
  intro pins s σ H x y v u Q I rx ry h
  obtain ⟨a, xs, t, rfl, ha, rfl, ht, q⟩ := h
  cases rx
  cases ry
  have hu0 : X.A.units < cLine := by omega
  obtain ⟨its, rv, hT, _⟩ := I.list (SqL.of ht)
  cases rv
  obtain ⟨its2, rv2, hT2, _⟩ := I.list (SqL.of ha)
  cases rv2 with
  | nil => exact RcAt.lists (e := fun _ => true) hT2.isList hT.isList rfl hu0 (fun j h1 _ => by simp at h1) _ _ _ _ ⟨.bl _, H, I, rfl, q⟩
  | cons h1 h2 => exact RcAt.lists_lengths hT2.isList hT.isList (by simp) hu0 _ _ _ _ ⟨.bl _, H, I, rfl, q⟩
theorem op_neL0 (hu : X.A.units + 64 < cLine) : OpR X (compareOp .NotEq) rNeL0 := by
  intro pins s σ H x y v u Q I rx ry h
  obtain ⟨a, xs, t, rfl, ha, rfl, ht, q⟩ := h
  cases rx
  cases ry
  have hu0 : X.A.units < cLine := by omega
  obtain ⟨its, rv, hT, _⟩ := I.list (SqL.of ht)
  cases rv
  obtain ⟨its2, rv2, hT2, _⟩ := I.list (SqL.of ha)
  cases rv2 with
  | nil => exact RcNeAt.lists (e := fun _ => true) hT2.isList hT.isList rfl hu0 (fun j h1 _ => by simp at h1) _ _ _ _ ⟨.bl _, H, I, rfl, q⟩
  | cons h1 h2 => exact RcNeAt.lists_lengths hT2.isList hT.isList (by simp) hu0 _ _ _ _ ⟨.bl _, H, I, rfl, q⟩
end
end Ag

end
/-! ## R11 -/
section
set_option linter.all false
set_option maxRecDepth 100000
set_option maxHeartbeats 4000000
namespace Ag
open PySem PySem.Spec PyProof.Rows L2
open SX (S S_len S_cat S_inj)
theorem azS : (Str.ofString "abcdefghijklmnopqrstuvwxyz").cps.toList = (List.range 26).map (· + 97) := by decide +kernel
theorem mem_az {c : Nat} : decide (c ∈ (Str.ofString "abcdefghijklmnopqrstuvwxyz").cps.toList) = azC c := by
  rw [azS, Bool.eq_iff_iff, decide_eq_true_eq]
  unfold azC
  simp
  constructor
  · rintro ⟨a, h, rfl⟩
    omega
  · intro h
    exact ⟨c - 97, by omega, by omega⟩
theorem map_const {α : Type} (l : List α) : (l.map fun _ => (1 : Int)).map V.int = l.map fun _ => V.int 1 := by rw [List.map_map]; rfl
section
variable {P : Program} {w : World} {K : PySem.W.Frag} {mg : Str → Option Value} {base : Heap}
def spLWord : Sp := fun vs H Q _ => ∃ p c v d q n b, vs = [v] ∧ Dg p c H v d ∧ Gd q d n b ∧ ∀ H', Same H H' → Q (.bl (wordB d)) H'
theorem ok_lword {f : Addr} {fd : FuncData} (F : Fn K mg "_law_is_word" s__law_is_word ["_law_thing"] f fd) (B : Blt mg) : FnOk P w K mg base CX0 1 f fd ["_law_thing"] spLWord := by
  refine F.F.ok sc__law_is_word (fun vs H Q E h => ?_) (fun cdv A outer s H vs Q E hr h => ?_)
  · obtain ⟨p, c, x, d, _, _, _, rfl, _⟩ := h
    rfl
  · obtain ⟨p, c, x, d, qq, n, b, rfl, hd, hg, q⟩ := h
    refine ⟨_, (pss_cons (ps_if (PW.pt (pw_or (pt_not (pt_val (pe_callB call_isi (by rfl) B.n_isinstance (by decide +kernel) (pa_cons (pv 0) (pa_cons (pe_bltn (v := .ty "str") (by rfl) B.n_str (by decide +kernel) rfl) pa_nil))))) (pw_or1 (pt_not (pt_chain op_le op_le pe_int (pe_callB call_len_str (by rfl) B.n_len PySem.boot_len (pa_cons (pv 0) pa_nil)) pe_int)))))
      (pss_one (ps_ret pe_bl))
      pss_nil)
      (pss_one (ps_ret (pe_cmpR (op_eqL0 hr.units) (pe_lc (own := [("_law_letter", 1)]) rfl sc__law_is_word.nd (pi_str (pv 0)) (blkOk_by (N := N__law_is_word) (sc := defScope s__law_is_word) (by decide +kernel)) (fun _ _ _ _ _ => (pg_name (i := 1) sc__law_is_word.nd rfl (Or.inl rfl))) (fun _ _ _ _ _ => (pts_one (pt_cmpR op_notIn_sign (pv 1) pe_str rfl))) (fun _ _ _ _ _ => (pv 1))) (pe_lst pa_nil) (nomark _))))), ?_⟩
    refine ⟨_, rfl, x, .ty "str", _, _, _, rfl, .ty "str", hd.tyx, isi_S d, _, rfl, ?_⟩
    cases hd with
    | str x =>
      obtain ⟨h1, h2⟩ := hg.strlen
      have hx : x = S x.cps.toList := rfl
      simp only [wordB] at q
      generalize x.cps.toList = l at h1 h2 hx q
      subst hx
      refine iteF ?_
      refine ⟨.str (S l), rfl, S l, rfl, sz (by rw [S_len]; omega), _, _, rfl, rfl, _, rfl, ?_⟩
      rw [S_len]
      unfold wordL at q
      have e1 : decide ((1 : Int) ≤ (l.length : Int)) = decide (1 ≤ l.length) := by
        rw [Bool.eq_iff_iff, decide_eq_true_eq, decide_eq_true_eq]
        omega
      have e2 : decide ((l.length : Int) ≤ 10) = decide (l.length ≤ 10) := by
        rw [Bool.eq_iff_iff, decide_eq_true_eq, decide_eq_true_eq]
        omega
      rw [e1]
      cases h3 : decide (1 ≤ l.length) with
      | false =>
        rw [h3, Bool.false_and, Bool.false_and] at q
        exact iteF ⟨_, rfl, iteT (q _ (Same.refl _))⟩
      | true =>
        rw [h3, Bool.true_and] at q
        refine iteT ⟨_, _, rfl, rfl, _, rfl, ?_⟩
        refine (show (if (!decide (((l.length : Nat) : Int) ≤ 10)) = true then _ else _) from ?_)
        rw [e2]
        cases h4 : decide (l.length ≤ 10) with
        | false =>
          rw [h4, Bool.false_and] at q
          exact iteT (q _ (Same.refl _))
        | true =>
          rw [h4, Bool.true_and] at q
          refine iteF ⟨_, rfl, S l, rfl, fun D hD => ?_⟩
          have hzs : (S l).cps.size = l.length := by simp
          refine lc_sel (walk_str (z := S l)) (fun i => !azC (l.getD i 0)) (fun i => .str (S [l.getD i 0])) (by rw [hzs]; omega) hD (fun _ _ => trivial) ?_ ?_
          · rintro i y H1 H2 k k0 hi s1 ⟨rfl, c', hc, rfl⟩ hk hk0
            have hc' : l[i]? = some c' := by simpa using hc
            rw [List.getD_eq_getElem?_getD, hc'] at hk hk0
            refine ⟨rfl, _, rfl, c', _, rfl, rfl, _, rfl, ?_⟩
            rw [mem_az]
            cases ha : azC c' with
            | false => exact iteT ⟨_, rfl, hk (by show (!azC c') = true; rw [ha]; rfl) _ (Same.refl _)⟩
            | true => exact iteF (hk0 (by show (!azC c') = false; rw [ha]; rfl) _ (Same.refl _))
          · intro H1 s1 h1
            rw [hzs] at h1
            refine ⟨Nat.zero_le _, fun t ht => ?_⟩
            refine ⟨D, _, t, rfl, same_new ht _ _ h1, rfl, upd_same, ?_⟩
            have e : decide ((((List.range l.length).filter fun i => !azC (l.getD i 0)).map fun i => V.str (S [l.getD i 0])) = []) = l.all azC := by
              rw [← none_at l azC 0, Bool.eq_iff_iff, decide_eq_true_eq, decide_eq_true_eq, List.map_eq_nil_iff]
            rw [e]
            exact q _ (s1.trans (same_new ht))
    | _ => exact iteT (iteT (q _ (Same.refl _)))
end
end Ag

end
/-! ## R12 -/
section
set_option linter.all false
set_option maxRecDepth 100000
set_option maxHeartbeats 4000000
namespace Ag
open PySem PySem.Spec PyProof.Rows L2
open SX (S S_len S_cat S_inj)
section
variable {P : Program} {w : World} {K : PySem.W.Frag} {mg : Str → Option Value} {base : Heap}
def spLPool : Sp := fun vs H Q _ => ∃ p c v d q n b, vs = [v] ∧ Dg p c H v d ∧ Gd q d n b ∧ ∀ H', Same H H' → Q (.bl (poolB d)) H'
theorem ok_lpool {f f1 f2 f3 : Addr} {fd fd1 fd2 fd3 : FuncData} (F : Fn K mg "_law_is_pool" s__law_is_pool ["_law_thing"] f fd) (B : Blt mg) (F__law_is_word : Fn K mg "_law_is_word" s__law_is_word ["_law_thing"] f1 fd1) (G__law_is_word : FnOk P w K mg base CX0 1 f1 fd1 ["_law_thing"] spLWord)
    (F__law_is_int : Fn K mg "_law_is_int" s__law_is_int ["_law_thing", "_law_low", "_law_high"] f2 fd2) (G__law_is_int : FnOk P w K mg base CX0 1 f2 fd2 ["_law_thing", "_law_low", "_law_high"] spLInt) (F__law_is_tuple : Fn K mg "_law_is_tuple" s__law_is_tuple ["_law_thing", "_law_many"] f3 fd3) (G__law_is_tuple : FnOk P w K mg base CX0 1 f3 fd3 ["_law_thing", "_law_many"] spLTup) : FnOk P w K mg base CX0 2 f fd ["_law_thing"] spLPool := by
  refine F.F.ok sc__law_is_pool (fun vs H Q E h => ?_) (fun cdv A outer s H vs Q E hr h => ?_)
  · obtain ⟨p, c, v, d, _, _, _, rfl, _⟩ := h
    rfl
  · obtain ⟨p, c, v, d, qq, n, b, rfl, hd, hg, q⟩ := h
    refine ⟨_, (pss_cons (ps_if (PW.pt (pw_or (pt_not (pt_val (pe_callB call_isi (by rfl) B.n_isinstance (by decide +kernel) (pa_cons (pv 0) (pa_cons (pe_bltn (v := .ty "tuple") (by rfl) B.n_tuple (by decide +kernel) rfl) pa_nil))))) (pw_or1 (pt_not (pt_chain op_le op_le pe_int (pe_callB call_len_seq (by rfl) B.n_len PySem.boot_len (pa_cons (pv 0) pa_nil)) pe_int)))))
      (pss_one (ps_ret pe_bl))
      pss_nil)
      (pss_cons (ps_for PassesOwn.never rfl (pi_tup (pv 0)) (pg_name (i := 1) sc__law_is_pool.nd rfl (Or.inl rfl))
      (pss_one (ps_if (PW.pt (pw_or (pt_not (pt_val (pe_call G__law_is_tuple (hr.mono (by decide)) (by rfl) F__law_is_tuple.g F__law_is_tuple.F.kp F__law_is_tuple.b .nil pass0 (pa_cons (pv 1) (pa_cons pe_int pa_nil))))) (pw_or (pt_not (pt_val (pe_call G__law_is_word (hr.mono (by decide)) (by rfl) F__law_is_word.g F__law_is_word.F.kp F__law_is_word.b .nil pass0 (pa_cons (pe_ix ix_tup (pv 1) pe_int (fun _ _ => rfl)) pa_nil)))) (pw_or1 (pt_not (pt_val (pe_call G__law_is_int (hr.mono (by decide)) (by rfl) F__law_is_int.g F__law_is_int.F.kp F__law_is_int.b .nil pass0 (pa_cons (pe_ix ix_tup (pv 1) pe_int (fun _ _ => rfl)) (pa_cons pe_int (pa_cons pe_int pa_nil))))))))))
        (pss_one (ps_ret pe_bl))
        pss_nil)))
      (pss_one (ps_ret (pe_cmpR op_eq (pe_callB cr_lenSetD (by rfl) B.n_len PySem.boot_len (pa_cons (pe_callTy (cr_setD rfl) (by rfl) B.n_set (by decide +kernel) (pa_cons (pe_lc (own := [("_law_label", 2), ("_law_weight", 3)]) rfl sc__law_is_pool.nd (pi_tup (pv 0)) (blkOk_by (N := N__law_is_pool) (sc := defScope s__law_is_pool) (by decide +kernel)) (fun _ _ _ _ _ => pg_two (i := 2) (j := 3) K rfl sc__law_is_pool.nd rfl rfl rfl rfl rfl) (fun _ _ _ _ _ => pts_nil) (fun _ _ _ _ _ => (pv 2))) pa_nil)) pa_nil)) (pe_callB call_len_seq (by rfl) B.n_len PySem.boot_len (pa_cons (pv 0) pa_nil)) (nomark _)))))), ?_⟩
    refine ⟨v, rfl, v, .ty "tuple", _, _, _, rfl, .ty "tuple", hd.tyx, isi_T d, _, rfl, ?_⟩
    cases hd with
    | tup a da =>
      rename_i t xs ds
      have hl := da.len
      obtain ⟨hg2, l60⟩ := hg.untup
      have q : ∀ H', Same H H' → Q (.bl (((decide (1 ≤ ds.length) && decide (ds.length ≤ 8)) && ds.all shareB) && decide ((ds.map labD).Nodup))) H' := q
      refine iteF ⟨_, rfl, t, _, rfl, .inr (SqT.of a.2.2), _, _, rfl, rfl, _, rfl, ?_⟩
      rw [hl]
      by_cases h1 : ¬ 1 ≤ ds.length
      · rw [decide_eq_false h1, Bool.false_and, Bool.false_and, Bool.false_and] at q
        rw [decide_eq_false (by omega : ¬ (1 : Int) ≤ (ds.length : Int))]
        exact iteF ⟨_, rfl, iteT (q _ (Same.refl _))⟩
      have h1 := Decidable.not_not.mp h1
      rw [decide_eq_true (by omega : (1 : Int) ≤ (ds.length : Int))]
      refine iteT ⟨_, _, rfl, rfl, _, rfl, ?_⟩
      by_cases h8 : ¬ ds.length ≤ 8
      · rw [decide_eq_true h1, decide_eq_false h8, Bool.and_false, Bool.false_and, Bool.false_and] at q
        refine (show (if (!decide (((ds.length : Nat) : Int) ≤ 8)) = true then _ else _) from ?_)
        rw [decide_eq_false (by omega : ¬ ((ds.length : Nat) : Int) ≤ 8)]
        exact iteT (q _ (Same.refl _))
      have h8 := Decidable.not_not.mp h8
      refine (show (if (!decide (((ds.length : Nat) : Int) ≤ 8)) = true then _ else _) from ?_)
      rw [decide_eq_true (by omega : ((ds.length : Nat) : Int) ≤ 8)]
      rw [decide_eq_true h1, decide_eq_true h8, Bool.true_and, Bool.true_and] at q
      refine iteF ⟨_, rfl, t, rfl, ⟨_, SqT.of a.2.2⟩, ?_⟩
      refine for_it (walk_tup (K := K) (a := t) (xs := xs)) (fun j σ H' => ∃ x1 x2 x3 : Option V, σ = [some (.ref t), x1, x2, x3] ∧ Same H H' ∧ (ds.take j).all shareB = true) ⟨_, _, _, rfl, Same.refl _, rfl⟩ (fun j σ H' _ z => ?_) ?_ ?_
      · obtain ⟨_, _, _, _, sm, _⟩ := z
        exact SqT.of (sm _ _ a.2.2)
      · rintro j y σ H3 H4 hj ⟨x1, x2, x3, rfl, s1, al⟩ ⟨rfl, hy⟩
        obtain ⟨d', hd', dd⟩ := da.at_ hy
        have gd := hg2.mem d' (List.mem_of_getElem? hd')
        have dd := dd.to (Kp.same s1)
        have bad : shareB d' = false → ∀ H', Same H H' → Q (.bl false) H' := by
          intro e H' s
          have : ds.all shareB = false := by
            rw [Bool.eq_false_iff]
            intro z
            rw [List.all_eq_true.mp z d' (List.mem_of_getElem? hd')] at e
            cases e
          rw [this, Bool.false_and] at q
          exact q _ s
        have good : shareB d' = true → (ds.take (j + 1)).all shareB = true := by
          intro e
          rw [List.take_add_one, hd', List.all_append, al]
          simp [e]
        refine ⟨_, rfl, p, c, y, d', 2, rfl, dd, _, rfl, ?_⟩
        by_cases h2 : ∃ e1 e2, d' = .tuple [e1, e2]
        · obtain ⟨e1, e2, rfl⟩ := h2
          refine (show if (!true) = true then _ else _ from iteF ?_)
          cases dd with
          | @tup t2 xs2 _ a2 da2 =>
            cases da2 with
            | @cons v1 vs1 _ _ d1 da2 =>
              cases da2 with
              | @cons v2 _ _ _ d2 da2 =>
                cases da2 with
                | nil =>
                  obtain ⟨gd2, _⟩ := gd.untup
                  obtain ⟨g1, gd2⟩ := gd2.hd
                  refine ⟨_, rfl, t2, _, _, _, rfl, rfl, SqT.of a2.2.2, atI_nat (j := 0) rfl, p, c, v1, e1, _, _, _, rfl, d1, g1, fun H5 s5 => ⟨_, rfl, ?_⟩⟩
                  have s15 := s1.trans s5
                  cases hw : wordB e1 with
                  | false => exact iteT (bad (by show (wordB e1 && _) = false; rw [hw]; rfl) _ s15)
                  | true =>
                    refine iteF ⟨_, rfl, t2, _, _, _, rfl, rfl, SqT.of (s5 _ _ a2.2.2), atI_nat (j := 1) rfl, p, c, v2, e2, _, _, rfl, d2.to (Kp.same s5), _, rfl, ?_⟩
                    cases hz : wholeB 1 100 e2 with
                    | false => exact iteT (bad (by show (wordB e1 && wholeB 1 100 e2) = false; rw [hz, Bool.and_false]) _ s15)
                    | true => exact iteF ⟨_, _, _, rfl, s15, good (by show (wordB e1 && wholeB 1 100 e2) = true; rw [hw, hz]; rfl)⟩
        · have hb : shareB d' = false := by
            cases d' with
            | tuple es =>
              match es, h2 with
              | [], _ => rfl
              | [_], _ => rfl
              | [a, b], h2 => exact absurd ⟨a, b, rfl⟩ h2
              | _ :: _ :: _ :: _, _ => rfl
            | _ => rfl
          have hf : tupN 2 d' = false := by
            cases d' with
            | tuple es =>
              match es, h2 with
              | [], _ => rfl
              | [_], _ => rfl
              | [a, b], h2 => exact absurd ⟨a, b, rfl⟩ h2
              | _ :: _ :: _ :: l, _ => simp [tupN]
            | _ => rfl
          rw [hf]
          exact iteT (bad hb _ s1)
      · rintro σ H1 ⟨x1, x2, x3, rfl, s1, hall⟩
        rw [hl, List.take_length] at hall
        rw [hall, Bool.true_and] at q
        refine ⟨_, rfl, t, rfl, ⟨_, SqT.of (s1 _ _ a.2.2)⟩, fun D2 hD2 => ?_⟩
        refine lc_sel (walk_tup (K := K) (a := t) (xs := xs)) (fun _ => true) (fun i => .str (labD ((ds[i]?).getD .none))) (by omega) hD2 (fun H' s => SqT.of (s _ _ (s1 _ _ a.2.2))) ?_ ?_
        · rintro j y H3 H4 k k0 hi s2 ⟨rfl, hy⟩ hk _
          obtain ⟨d', hd', dd⟩ := da.at_ hy
          have hk := hk rfl _ (Same.refl _)
          rw [hd'] at hk
          obtain ⟨t', x, w', rfl, ht', ex⟩ := share_of (dd.to (Kp.same (s1.trans s2))) (List.all_eq_true.mp hall d' (List.mem_of_getElem? hd'))
          have hk : k (V.str (labD d')) _ := hk
          rw [ex] at hk
          exact ⟨t', _, rfl, SqT.of ht', rfl, _, _, rfl, _, _, rfl, rfl, rfl, _, rfl, hk⟩
        · intro H3 s3 h3
          rw [filt_all, hl, labs_map] at h3
          have s13 := s1.trans s3
          refine ⟨D2, _, rfl, SqL.of h3, by rw [List.length_map]; omega, fun R hR => ⟨R, _, rfl, upd_same, by rw [List.length_map]; omega, ?_⟩⟩
          have s4 := s13.trans (same_new (o := SetDO P w R (ds.map labD)) hR)
          refine ⟨_, rfl, t, _, rfl, .inr (SqT.of (s4 _ _ a.2.2)), rfl, ?_⟩
          have full := dnT_full (ds.map labD) _ (Nat.le_refl _)
          rw [List.take_length] at full
          have eb : decide (V.int (dnT (ds.map labD) (ds.map labD).length : Nat) = V.int (xs.length : Nat)) = decide ((ds.map labD).Nodup) := by
            rw [Bool.eq_iff_iff, decide_eq_true_eq, decide_eq_true_eq, ← full, hl]
            rw [List.length_map]
            exact ⟨fun z => by have := V.int.inj z; omega, fun z => by rw [z]⟩
          exact (show Q (.bl (decide (V.int (dnT (ds.map labD) (ds.map labD).length : Nat) = V.int (xs.length : Nat)))) _ by rw [eb]; exact q _ s4)
    | _ => exact iteT (iteT (q _ (Same.refl _)))
end
end Ag

end
/-! ## R13 -/
section
set_option linter.all false
set_option maxRecDepth 100000
set_option maxHeartbeats 4000000
namespace Ag
open PySem PySem.Spec PyProof.Rows L2
open SX (S S_len S_cat S_inj)
theorem sel_nil {n : Nat} {t : Nat → Bool} {e : Nat → V} : decide (((List.range n).filter t).map e = []) = decide ((List.range n).filter t = []) := by
  rw [Bool.eq_iff_iff, decide_eq_true_eq, decide_eq_true_eq, List.map_eq_nil_iff]
section
variable {P : Program} {w : World} {K : PySem.W.Frag} {mg : Str → Option Value} {base : Heap}
def spLLot : Sp := fun vs H Q _ => ∃ p c v d q n b, ∃ m : Int, vs = [.int m, v] ∧ Dg p c H v d ∧ Gd q d n b ∧ ∀ H', Same H H' → Q (.bl (lotB (m - 1) d)) H'
theorem ok_llot {f f1 : Addr} {fd fd1 : FuncData} (F : Fn K mg "_law_is_lot" s__law_is_lot ["_law_many", "_law_thing"] f fd) (B : Blt mg) (F__law_is_int : Fn K mg "_law_is_int" s__law_is_int ["_law_thing", "_law_low", "_law_high"] f1 fd1) (G__law_is_int : FnOk P w K mg base CX0 1 f1 fd1 ["_law_thing", "_law_low", "_law_high"] spLInt) : FnOk P w K mg base CX0 2 f fd ["_law_many", "_law_thing"] spLLot := by
  refine F.F.ok sc__law_is_lot (fun vs H Q E h => ?_) (fun cdv A outer s H vs Q E hr h => ?_)
  · obtain ⟨p, c, v, d, _, _, _, m, rfl, _⟩ := h
    rfl
  · obtain ⟨p, c, x, d, qq, n, b, m, rfl, hd, hg, q⟩ := h
    refine ⟨_, (pss_cons (ps_if (PW.pt (pw_or (pt_not (pt_val (pe_callB call_isi (by rfl) B.n_isinstance (by decide +kernel) (pa_cons (pv 1) (pa_cons (pe_bltn (v := .ty "tuple") (by rfl) B.n_tuple (by decide +kernel) rfl) pa_nil))))) (pw_or1 (pt_cmpR (op_neL0 hr.units) (pe_lc (own := [("_law_at", 2)]) rfl sc__law_is_lot.nd (pi_tup (pv 1)) (blkOk_by (N := N__law_is_lot) (sc := defScope s__law_is_lot) (by decide +kernel)) (fun _ _ _ _ _ => (pg_name (i := 2) sc__law_is_lot.nd rfl (Or.inl rfl))) (fun _ _ _ _ _ => (pts_one (pt_not (pt_val (pe_call G__law_is_int (hr.mono (by decide)) (by rfl) F__law_is_int.g F__law_is_int.F.kp F__law_is_int.b .nil pass0 (pa_cons (pv 2) (pa_cons pe_int (pa_cons (pe_op op_sub (pv 0) pe_int) pa_nil)))))))) (fun _ _ _ _ _ => (pv 2))) (pe_lst pa_nil) (nomark _)))))
      (pss_one (ps_ret pe_bl))
      pss_nil)
      (pss_one (ps_ret (pe_cmpR (op_eqD hr.units) (pe_callTy call_list_of (by rfl) B.n_list (by decide +kernel) (pa_cons (pv 1) pa_nil)) (pe_callB (cr_sortedSet rfl) (by rfl) B.n_sorted (by decide +kernel) (pa_cons (pe_callTy (cr_setI rfl) (by rfl) B.n_set (by decide +kernel) (pa_cons (pv 1) pa_nil)) pa_nil)) (nomark _))))), ?_⟩
    refine ⟨_, rfl, x, .ty "tuple", _, _, _, rfl, .ty "tuple", hd.tyx, isi_T d, _, rfl, ?_⟩
    cases hd with
    | @tup a xs ds ha hA =>
      obtain ⟨hgA, hl⟩ := hg.untup
      have hxl : xs.length ≤ 60 := by rw [hA.len]; exact hl
      refine iteF ?_
      refine ⟨_, rfl, a, rfl, ⟨_, SqT.of ha.2.2⟩, fun D hD => ?_⟩
      refine lc_sel (walk_tup (K := K) (a := a) (xs := xs)) (fun i => !wholeB 0 (m - 1) (ds.getD i .none)) (fun i => xs.getD i .non) (by omega) hD (fun H' s => SqT.of (s _ _ ha.2.2)) ?_ ?_
      · rintro i y H1 H2 k k0 hi s1 ⟨rfl, hy⟩ hk hk0
        obtain ⟨d, hdi, hdg⟩ := hA.at_ hy
        have ey : xs.getD i .non = y := by rw [List.getD_eq_getElem?_getD, hy]; rfl
        rw [ey] at hk
        rw [List.getD_eq_getElem?_getD, hdi] at hk hk0
        refine ⟨rfl, _, rfl, _, rfl, _, _, rfl, rfl, p, c, y, d, 0, m - 1, rfl, hdg.to (.same s1), _, rfl, ?_⟩
        cases ht : wholeB 0 (m - 1) d with
        | false => exact iteT ⟨_, rfl, hk (by show (!wholeB 0 (m - 1) d) = true; rw [ht]; rfl) _ (Same.refl _)⟩
        | true => exact iteF (hk0 (by show (!wholeB 0 (m - 1) d) = false; rw [ht]; rfl) _ (Same.refl _))
      · intro H0 s0 h0
        rw [hA.len] at h0
        refine ⟨Nat.zero_le _, fun t0 ht0 => ?_⟩
        have s0' := same_new (o := .lst []) ht0
        refine ⟨D, _, t0, rfl, s0' _ _ h0, rfl, upd_same, _, rfl, ?_⟩
        have s1 := s0.trans s0'
        rw [sel_nil, none_at ds (wholeB 0 (m - 1)) .none]
        generalize upd H0 t0 (.lst []) = H1 at s1 ⊢
        have q : ∀ H', Same H H' → Q (.bl (ds.all (wholeB 0 (m - 1)) && ascI (ds.map asInt))) H' := q
        cases hall : ds.all (wholeB 0 (m - 1)) with
        | false =>
          rw [hall, Bool.false_and] at q
          exact iteT (q _ s1)
        | true =>
          rw [hall, Bool.true_and] at q
          refine iteF ?_
          have hxs := ints_of_D hA hall
          generalize ds.map asInt = ns at hxs q
          subst hxs
          rw [List.length_map] at hxl
          refine ⟨_, rfl, a, _, rfl, .inr (SqT.of (s1 _ _ ha.2.2)), fun l hl => ?_⟩
          have s2 := s1.trans (same_new (o := .lst (ns.map V.int)) hl)
          refine ⟨_, rfl, a, ns, rfl, .inr (SqT.of (s2 _ _ ha.2.2)), by omega, fun st L hst nd hm hll => ?_⟩
          have nls : l ≠ st := ne_of_none (H := upd H1 l (.lst (ns.map V.int))) upd_same hst
          refine ⟨st, _, _, rfl, upd_same, by omega, fun ns' r hpw hmem hlen hr => ?_⟩
          have nsr : st ≠ r := ne_of_none upd_same hr
          have nlr : l ≠ r := ne_of_none (by rw [upd_ne nls]; exact upd_same) hr
          refine ⟨.list (ns.map .int), .list (ns'.map .int), .lst (SqL.of (by rw [upd_ne nlr, upd_ne nls, upd_same])) (dpIntsG _), .lst (SqL.of upd_same) (dpIntsG _), shaped_ints _, shaped_ints _, ?_⟩
          have e2 : PyData.eqv (.list (ns.map .int)) (.list (ns'.map .int)) = ascI ns := by
            rw [PyData.eqv, eqv_ints, Bool.eq_iff_iff, decide_eq_true_eq, ascI_iff]
            constructor
            · rintro rfl
              exact hpw
            · intro h
              exact asc_uniq h hpw fun k => by rw [hmem k, decide_eq_true_eq]
          rw [e2]
          exact q _ ((s2.trans (same_new hst)).trans (same_new hr))
    | _ => exact iteT (iteT (q _ (Same.refl _)))
end
end Ag

end
/-! ## S1 -/
section
set_option linter.all false
set_option maxRecDepth 100000
set_option maxHeartbeats 4000000
namespace Ag
open PySem PySem.Spec PyProof.Rows L2
open SX (S S_len S_cat S_inj)
theorem pg_three {X : Cx} (K : PySem.W.Frag) {i j l : Nat} {x y z : Str} {px py pz pt : Pos} {k : Nat} (hc : X.calm = true) (hN : X.N.Nodup) (hi : X.N[i]? = some x) (hj : X.N[j]? = some y) (hl : X.N[l]? = some z) (hx : X.env.scope.names.lookup x = some .local) (hy : X.env.scope.names.lookup y = some .local) (hz : X.env.scope.names.lookup z = some .local) (hK : X.K = K) :
    PG X (.Tuple [.Name x px, .Name y py, .Name z pz] k pt) (gTup K 3 (gCons (gName i) (gCons (gName j) (gCons (gName l) gNil)))) := by
  subst hK
  exact pg_tup hc (pgs_cons (pg_name hN hi (.inl hx) (.inr hx)) (pgs_cons (pg_name hN hj (.inl hy) (.inr hy)) (pgs_cons (pg_name hN hl (.inl hz) (.inr hz)) pgs_nil)))
/-- the weights in a row -/
def wts (ps : List (List Nat × Nat)) : List Nat := (List.range ps.length).map (wF ps)
theorem wts_len (ps : List (List Nat × Nat)) : (wts ps).length = ps.length := by simp [wts]
theorem wts_at {ps : List (List Nat × Nat)} {j : Nat} (h : j < ps.length) : (wts ps)[j]? = some (wF ps j) := by
  unfold wts
  rw [List.getElem?_map, List.getElem?_range h]
  rfl
theorem wts_sum (ps : List (List Nat × Nat)) : ((wts ps).map fun k => ((k : Nat) : Int)).sum = ((tW ps : Nat) : Int) := by
  unfold wts
  rw [List.map_map]
  exact sum_range (wF ps) ps.length
theorem wts_eq {ps : List (List Nat × Nat)} : wts ps = ps.map Prod.snd := by
  unfold wts
  refine List.ext_getElem? fun i => ?_
  rw [List.getElem?_map, List.getElem?_map]
  by_cases h : i < ps.length
  · rw [List.getElem?_range h, List.getElem?_eq_getElem h]
    show some (wF ps i) = some _
    rw [wF_at (List.getElem?_eq_getElem h)]
  · rw [List.getElem?_eq_none (by simpa using h), List.getElem?_eq_none (by omega)]
    rfl
/-- the top of the fraction that tells when a turn is due -/
def topI (ps : List (List Nat × Nat)) (cs : List Nat) (m : Nat) : Int := (((kF cs m + 1) * tW ps + wF ps m - 1 : Nat) : Int)
theorem top_due {ps : List (List Nat × Nat)} {cs : List Nat} {m : Nat} (o : PlOk ps) (hm : m < ps.length) : topI ps cs m / ((wF ps m : Nat) : Int) = ((Fair.due ps.length (wF ps) (kF cs) m : Nat) : Int) := by
  unfold topI Fair.due tW
  rw [Int.natCast_ediv]
section
variable {P : Program} {w : World} {K : PySem.W.Frag} {mg : Str → Option Value} {base : Heap}
def spLNext : Sp := fun vs H Q _ => ∃ W C ps cs, vs = [.ref W, .ref C] ∧ PlOk ps ∧ H W = some (.lst (ctV (wts ps))) ∧ CtA H C cs ∧ cs.length = ps.length ∧ ∀ (i : Nat) H', Same H H' → Fair.Pick ps.length (wF ps) (kF cs) (cs.sum + 1) i → Q (.int (i : Int)) H'
theorem ok_lnext {f : Addr} {fd : FuncData} (F : Fn K mg "_law_next" s__law_next ["_law_weights", "_law_counts_here"] f fd) (B : Blt mg) : FnOk P w K mg base CX0 1 f fd ["_law_weights", "_law_counts_here"] spLNext := by
  refine F.F.ok sc__law_next (fun vs H Q E h => ?_) (fun cdv A outer s H vs Q E hr h => ?_)
  · obtain ⟨W, C, ps, cs, rfl, _⟩ := h
    rfl
  · obtain ⟨W, C, ps, cs, rfl, o, hW, hC, hl, q⟩ := h
    refine ⟨_, (pss_cons (ps_par3 (i := 2) (j := 3) (l := 4) (by rfl) sc__law_next.nd rfl rfl rfl (by decide) (by decide) (by decide) rfl rfl rfl (pa_cons (pe_callB (cr_sum rfl) (by rfl) B.n_sum (by decide +kernel) (pa_cons (pv 0) pa_nil)) (pa_cons (pe_op op_add (pe_callB (cr_sumA rfl) (by rfl) B.n_sum (by decide +kernel) (pa_cons (pv 1) pa_nil)) pe_int) (pa_cons (pe_lst pa_nil) pa_nil))) (by rfl))
      (pss_cons (ps_for PassesOwn.never rfl (pi_enum (by rfl) B.n_enumerate (pa_cons (pv 0) pa_nil)) (pg_tup rfl (pgs_cons (pg_name (i := 5) sc__law_next.nd rfl (Or.inl rfl)) (pgs_cons (pg_name (i := 6) sc__law_next.nd rfl (Or.inl rfl)) pgs_nil)))
      (pss_one (ps_if (pt_cmpR op_gt (pv 3) (pe_op op_fdiv (pe_op op_mul (pe_ix ix_seq (pv 1) (pv 5) (fun _ _ => rfl)) (pv 2)) (pv 6)) (nomark _))
        (pss_one (ps_expr (pe_bm PySem.F.plainAttrs_list PySem.F.slot_list_append PySem.F.type_list_append mt_append (pv 4) (pa_cons (pe_tup (pa_cons (pe_op op_sub (pe_op op_add (pe_op op_mul (pe_op op_add (pe_ix ix_seq (pv 1) (pv 5) (fun _ _ => rfl)) pe_int) (pv 2)) (pv 6)) pe_int) (pa_cons (pv 6) (pa_cons (pv 5) pa_nil)))) pa_nil))))
        pss_nil)))
      (pss_one (ps_ret (pe_ix ix_tup (pe_callB (cr_minP rfl (u10 hr)) (by rfl) B.n_min (by decide +kernel) (pa_cons (pe_lc (own := [("_law_top", 7), ("_law_weight", 6), ("_law_at", 5)]) rfl sc__law_next.nd (pi_list (pv 4)) (blkOk_by (N := N__law_next) (sc := defScope s__law_next) (by decide +kernel)) (fun _ _ _ _ _ => pg_three (i := 7) (j := 6) (l := 5) K rfl sc__law_next.nd rfl rfl rfl rfl rfl rfl rfl) (fun _ _ _ _ _ => pts_nil) (fun _ _ _ _ _ => (pe_tup (pa_cons (pe_op op_fdiv (pv 7) (pv 6)) (pa_cons (pv 5) pa_nil))))) pa_nil)) pe_int (fun _ _ => rfl)))))), ?_⟩
    have n8 := o.n8
    have n1 := o.n1
    have W8 := tW_le o
    have W1 := tW_pos o
    refine ⟨_, rfl, W, (wts ps).map (fun k => ((k : Nat) : Int)), rfl, SqL.of (hW.trans (by rw [ctV_int])), ?_⟩
    rw [wts_sum]
    refine ⟨_, rfl, hC.sum ⟨_, _, rfl, rfl, sz (Nat.zero_le _), fun D hD => ⟨_, _, _, rfl, ?_⟩⟩⟩
    have s1 := same_new (o := .lst []) hD
    have d1 : upd H D (.lst []) D = some (.lst []) := upd_same
    generalize upd H D (.lst []) = H1 at s1 d1 ⊢
    have put : ∀ (H' : Hp) (x : HO), Same H H' → Same H (upd H' D x) := fun H' x r b u e => by
      rw [upd_ne (ne_of_none e hD)]
      exact r b u e
    refine ⟨_, rfl, W, _, rfl, SqL.of (s1 _ _ hW), ?_⟩
    refine for_it (walk_enum (K := K) (a := W) (xs := ctV (wts ps))) (fun i σ H' => ∃ (ks : List (Addr × Nat)) (x5 x6 x7 : Option V), σ = [some (.ref W), some (.ref C), some (.int (tW ps : Nat)), some (.int ((cs.sum : Nat) + 1)), some (.ref D), x5, x6, x7] ∧ Same H H' ∧ H' D = some (.lst (ks.map fun z => V.ref z.1)) ∧ ks.length ≤ i ∧
        (∀ z ∈ ks, z.1 ≠ D ∧ z.2 < ps.length ∧ Fair.rdy ps.length (wF ps) (kF cs) z.2 (cs.sum + 1) ∧ H' z.1 = some (.tup [.int (topI ps cs z.2), .int ((wF ps z.2 : Nat) : Int), .int (z.2 : Nat)])) ∧ ∀ m, m < i → m < ps.length → Fair.rdy ps.length (wF ps) (kF cs) m (cs.sum + 1) → ∃ z ∈ ks, z.2 = m)
      ⟨[], _, _, _, rfl, s1, d1, Nat.le_refl _, (fun z hz => by cases hz), fun m hm => absurd hm (Nat.not_lt_zero _)⟩ (fun i σ H' _ z => ?_) ?_ ?_
    · obtain ⟨_, _, _, _, _, sm, _⟩ := z
      exact SqL.of (sm _ _ hW)
    · rintro i y σ H2 H3 hi ⟨ks, x5, x6, x7, rfl, s2, hks, kl, k1, k2⟩ ⟨T, x, z, rfl, hT, rfl, hx, hz⟩
      rw [ctV_len, wts_len] at hi
      obtain rfl := Option.some.inj hx
      have hz : (ctV (wts ps))[i]? = some z := hz
      rw [ctV_at (wts_at hi)] at hz
      obtain rfl := Option.some.inj hz
      have w1 := o.w1 i hi
      have w9 := o.w9 i hi
      have st := same_new (o := .tup [.int (i : Nat), .int ((wF ps i : Nat) : Int)]) hT
      have s3 := s2.trans st
      have hT3 : upd H2 T (.tup [.int (i : Nat), .int ((wF ps i : Nat) : Int)]) T = some (.tup [.int (i : Nat), .int ((wF ps i : Nat) : Int)]) := upd_same
      have hks3 := st _ _ hks
      have k13 : ∀ z ∈ ks, z.1 ≠ D ∧ z.2 < ps.length ∧ Fair.rdy ps.length (wF ps) (kF cs) z.2 (cs.sum + 1) ∧ upd H2 T (.tup [.int (i : Nat), .int ((wF ps i : Nat) : Int)]) z.1 = some (.tup [.int (topI ps cs z.2), .int ((wF ps z.2 : Nat) : Int), .int (z.2 : Nat)]) := fun z hz => by
        obtain ⟨a1, a2, a3, a4⟩ := k1 z hz
        exact ⟨a1, a2, a3, st _ _ a4⟩
      clear k1 hks
      generalize upd H2 T (.tup [.int (i : Nat), .int ((wF ps i : Nat) : Int)]) = H3 at s3 hT3 hks3 k13 ⊢
      obtain ⟨k, hk⟩ : ∃ k, cs[i]? = some k := ⟨cs[i]'(by omega), List.getElem?_eq_getElem (by omega)⟩
      have hrd : ((cs.sum : Nat) : Int) + 1 > (k : Int) * (tW ps : Int) / ((wF ps i : Nat) : Int) ↔ Fair.rdy ps.length (wF ps) (kF cs) i (cs.sum + 1) := by
        unfold Fair.rdy
        rw [kF_at hk, show Fair.tot ps.length (wF ps) = tW ps from rfl, ← Int.natCast_mul, ← Int.natCast_ediv]
        omega
      refine ⟨T, _, rfl, SqT.of hT3, rfl, _, _, rfl, _, _, rfl, rfl, ?_⟩
      refine ⟨_, rfl, _, rfl, _, rfl, (hC.to s3).ix hk ?_⟩
      refine ⟨_, rfl, _, _, rfl, rfl, .inr ⟨by omega, by omega⟩, _, rfl, _, _, rfl, rfl, (by first | exact ⟨by omega, by omega⟩ | (show (0 : Int) < _; omega)), _, _, rfl, rfl, _, rfl, ?_⟩
      refine ite2 (fun hr => ?_) (fun hr => ?_)
      · have hr := hrd.mp (of_decide_eq_true hr)
        refine ⟨_, rfl, .inl ⟨rfl, _, SqL.of hks3⟩, _, rfl, _, rfl, (hC.to s3).ix hk ?_⟩
        refine ⟨_, _, rfl, rfl, _, rfl, _, _, rfl, rfl, .inr ⟨by omega, by omega⟩, _, rfl, _, _, rfl, rfl, _, _, rfl, rfl, _, rfl, _, rfl, sz (Nat.le_of_ble_eq_true rfl), fun T3 hT3 => ?_⟩
        have etop : ((k : Int) + 1) * (tW ps : Int) + ((wF ps i : Nat) : Int) - 1 = topI ps cs i := by
          unfold topI
          rw [kF_at hk]
          have hm : (((k + 1) * tW ps : Nat) : Int) = ((k : Int) + 1) * (tW ps : Nat) := by
            rw [Int.natCast_mul]
            rfl
          rw [← hm]
          omega
        have nT3 : D ≠ T3 := ne_of_none hks3 hT3
        have st3 := same_new (o := .tup [.int (((k : Int) + 1) * (tW ps : Int) + ((wF ps i : Nat) : Int) - 1), .int ((wF ps i : Nat) : Int), .int (i : Nat)]) hT3
        refine ⟨D, _, _, rfl, rfl, st3 _ _ hks3, ?_, ks ++ [(T3, i)], _, _, _, rfl, put _ _ (s3.trans st3), by rw [upd_same, List.map_append]; rfl, by simp; omega, fun z hz => ?_, fun m hm hm2 hr2 => ?_⟩
        · rw [List.length_map, sizeLine_eq]
          omega
        · rcases List.mem_append.mp hz with hz | hz
          · obtain ⟨a1, a2, a3, a4⟩ := k13 z hz
            exact ⟨a1, a2, a3, by rw [upd_ne a1]; exact st3 _ _ a4⟩
          · rw [List.mem_singleton.mp hz]
            exact ⟨nT3.symm, hi, hr, by rw [upd_ne nT3.symm, upd_same]; exact congrArg (fun z => some (HO.tup [V.int z, V.int ((wF ps i : Nat) : Int), V.int (i : Nat)])) etop⟩
        · by_cases e : m = i
          · subst e
            exact ⟨_, List.mem_append_right _ (List.mem_singleton.mpr rfl), rfl⟩
          · obtain ⟨z, hz, ez⟩ := k2 m (by omega) hm2 hr2
            exact ⟨z, List.mem_append_left _ hz, ez⟩
      · have hr : ¬ Fair.rdy ps.length (wF ps) (kF cs) i (cs.sum + 1) := fun q => hr (decide_eq_true (hrd.mpr q))
        refine ⟨ks, _, _, _, rfl, s3, hks3, by omega, k13, fun m hm hm2 hr2 => ?_⟩
        by_cases e : m = i
        · subst e
          exact absurd hr2 hr
        · exact k2 m (by omega) hm2 hr2
    · rintro σ H2 ⟨ks, x5, x6, x7, rfl, s2, hks, kl, k1, k2⟩
      rw [ctV_len, wts_len] at k2 kl
      have hsum : Fair.sumN ps.length (kF cs) = cs.sum := by rw [← hl]; exact sum_kF cs
      obtain ⟨i0, pk⟩ := Fair.exists_pick o.n1 o.w1 hsum
      obtain ⟨z0, hz0, ez0⟩ := k2 i0 pk.lt pk.lt pk.rd
      refine ⟨_, rfl, D, rfl, ⟨_, SqL.of hks⟩, fun D2 hD2 => ?_⟩
      have put2 : ∀ (H' : Hp) (x : HO), Same H2 H' → Same H2 (upd H' D2 x) := fun H' x r b u e => by
        rw [upd_ne (ne_of_none e hD2)]
        exact r b u e
      refine lc_it (walk_list (K := K) (a := D) (xs := ks.map fun z => V.ref z.1)) (fun i H' => Same H2 H' ∧ ∃ ls : List (Addr × (Int × Int)), H' D2 = some (.lst (ls.map fun z => V.ref z.1)) ∧ ls.length = i ∧
        ∀ (j : Nat) y, ls[j]? = some y → ∃ z, ks[j]? = some z ∧ y.1 ≠ D2 ∧ H' y.1 = some (.tup [.int y.2.1, .int y.2.2]) ∧ y.2 = (((Fair.due ps.length (wF ps) (kF cs) z.2 : Nat) : Int), ((z.2 : Nat) : Int))) ⟨put2 _ _ (Same.refl _), [], upd_same, rfl, fun j y h => by simp at h⟩ (fun i H' _ z => SqL.of (z.1 _ _ hks)) ?_ ?_
      · rintro i y H3 H4 hi ⟨s3, ls, hls, hll, hl2⟩ ⟨rfl, hy⟩
        rw [List.length_map] at hi
        rw [List.getElem?_map] at hy
        cases e : ks[i]? with
        | none => rw [e] at hy; cases hy
        | some z =>
          rw [e] at hy
          obtain rfl := Option.some.inj hy
          obtain ⟨b1, b2, b3, b4⟩ := k1 z (List.mem_of_getElem? e)
          have w1 := o.w1 z.2 b2
          have w9 := o.w9 z.2 b2
          refine ⟨z.1, _, rfl, SqT.of (s3 _ _ b4), rfl, _, _, rfl, _, _, rfl, _, _, rfl, rfl, rfl, _, rfl, _, rfl, _, _, rfl, rfl, (by first | exact ⟨by omega, by omega⟩ | (show (0 : Int) < _; omega)), _, rfl, sz (Nat.le_of_ble_eq_true rfl), fun T hT => ?_⟩
          have st := same_new (o := .tup [.int (topI ps cs z.2 / ((wF ps z.2 : Nat) : Int)), .int ((z.2 : Nat) : Int)]) hT
          have nT : D2 ≠ T := ne_of_none hls hT
          refine ⟨_, st _ _ hls, by rw [List.length_map, sizeLine_eq]; omega, put2 _ _ (s3.trans st), ls ++ [(T, (((Fair.due ps.length (wF ps) (kF cs) z.2 : Nat) : Int), ((z.2 : Nat) : Int)))], by rw [upd_same, List.map_append]; rfl, by simp [hll], fun j y hy => ?_⟩
          rw [List.getElem?_append] at hy
          split at hy
          · obtain ⟨z', c1, c2, c3, c4⟩ := hl2 j y hy
            exact ⟨z', c1, c2, by rw [upd_ne c2]; exact st _ _ c3, c4⟩
          · have ej : j = i := by
              have := (List.getElem?_eq_some_iff.mp hy).1
              simp at this
              omega
            subst ej
            rw [hll, Nat.sub_self] at hy
            obtain rfl := Option.some.inj hy
            refine ⟨z, e, nT.symm, ?_, rfl⟩
            rw [upd_ne nT.symm, upd_same]
            exact congrArg (fun t => some (HO.tup [V.int t, V.int ((z.2 : Nat) : Int)])) (top_due o b2)
      · rintro H3 ⟨s3, ls, hls, hll, hl2⟩
        rw [List.length_map] at hll
        obtain ⟨j0, hj0⟩ := List.mem_iff_getElem?.mp hz0
        have lj0 := (List.getElem?_eq_some_iff.mp hj0).1
        have hy0 : ls[j0]? = some (ls[j0]'(by omega)) := List.getElem?_eq_getElem (by omega)
        obtain ⟨z0', d1', d2', d3', d4'⟩ := hl2 j0 _ hy0
        rw [hj0] at d1'
        obtain rfl := Option.some.inj d1'
        refine ⟨D2, ls, rfl, SqL.of hls, List.ne_nil_of_mem (List.mem_of_getElem? hy0), fun y hy => ?_, fun y hy hmin => ?_⟩
        · obtain ⟨j, hj⟩ := List.mem_iff_getElem?.mp hy
          obtain ⟨_, _, _, c3, _⟩ := hl2 j y hj
          exact c3
        · obtain ⟨j, hj⟩ := List.mem_iff_getElem?.mp hy
          obtain ⟨z, c1, c2, c3, c4⟩ := hl2 j y hj
          obtain ⟨b1, b2, b3, b4⟩ := k1 z (List.mem_of_getElem? c1)
          have em : z.2 = i0 := by
            have h1 := hmin _ (List.mem_of_getElem? hy0)
            rw [d4', c4, ez0] at h1
            have h2 := pk.least z.2 b2 b3
            unfold plt at h1
            simp only at h1
            omega
          refine ⟨y.1, _, _, _, rfl, rfl, SqT.of c3, atI_nat (j := 1) rfl, ?_⟩
          rw [c4, em]
          exact q i0 _ (s2.trans s3) pk
end
end Ag

end
/-! ## S2 -/
section
set_option linter.all false
set_option maxRecDepth 100000
set_option maxHeartbeats 4000000
namespace Ag
open PySem PySem.Spec PyProof.Rows L2
open SX (S S_len S_cat S_inj)
section
variable {P : Program} {w : World} {K : PySem.W.Frag} {mg : Str → Option Value} {base : Heap}
def spLCounts : Sp := fun vs H Q _ => ∃ W ps, ∃ t : Nat, vs = [.ref W, .int t] ∧ PlOk ps ∧ H W = some (.lst (ctV (wts ps))) ∧ ∀ T ks H', Same H H' → H T = none → H' T = some (.tup (ctV ks)) → ks.length = ps.length → Fair.Run ps.length (wF ps) (kF ks) t → Q (.ref T) H'
theorem ok_lcounts {f f1 : Addr} {fd fd1 : FuncData} (F : Fn K mg "_law_counts" s__law_counts ["_law_weights", "_law_t"] f fd) (B : Blt mg) (F__law_next : Fn K mg "_law_next" s__law_next ["_law_weights", "_law_counts_here"] f1 fd1) (G__law_next : FnOk P w K mg base CX0 1 f1 fd1 ["_law_weights", "_law_counts_here"] spLNext) :
    FnOk P w K mg base CX0 2 f fd ["_law_weights", "_law_t"] spLCounts := by
  refine F.F.ok sc__law_counts (fun vs H Q E h => ?_) (fun cdv A outer s H vs Q E hr h => ?_)
  · obtain ⟨W, ps, t, rfl, _⟩ := h
    rfl
  · obtain ⟨W, ps, t, rfl, o, hW, q⟩ := h
    refine ⟨_, (pss_cons (ps_asg (pe_tup (pa_cons (pe_op op_fdiv (pv 1) (pe_callB (cr_sum rfl) (by rfl) B.n_sum (by decide +kernel) (pa_cons (pv 0) pa_nil))) (pa_cons (pe_op op_rep (pe_lst (pa_cons pe_int pa_nil)) (pe_callB call_len_seq (by rfl) B.n_len PySem.boot_len (pa_cons (pv 0) pa_nil))) pa_nil))) (pg_tup rfl (pgs_cons (pg_name (i := 2) sc__law_counts.nd rfl (Or.inr rfl)) (pgs_cons (pg_name (i := 3) sc__law_counts.nd rfl (Or.inl rfl)) pgs_nil))))
      (pss_cons (ps_for PassesOwn.never rfl (pi_range1 (by rfl) B.n_range (pa_cons (pe_op op_mod (pe_callTy call_int1 (by rfl) B.n_int (by decide +kernel) (pa_cons (pv 1) pa_nil)) (pe_callB (cr_sum rfl) (by rfl) B.n_sum (by decide +kernel) (pa_cons (pv 0) pa_nil))) pa_nil)) (pg_name (i := 4) sc__law_counts.nd rfl (Or.inl rfl))
      (pss_cons (ps_set (i := 5) sc__law_counts.nd rfl (.inl rfl) (pe_call G__law_next (hr.mono (by decide)) (by rfl) F__law_next.g F__law_next.F.kp F__law_next.b .nil pass0 (pa_cons (pv 0) (pa_cons (pv 3) pa_nil))))
        (pss_one (ps_asg (pe_op op_add (pe_ix ix_list (pv 3) (pv 5) (fun _ _ => rfl)) pe_int) (pg_sub (pv 3) (pv 5) set_list)))))
      (pss_one (ps_ret (pe_callTy call_tuple_of (by rfl) B.n_tuple (by decide +kernel) (pa_cons (pe_lc (own := [("_law_many", 6), ("_law_weight", 7)]) rfl sc__law_counts.nd (pi_zip (by rfl) B.n_zip (pa_cons (pv 3) (pa_cons (pv 0) pa_nil))) (blkOk_by (N := N__law_counts) (sc := defScope s__law_counts) (by decide +kernel)) (fun _ _ _ _ _ => pg_two (i := 6) (j := 7) K rfl sc__law_counts.nd rfl rfl rfl rfl rfl) (fun _ _ _ _ _ => pts_nil) (fun _ _ _ _ _ => (pe_op op_add (pv 6) (pe_op op_mul (pv 2) (pv 7))))) pa_nil)))))), ?_⟩
    have n8 := o.n8
    have n1 := o.n1
    have W8 := tW_le o
    have W1 := tW_pos o
    have hWi : SqL K H W (((wts ps).map fun k => ((k : Nat) : Int)).map V.int) := SqL.of (hW.trans (by rw [ctV_int]))
    refine ⟨_, rfl, _, rfl, W, (wts ps).map (fun k => ((k : Nat) : Int)), rfl, hWi, ?_⟩
    rw [wts_sum]
    refine ⟨_, _, rfl, rfl, ⟨by omega, by omega⟩, sz (Nat.le_of_ble_eq_true rfl), fun Z hZ => ?_⟩
    have s1 := same_new (o := .lst [.int 0]) hZ
    have z1 : upd H Z (.lst [.int 0]) Z = some (.lst [.int 0]) := upd_same
    generalize upd H Z (.lst [.int 0]) = H1 at s1 z1 ⊢
    refine ⟨_, rfl, W, _, rfl, .inl (SqL.of (s1 _ _ hW)), Z, _, _, rfl, rfl, z1, by omega, by rw [ctV_len, wts_len]; omega, ?_, fun C hC => ?_⟩
    · rw [ctV_len, wts_len, sizeLine_eq]
      simp
      omega
    rw [ctV_len, wts_len, show ((ps.length : Nat) : Int).toNat = ps.length by simp, rep0]
    have nC : H C = none := s1.free hC
    have s2 := s1.trans (same_new (o := .lst (ctV (csOf ps.length []))) hC)
    have c2 : upd H1 C (.lst (ctV (csOf ps.length []))) C = some (.lst (ctV (csOf ps.length []))) := upd_same
    generalize upd H1 C (.lst (ctV (csOf ps.length []))) = H2 at s2 c2 ⊢
    have nWC : W ≠ C := ne_of_none hW nC
    refine ⟨sz (Nat.le_of_ble_eq_true rfl), fun T hT => ⟨T, _, rfl, SqT.of upd_same, rfl, _, _, rfl, _, _, rfl, rfl, ?_⟩⟩
    have st := same_new (o := .tup [.int ((t : Int) / (tW ps : Nat)), .ref C]) hT
    have s3 := s2.trans st
    have c3 := st _ _ c2
    generalize upd H2 T (.tup [.int ((t : Int) / (tW ps : Nat)), .ref C]) = H3 at s3 c3 ⊢
    have dm := Nat.div_add_mod t (tW ps)
    have lt := Nat.mod_lt t (show 0 < tW ps by omega)
    refine ⟨_, rfl, .inl ⟨_, rfl, _, rfl, W, (wts ps).map (fun k => ((k : Nat) : Int)), rfl, SqL.of ((s3 _ _ hW).trans (by rw [ctV_int])), ?_⟩⟩
    rw [wts_sum]
    refine ⟨_, _, rfl, rfl, (by show (0 : Int) < (tW ps : Int); omega), _, rfl, by omega, by omega, ?_⟩
    have etn : ((t : Int) % ((tW ps : Nat) : Int)).toNat = t % tW ps := by omega
    refine for_range (lo := 0) (n := ((t : Int) % ((tW ps : Nat) : Int)).toNat) (fun j σ H' => ∃ (l : List Nat) (x4 x5 x6 x7 : Option V), σ = [some (.ref W), some (.int t), some (.int ((t : Int) / (tW ps : Nat))), some (.ref C), x4, x5, x6, x7] ∧ Same H H' ∧ H' C = some (.lst (ctV (csOf ps.length l))) ∧ Tn ps.length (wF ps) l ∧ l.length = j) ⟨[], _, _, _, _, rfl, s3, c3, .nil, rfl⟩ ?_ ?_
    · rintro j σ H4 hj ⟨l, x4, x5, x6, x7, rfl, s4, c4, tn, rfl⟩
      refine ⟨_, rfl, _, rfl, W, C, ps, csOf ps.length l, rfl, o, s4 _ _ hW, .inl c4, csOf_len _ _, fun i H5 s5 pk => ?_⟩
      rw [kF_csOf tn, csOf_sum o.n1 o.w1 tn] at pk
      have hi := pk.lt
      have c5 := s5 _ _ c4
      refine ⟨_, rfl, _, rfl, C, _, _, _, rfl, rfl, SqL.of c5, atI_nat (ctV_at (csOf_at hi)), _, _, rfl, rfl, _, rfl, _, rfl, C, _, _, i, rfl, rfl, c5, ixN_nat (by rw [ctV_len, csOf_len]; exact hi), ?_⟩
      rw [csOf_snoc hi]
      refine ⟨l ++ [i], _, _, _, _, rfl, fun b u e => ?_, upd_same, tn.snoc pk, by simp⟩
      rw [upd_ne (ne_of_none e nC)]
      exact (s4.trans s5) _ _ e
    · rintro σ H4 ⟨l, x4, x5, x6, x7, rfl, s4, c4, tn, hlen⟩
      rw [etn] at hlen
      have w4 := s4 _ _ hW
      refine ⟨_, rfl, _, rfl, C, W, _, _, rfl, SqL.of c4, SqL.of w4, fun D hD => ?_⟩
      refine lc_sel (walk_zip (K := K) (a := C) (b := W) (xs := ctV (csOf ps.length l)) (ys := ctV (wts ps)) (n := ps.length) (by rw [ctV_len, ctV_len, csOf_len, wts_len]; omega)) (fun _ => true) (fun i => .int ((t / tW ps * wF ps i + l.count i : Nat) : Int)) (by omega) hD (fun H' s => ⟨SqL.of (s _ _ c4), SqL.of (s _ _ w4)⟩) ?_ ?_
      · rintro i y H7 H8 k k0 hi s7 ⟨T', x, z, rfl, hT', rfl, hx, hz⟩ hk _
        have hx : (ctV (csOf ps.length l))[i]? = some x := hx
        have hz : (ctV (wts ps))[i]? = some z := hz
        rw [ctV_at (csOf_at hi)] at hx
        rw [ctV_at (wts_at hi)] at hz
        obtain rfl := Option.some.inj hx
        obtain rfl := Option.some.inj hz
        have hk := hk rfl _ (same_new (o := .tup [.int ((l.count i : Nat) : Int), .int ((wF ps i : Nat) : Int)]) hT')
        have w1 := o.w1 i hi
        have w9 := o.w9 i hi
        have ev : ((t / tW ps * wF ps i + l.count i : Nat) : Int) = ((l.count i : Nat) : Int) + ((t / tW ps : Nat) : Int) * ((wF ps i : Nat) : Int) := by
          rw [Int.natCast_add, Int.natCast_mul, Int.add_comm]
        rw [ev] at hk
        exact ⟨T', _, rfl, SqT.of upd_same, rfl, _, _, rfl, _, _, rfl, rfl, rfl, _, rfl, _, rfl, _, rfl, _, _, rfl, rfl, .inr ⟨by omega, by omega⟩, _, _, rfl, rfl, hk⟩
      · intro H7 s7 h7
        have el : (List.range ps.length).map (fun i => V.int ((t / tW ps * wF ps i + l.count i : Nat) : Int)) = ctV (ksOf ps (t / tW ps) l) := by
          unfold ctV ksOf
          rw [List.map_map]
          rfl
        rw [filt_all, el] at h7
        have s57 := s4.trans s7
        refine ⟨D, _, rfl, .inl ⟨SqL.of h7, fun Z2 hZ2 => ?_⟩⟩
        have run := ksOf_run (r := t / tW ps) o tn
        have et : l.length + t / tW ps * tW ps = t := by rw [hlen, Nat.mul_comm]; omega
        rw [et] at run
        exact q Z2 _ _ (s57.trans (same_new hZ2)) (s57.free hZ2) upd_same (ksOf_len _ _ _) run
end
end Ag

end
/-! ## LcB -/
section
set_option linter.all false
set_option maxRecDepth 100000
namespace Ag
open PySem PySem.Spec PyProof.Rows L2
theorem map_at' {α : Type} (ds : List PyData) (g : PyData → α) : (List.range ds.length).map (fun i => g ((ds[i]?).getD .none)) = ds.map g := by
  refine List.ext_getElem? fun i => ?_
  rw [List.getElem?_map, List.getElem?_map]
  by_cases h : i < ds.length
  · rw [List.getElem?_range h, List.getElem?_eq_getElem h]
    show some (g ((ds[i]?).getD .none)) = some (g ds[i])
    rw [List.getElem?_eq_getElem h]
    rfl
  · rw [List.getElem?_eq_none (by simpa using h), List.getElem?_eq_none (by omega)]
    rfl
/-- [g(x) for x in t], t a tuple of data, g a test -/
theorem lc_bools {K : PySem.W.Frag} {p c a D : Addr} {H1 : Hp} {xs : List V} {ds : List PyData} {gt : TG} {te : TE} {vs : List Nat} {σ : L2.St} {Qd : Hp → Prop} (g : PyData → Bool) (da : DgA p c H1 xs ds) (hq : H1 a = some (.tup xs)) (hn : xs.length ≤ 16000000) (hD : H1 D = none)
    (hs : ∀ y d H (k : VK), d ∈ ds → Dg p c H y d → Same H1 H → (∀ H4, Same H H4 → k (.bl (g d)) H4) → gt y (wipe σ vs) H fun σ2 H2 => wipe σ2 vs = wipe σ vs ∧ te σ2 H2 k) (hd : ∀ H, Same H1 H → H D = some (.lst ((ds.map g).map V.bl)) → Qd H) :
    ∃ W : Nat → Nat → Hp → Prop, (∃ m, W 0 m (upd H1 D (.lst []))) ∧ ∀ i m H, W i m H →
      ((Itt K a).stop i H ∧ Qd H) ∨ ((Itt K a).go i H ∧ ∃ Nx : Hp → Prop, (∀ H', Nx H' → ∃ m', m' < m ∧ W (i + 1) m' H') ∧ ∀ x H', (Itt K a).yld i H x H' → gt x (wipe σ vs) H' fun σ2 H2 => wipe σ2 vs = wipe σ vs ∧ tYes σ2 H2 fun b H3 =>
        if b = true then te σ2 H3 fun y H4 => ∃ acc, H4 D = some (.lst acc) ∧ acc.length < sizeLine ∧ Nx (upd H4 D (.lst (acc ++ [y]))) else Nx H3) := by
  have hl := da.len
  refine lc_sel (walk_tup (K := K) (a := a) (xs := xs)) (tt := tYes) (fun _ => true) (fun i => .bl (g ((ds[i]?).getD .none))) hn hD (fun H' s => SqT.of (s _ _ hq)) ?_ ?_
  · rintro j y H2 H3 k k0 hi s1 ⟨rfl, hy⟩ hk _
    obtain ⟨d, hd', dd⟩ := da.at_ hy
    have hk := hk rfl
    rw [hd'] at hk
    exact hs y d _ k (List.mem_of_getElem? hd') (dd.to (Kp.same s1)) s1 hk
  · intro H2 s2 h2
    refine hd H2 s2 ?_
    rw [h2, show (List.range xs.length).filter (fun _ => true) = List.range xs.length from List.filter_eq_self.mpr fun _ _ => rfl, hl, List.map_map, show (V.bl ∘ g) = fun d => V.bl (g d) from rfl, ← map_at' ds (fun d => V.bl (g d))]
/-- [x for x in t if not g(x)], t a tuple of data -/
theorem lc_fails {K : PySem.W.Frag} {p c a D : Addr} {H1 : Hp} {xs : List V} {ds : List PyData} {gt : TG} {tt : TT} {te : TE} {vs : List Nat} {σ : L2.St} {Qd : Hp → Prop} (g : PyData → Bool) (da : DgA p c H1 xs ds) (hq : H1 a = some (.tup xs)) (hn : xs.length ≤ 16000000) (hD : H1 D = none)
    (hs : ∀ y d H (k : VK) (k0 : Hp → Prop), d ∈ ds → Dg p c H y d → Same H1 H → (g d = false → ∀ H4, Same H H4 → k y H4) → (g d = true → ∀ H4, Same H H4 → k0 H4) → gt y (wipe σ vs) H fun σ2 H2 => wipe σ2 vs = wipe σ vs ∧ tt σ2 H2 fun b H3 => if b = true then te σ2 H3 k else k0 H3)
    (hd : ∀ H L, Same H1 H → H D = some (.lst L) → decide (L = []) = ds.all g → Qd H) :
    ∃ W : Nat → Nat → Hp → Prop, (∃ m, W 0 m (upd H1 D (.lst []))) ∧ ∀ i m H, W i m H →
      ((Itt K a).stop i H ∧ Qd H) ∨ ((Itt K a).go i H ∧ ∃ Nx : Hp → Prop, (∀ H', Nx H' → ∃ m', m' < m ∧ W (i + 1) m' H') ∧ ∀ x H', (Itt K a).yld i H x H' → gt x (wipe σ vs) H' fun σ2 H2 => wipe σ2 vs = wipe σ vs ∧ tt σ2 H2 fun b H3 =>
        if b = true then te σ2 H3 fun y H4 => ∃ acc, H4 D = some (.lst acc) ∧ acc.length < sizeLine ∧ Nx (upd H4 D (.lst (acc ++ [y]))) else Nx H3) := by
  have hl := da.len
  refine lc_sel (walk_tup (K := K) (a := a) (xs := xs)) (fun i => !g ((ds[i]?).getD .none)) (fun i => (xs[i]?).getD .non) hn hD (fun H' s => SqT.of (s _ _ hq)) ?_ ?_
  · rintro j y H2 H3 k k0 hi s1 ⟨rfl, hy⟩ hk hk0
    obtain ⟨d, hd', dd⟩ := da.at_ hy
    rw [hd', hy] at hk
    rw [hd'] at hk0
    exact hs y d _ k k0 (List.mem_of_getElem? hd') (dd.to (Kp.same s1)) s1 (fun z => hk (by show (!g d) = true; rw [z]; rfl)) fun z => hk0 (by show (!g d) = false; rw [z]; rfl)
  · intro H2 s2 h2
    refine hd H2 _ s2 h2 ?_
    rw [Bool.eq_iff_iff, decide_eq_true_eq, List.map_eq_nil_iff, List.filter_eq_nil_iff, List.all_eq_true, hl]
    constructor
    · intro h d hd'
      obtain ⟨i, hi⟩ := List.mem_iff_getElem?.mp hd'
      have lt : i < ds.length := (List.getElem?_eq_some_iff.mp hi).1
      have := h i (List.mem_range.mpr lt)
      rw [hi] at this
      simpa using this
    · intro h i hi
      have lt := List.mem_range.mp hi
      rw [List.getElem?_eq_getElem lt]
      have := h _ (List.getElem_mem lt)
      simpa using this
end Ag

end
/-! ## S3 -/
section
set_option linter.all false
set_option maxRecDepth 100000
set_option maxHeartbeats 4000000
namespace Ag
open PySem PySem.Spec PyProof.Rows L2
open SX (S S_len S_cat S_inj)
/-- numbers within are at most 10 ** 39 -/
def LowD : PyData → Prop
  | .tuple ds => ∀ i : Int, PyData.int i ∈ ds → i ≤ 10 ^ 39
  | .int i => i ≤ 10 ^ 39
  | _ => True
theorem low_ct {cs : List Nat} (h : LowD (.tuple (ctD cs))) : (ctD cs).all (wholeB 0 (10 ^ 39)) = true := by
  rw [List.all_eq_true]
  intro d hd
  have hd' := hd
  unfold ctD at hd
  obtain ⟨n, _, rfl⟩ := List.mem_map.mp hd
  have := h _ hd'
  show (decide (0 ≤ ((n : Nat) : Int)) && decide (((n : Nat) : Int) ≤ 10 ^ 39)) = true
  rw [decide_eq_true (by omega), decide_eq_true this]
  rfl
theorem whole_nonneg {ds : List PyData} {hi : Int} (h : ds.all (wholeB 0 hi) = true) : ds.all nonnegB = true := by
  rw [List.all_eq_true] at h ⊢
  intro d hd
  have := h d hd
  cases d with
  | int i =>
    have : (decide (0 ≤ i) && decide (i ≤ hi)) = true := this
    rw [Bool.and_eq_true] at this
    exact this.1
  | _ => cases this
section
variable {P : Program} {w : World} {K : PySem.W.Frag} {mg : Str → Option Value} {base : Heap}
/-- [weight for label, weight in pool] -/
theorem lc_wts {a D : Addr} {H1 : Hp} {ts : List Addr} {ps : List (List Nat × Nat)} {σ : L2.St} {i j : Nat} {Qd : Hp → Prop} (p : Pool a ts ps H1) (hD : H1 D = none) (hs : ∀ x y, wipe ((((wipe σ [i, j]).set i (some x)).set j (some y))) [i, j] = wipe σ [i, j]) (hj : j < σ.length) (hd : ∀ H, Same H1 H → H D = some (.lst (ctV (wts ps))) → Qd H) :
    ∃ W : Nat → Nat → Hp → Prop, (∃ m, W 0 m (upd H1 D (.lst []))) ∧ ∀ n m H, W n m H →
      ((Itt K a).stop n H ∧ Qd H) ∨ ((Itt K a).go n H ∧ ∃ Nx : Hp → Prop, (∀ H', Nx H' → ∃ m', m' < m ∧ W (n + 1) m' H') ∧ ∀ x H', (Itt K a).yld n H x H' → gTup K 2 (gCons (gName i) (gCons (gName j) gNil)) x (wipe σ [i, j]) H' fun σ2 H2 => wipe σ2 [i, j] = wipe σ [i, j] ∧ tYes σ2 H2 fun b H3 =>
        if b = true then tVar j σ2 H3 fun y H4 => ∃ acc, H4 D = some (.lst acc) ∧ acc.length < sizeLine ∧ Nx (upd H4 D (.lst (acc ++ [y]))) else Nx H3) := by
  have n8 := p.ok.n8
  have ln := p.it.1
  refine lc_sel (walk_tup (K := K) (a := a) (xs := ts.map V.ref)) (tt := tYes) (fun _ => true) (fun m => .int ((wF ps m : Nat) : Int)) (by rw [List.length_map]; omega) hD (fun H' s => SqT.of (s _ _ p.at_)) ?_ ?_
  · rintro m y H2 H3 k k0 hi s1 ⟨rfl, hy⟩ hk _
    obtain ⟨t, e, rfl, _, he, ht⟩ := (p.it.to s1).get hy
    have hk := hk rfl _ (Same.refl _)
    rw [wF_at he] at hk
    refine ⟨t, _, rfl, SqT.of ht, rfl, _, _, rfl, _, _, rfl, rfl, hs _ _, _, ?_, hk⟩
    rw [List.getElem?_set_self (by rw [List.length_set, wipe_length]; exact hj)]
  · intro H2 s2 h2
    refine hd H2 s2 ?_
    rw [h2, filt_all]
    unfold ctV wts
    rw [List.length_map, ln, List.map_map]
    rfl
def spLAre : Sp := fun vs H Q _ => ∃ p c a ts ps v d, vs = [.ref a, v] ∧ Pool a ts ps H ∧ Dg p c H v d ∧ LowD d ∧ ∀ (b : Bool) H', Same H H' → (b = true ↔ Right ps d) → Q (.bl b) H'
theorem ok_lare {f f1 f2 f3 : Addr} {fd fd1 fd2 fd3 : FuncData} (F : Fn K mg "_law_are_counts" s__law_are_counts ["_law_pool", "_law_thing"] f fd) (B : Blt mg) (F__law_is_tuple : Fn K mg "_law_is_tuple" s__law_is_tuple ["_law_thing", "_law_many"] f1 fd1) (G__law_is_tuple : FnOk P w K mg base CX0 1 f1 fd1 ["_law_thing", "_law_many"] spLTup)
    (F__law_is_int : Fn K mg "_law_is_int" s__law_is_int ["_law_thing", "_law_low", "_law_high"] f2 fd2) (G__law_is_int : FnOk P w K mg base CX0 1 f2 fd2 ["_law_thing", "_law_low", "_law_high"] spLInt) (F__law_counts : Fn K mg "_law_counts" s__law_counts ["_law_weights", "_law_t"] f3 fd3) (G__law_counts : FnOk P w K mg base CX0 2 f3 fd3 ["_law_weights", "_law_t"] spLCounts) :
    FnOk P w K mg base CX0 3 f fd ["_law_pool", "_law_thing"] spLAre := by
  refine F.F.ok sc__law_are_counts (fun vs H Q E h => ?_) (fun cdv A outer s H vs Q E hr h => ?_)
  · obtain ⟨p, c, a, ts, ps, v, d, rfl, _⟩ := h
    rfl
  · obtain ⟨p, c, a, ts, ps, v, d, rfl, po, hd, low, q⟩ := h
    refine ⟨_, (pss_cons (ps_if (PW.pt (pw_or (pt_not (pt_val (pe_call G__law_is_tuple (hr.mono (by decide)) (by rfl) F__law_is_tuple.g F__law_is_tuple.F.kp F__law_is_tuple.b .nil pass0 (pa_cons (pv 1) (pa_cons (pe_callB call_len_seq (by rfl) B.n_len PySem.boot_len (pa_cons (pv 0) pa_nil)) pa_nil))))) (pw_or1 (pt_cmpR (op_neL0 hr.units) (pe_lc (own := [("_law_many", 2)]) rfl sc__law_are_counts.nd (pi_tup (pv 1)) (blkOk_by (N := N__law_are_counts) (sc := defScope s__law_are_counts) (by decide +kernel)) (fun _ _ _ _ _ => (pg_name (i := 2) sc__law_are_counts.nd rfl (Or.inl rfl))) (fun _ _ _ _ _ => (pts_one (pt_not (pt_val (pe_call G__law_is_int (hr.mono (by decide)) (by rfl) F__law_is_int.g F__law_is_int.F.kp F__law_is_int.b .nil pass0 (pa_cons (pv 2) (pa_cons pe_int (pa_cons (pe_op op_pow pe_int pe_int) pa_nil)))))))) (fun _ _ _ _ _ => (pv 2))) (pe_lst pa_nil) (nomark _)))))
      (pss_one (ps_ret pe_bl))
      pss_nil)
      (pss_one (ps_ret (pe_cmpR (op_eqD hr.units) (pe_call G__law_counts (hr.mono (by decide)) (by rfl) F__law_counts.g F__law_counts.F.kp F__law_counts.b .nil pass0 (pa_cons (pe_lc (own := [("_law_label", 4), ("_law_weight", 3)]) rfl sc__law_are_counts.nd (pi_tup (pv 0)) (blkOk_by (N := N__law_are_counts) (sc := defScope s__law_are_counts) (by decide +kernel)) (fun _ _ _ _ _ => pg_two (i := 4) (j := 3) K rfl sc__law_are_counts.nd rfl rfl rfl rfl rfl) (fun _ _ _ _ _ => pts_nil) (fun _ _ _ _ _ => (pv 3))) (pa_cons (pe_callB (cr_sumT rfl) (by rfl) B.n_sum (by decide +kernel) (pa_cons (pv 1) pa_nil)) pa_nil))) (pv 1) (nomark _))))), ?_⟩
    have ln := po.it.1
    refine ⟨_, rfl, _, rfl, a, _, rfl, .inr (SqT.of po.at_), p, c, v, d, ps.length, ?_, hd, _, rfl, ?_⟩
    · rw [List.length_map, ln]; rfl
    have no : ∀ (H' : Hp), Same H H' → ¬ Right ps d → Q (.bl false) H' := fun H' s' h => q false H' s' ⟨fun z => (by cases z), fun z => absurd z h⟩
    by_cases h4 : tupN ps.length d = true
    · cases hd with
      | @tup t xs ds at_ da =>
        have hl : ds.length = ps.length := of_decide_eq_true h4
        rw [h4]
        refine iteF ⟨_, rfl, t, rfl, ⟨_, SqT.of at_.2.2⟩, fun D hD => ?_⟩
        have n8 := po.ok.n8
        refine lc_fails (K := K) (wholeB 0 (10 ^ 39)) da at_.2.2 (by rw [da.len, hl]; omega) hD (fun y d H2 k k0 _ dd s1 hk hk0 => ⟨rfl, _, rfl, _, _, rfl, rfl, ⟨by decide, by decide, by decide⟩, p, c, y, d, 0, _, rfl, dd, _, rfl, ?_⟩) fun H2 L s2 h2 eL => ?_
        · have e : (10 : Int) ^ (39 : Int).toNat = 10 ^ 39 := rfl
          rw [e]
          cases ht : wholeB 0 (10 ^ 39) d with
          | false => exact iteT ⟨_, rfl, hk ht _ (Same.refl _)⟩
          | true => exact iteF (hk0 ht _ (Same.refl _))
        refine ⟨Nat.zero_le _, fun t0 ht0 => ?_⟩
        have s3 := same_new (o := .lst []) ht0
        refine ⟨D, _, t0, rfl, s3 _ _ h2, rfl, upd_same, _, rfl, ?_⟩
        rw [eL]
        have s23 := s2.trans s3
        generalize upd H2 t0 (.lst []) = H3 at s23 ⊢
        cases hall : ds.all (wholeB 0 (10 ^ 39)) with
        | false =>
          refine iteT (no _ s23 fun ⟨cs, e, _⟩ => ?_)
          injection e with e
          subst e
          rw [low_ct low] at hall
          cases hall
        | true =>
        obtain ⟨cs, rfl, rfl⟩ := nats_of_D da (whole_nonneg hall)
        have hcs : cs.length = ps.length := by
          unfold ctD at hl
          rw [List.length_map] at hl
          exact hl
        refine iteF ⟨_, rfl, a, rfl, ⟨_, SqT.of (s23 _ _ po.at_)⟩, fun D2 hD2 => ?_⟩
        refine lc_wts (po.to s23) hD2 (fun _ _ => rfl) (Nat.le_of_ble_eq_true rfl) fun H4 s4 h4' => ?_
        have s34 := s23.trans s4
        refine ⟨_, rfl, t, cs.map (fun k => ((k : Nat) : Int)), rfl, SqT.of ((s34 _ _ at_.2.2).trans (by rw [ctV_int])), ?_⟩
        rw [sum_int]
        refine ⟨D2, ps, cs.sum, rfl, po.ok, h4', fun T ks H5 s5 _ hT hkl hkr => ?_⟩
        have s45 := s34.trans s5
        refine ⟨_, rfl, .tuple (ctD ks), .tuple (ctD cs), .tup (SqT.of hT) (dp_ct ks), .tup (SqT.of (s45 _ _ at_.2.2)) (dp_ct cs), shaped_ct ks, shaped_ct cs, ?_⟩
        have ev : PyData.eqv (.tuple (ctD ks)) (.tuple (ctD cs)) = decide (ks = cs) := by
          simp only [PyData.eqv]
          exact eqv_ct ks cs
        rw [ev]
        refine q _ _ s45 ⟨fun z => ?_, fun ⟨cs', e, _, run⟩ => decide_eq_true ?_⟩
        · have z := of_decide_eq_true z
          subst z
          exact ⟨ks, rfl, hcs, hkr⟩
        · have ec : cs = cs' := by
            have := PyData.tuple.inj e
            have h2 := eqv_ct cs cs'
            rw [this] at h2
            have h3 := eqv_ct cs' cs'
            rw [h3, decide_eq_true rfl] at h2
            exact of_decide_eq_true h2.symm
          subst ec
          exact kF_ext (hkl.trans hcs.symm) (hkr.uniq run)
      | _ => cases h4
    · have n0 : ¬ Right ps d := fun ⟨cs, e, hl, _⟩ => by
        subst e
        refine h4 (decide_eq_true ?_)
        unfold ctD
        rw [List.length_map]
        exact hl
      rw [Bool.eq_false_iff.mpr h4]
      exact iteT (iteT (no _ (Same.refl _) n0))
end
end Ag

end
/-! ## S4 -/
section
set_option linter.all false
set_option maxRecDepth 100000
set_option maxHeartbeats 1000000
namespace Ag
open PySem PySem.Spec PyProof.Rows L2
open SX (S S_len S_cat S_inj)
/-! ### what a call is told as -/
def ret (d : PyData) : PyData := .tuple [.str (Str.ofString "returned"), d]
def bad3 (s : String) (d : PyData) : PyData := .tuple [.str (Str.ofString s), .str (Str.ofString "of the gate"), d]
def NextD (ps : List (List Nat × Nat)) (d D : PyData) : Prop := (¬ Right ps d ∧ D = bad3 "BadCounts" d) ∨ ∃ (cs : List Nat) (i : Nat), d = .tuple (ctD cs) ∧ Right ps d ∧ Fair.Pick ps.length (wF ps) (kF cs) (cs.sum + 1) i ∧ D = ret (.int (i : Int))
def TurnsD (ps : List (List Nat × Nat)) (d D : PyData) : Prop := (wholeB 0 2000 d = false ∧ D = bad3 "BadNumber" d) ∨ ∃ (k : Nat) (l : List Nat), d = .int (k : Int) ∧ k ≤ 2000 ∧ Tn ps.length (wF ps) l ∧ l.length = k ∧ D = ret (.tuple (ctD l))
def AfterD (ps : List (List Nat × Nat)) (d D : PyData) : Prop := ((∀ k : Nat, d ≠ .int (k : Int)) ∧ D = bad3 "BadNumber" d) ∨ ∃ (k : Nat) (ks : List Nat), d = .int (k : Int) ∧ ks.length = ps.length ∧ Fair.Run ps.length (wF ps) (kF ks) k ∧ D = ret (.tuple (ctD ks))
def lotOk (ps : List (List Nat × Nat)) (d : PyData) : Bool := lotB ((ps.length : Int) - 1) d && !isT0 d
def KeyD (ps : List (List Nat × Nat)) (d e D : PyData) : Prop := (lotOk ps d = false ∧ D = bad3 "BadLot" d) ∨ (lotOk ps d = true ∧ ((wordB e = false ∧ D = bad3 "BadWord" e) ∨ ∃ (ns k : List Nat) (i : Nat), d = .tuple (ctD ns) ∧ e = .str (S k) ∧ wordL k = true ∧ Sc.Bst (fS ps k) ns i ∧ i ∈ ns ∧ Lot ps.length ns ∧ D = ret (.int (i : Int))))
def BusyD (ps : List (List Nat × Nat)) (d e D : PyData) : Prop := (lotOk ps d = false ∧ D = bad3 "BadLot" d) ∨ (lotOk ps d = true ∧ ((loadsB ps.length e = false ∧ D = bad3 "BadCounts" e) ∨ ∃ ns bs : List Nat, d = .tuple (ctD ns) ∧ ns ≠ [] ∧ Lot ps.length ns ∧ e = .tuple (ctD bs) ∧ bs.length = ps.length ∧ D = ret (.int ((Sc.lbF (wF ps) (kF bs) ns : Nat) : Int))))
def ScoreD (d e D : PyData) : Prop := (wordB d = false ∧ D = bad3 "BadWord" d) ∨ (wordB d = true ∧ wordB e = false ∧ D = bad3 "BadWord" e) ∨ ∃ k l, d = .str (S k) ∧ e = .str (S l) ∧ wordL k = true ∧ wordL l = true ∧ D = ret (.int ((Sc.scL (keyL k l) : Nat) : Int))
def wayS (n : Nat) : Str := match n with
  | 0 => Str.ofString "next"
  | 1 => Str.ofString "busy"
  | 2 => Str.ofString "key"
  | 3 => Str.ofString "turns"
  | 4 => Str.ofString "pool"
  | 5 => Str.ofString "after"
  | _ => Str.ofString "score"
/-- of a right pool and what stands behind it -/
def RestD (n : Nat) (ps : List (List Nat × Nat)) (ds : List PyData) (D : PyData) : Prop := match n, ds with
  | 0, [d] => NextD ps d D
  | 1, [d, e] => BusyD ps d e D
  | 2, [d, e] => KeyD ps d e D
  | 3, [d] => TurnsD ps d D
  | 5, [d] => AfterD ps d D
  | _, _ => False
def DueD (n : Nat) (ds : List PyData) (D : PyData) : Prop := match n, ds with
  | 4, [d] => D = ret (.bool (poolB d))
  | 6, [d, e] => ScoreD d e D
  | _, d :: r => (poolB d = false ∧ D = bad3 "BadPool" d) ∨ ∃ ps, d = poolD ps ∧ poolB d = true ∧ RestD n ps r D
  | _, [] => False
theorem ctD_inj {a b : List Nat} (h : ctD a = ctD b) : a = b := by
  have h2 := eqv_ct a b
  rw [h] at h2
  have h3 := eqv_ct b b
  rw [h3, decide_eq_true rfl] at h2
  exact of_decide_eq_true h2.symm
section
variable {ps : List (List Nat × Nat)} {d e D D' : PyData}
theorem NextD.uniq (h : NextD ps d D) (h' : NextD ps d D') : D = D' := by
  rcases h with ⟨a, rfl⟩ | ⟨cs, i, e1, a, p1, rfl⟩ <;> rcases h' with ⟨b, rfl⟩ | ⟨cs', i', e2, b, p2, rfl⟩
  · rfl
  · exact absurd b a
  · exact absurd a b
  · have ec := ctD_inj (PyData.tuple.inj (e1.symm.trans e2))
    subst ec
    rw [Fair.Pick.uniq _ _ p1 p2]
theorem TurnsD.uniq (h : TurnsD ps d D) (h' : TurnsD ps d D') : D = D' := by
  rcases h with ⟨a, rfl⟩ | ⟨k, l, e1, k1, t1, l1, rfl⟩ <;> rcases h' with ⟨b, rfl⟩ | ⟨k', l', e2, k2, t2, l2, rfl⟩
  · rfl
  · subst e2
    have a : (decide (0 ≤ (k' : Int)) && decide ((k' : Int) ≤ 2000)) = false := a
    rw [decide_eq_true (by omega), decide_eq_true (by omega)] at a
    cases a
  · subst e1
    have b : (decide (0 ≤ (k : Int)) && decide ((k : Int) ≤ 2000)) = false := b
    rw [decide_eq_true (by omega), decide_eq_true (by omega)] at b
    cases b
  · have ek := PyData.int.inj (e1.symm.trans e2)
    rw [t1.uniq t2 (by omega)]
theorem AfterD.uniq (o : PlOk ps) (h : AfterD ps d D) (h' : AfterD ps d D') : D = D' := by
  rcases h with ⟨a, rfl⟩ | ⟨k, l, e1, k1, t1, rfl⟩ <;> rcases h' with ⟨b, rfl⟩ | ⟨k', l', e2, k2, t2, rfl⟩
  · rfl
  · exact absurd e2 (a k')
  · exact absurd e1 (b k)
  · have ek := PyData.int.inj (e1.symm.trans e2)
    have ek : k = k' := by omega
    subst ek
    rw [kF_ext (k1.trans k2.symm) (t1.uniq t2)]
theorem KeyD.uniq (h : KeyD ps d e D) (h' : KeyD ps d e D') : D = D' := by
  rcases h with ⟨a, rfl⟩ | ⟨a, h⟩ <;> rcases h' with ⟨b, rfl⟩ | ⟨b, h'⟩
  · rfl
  · rw [a] at b; cases b
  · rw [a] at b; cases b
  rcases h with ⟨a1, rfl⟩ | ⟨ns, k, i, e1, f1, w1, b1, _, _, rfl⟩ <;> rcases h' with ⟨a2, rfl⟩ | ⟨ns', k', i', e2, f2, w2, b2, _, _, rfl⟩
  · rfl
  · subst f2
    rw [show wordB (.str (S k')) = wordL k' from rfl, w2] at a1
    cases a1
  · subst f1
    rw [show wordB (.str (S k)) = wordL k from rfl, w1] at a2
    cases a2
  · have ec := ctD_inj (PyData.tuple.inj (e1.symm.trans e2))
    have ek := S_inj (PyData.str.inj (f1.symm.trans f2))
    subst ec ek
    rw [b1.uniq b2]
theorem BusyD.uniq (h : BusyD ps d e D) (h' : BusyD ps d e D') : D = D' := by
  rcases h with ⟨a, rfl⟩ | ⟨a, h⟩ <;> rcases h' with ⟨b, rfl⟩ | ⟨b, h'⟩
  · rfl
  · rw [a] at b; cases b
  · rw [a] at b; cases b
  rcases h with ⟨a1, rfl⟩ | ⟨ns, bs, e1, _, _, f1, l1, rfl⟩ <;> rcases h' with ⟨a2, rfl⟩ | ⟨ns', bs', e2, _, _, f2, l2, rfl⟩
  · rfl
  · subst f2
    rw [← l2, loads_ct] at a1
    cases a1
  · subst f1
    rw [← l1, loads_ct] at a2
    cases a2
  · have ec := ctD_inj (PyData.tuple.inj (e1.symm.trans e2))
    have ek := ctD_inj (PyData.tuple.inj (f1.symm.trans f2))
    subst ec ek
    rfl
theorem ScoreD.uniq (h : ScoreD d e D) (h' : ScoreD d e D') : D = D' := by
  have wk : ∀ {x : PyData} {k : List Nat}, x = .str (S k) → wordL k = true → wordB x = false → False := fun hx hk hw => by
    subst hx
    rw [show wordB (.str (S _)) = wordL _ from rfl, hk] at hw
    cases hw
  rcases h with ⟨a, rfl⟩ | ⟨a, b, rfl⟩ | ⟨k, l, e1, f1, w1, v1, rfl⟩ <;> rcases h' with ⟨a', rfl⟩ | ⟨a', b', rfl⟩ | ⟨k', l', e2, f2, w2, v2, rfl⟩
  · rfl
  · rw [a] at a'; cases a'
  · exact (wk e2 w2 a).elim
  · rw [a] at a'; cases a'
  · rfl
  · exact (wk f2 v2 b).elim
  · exact (wk e1 w1 a').elim
  · exact (wk f1 v1 b').elim
  · have ek := S_inj (PyData.str.inj (e1.symm.trans e2))
    have el := S_inj (PyData.str.inj (f1.symm.trans f2))
    subst ek el
    rfl
end
theorem RestD.uniq {n : Nat} {ps : List (List Nat × Nat)} (o : PlOk ps) {ds : List PyData} {D D' : PyData} (h : RestD n ps ds D) (h' : RestD n ps ds D') : D = D' := by
  unfold RestD at h
  split at h
  · exact NextD.uniq h h'
  · exact BusyD.uniq h h'
  · exact KeyD.uniq h h'
  · exact TurnsD.uniq h h'
  · exact AfterD.uniq o h h'
  · exact h.elim
end Ag

end
/-! ## S5 -/
section
set_option linter.all false
set_option maxRecDepth 100000
set_option maxHeartbeats 1000000
namespace Ag
open PySem PySem.Spec PyProof.Rows L2
open SX (S S_len S_cat S_inj)
/-! ### all of it can be shown -/
def OkD (d : PyData) : Prop := (∃ q, Gd q d 8 6000) ∧ LowD d
def ShD (D : PyData) : Prop := D.showable = true ∧ (D.hasDict = true → noL D = true) ∧ D.depth ≤ 64 ∧ D.shown.length ≤ sizeLine
theorem gd_sh {q : Bool} {D : PyData} {n b : Nat} (h : Gd q D n b) (hn : n ≤ 60) (hb : b ≤ 100000) : ShD D := h.fit hn hb
theorem bad3_sh {s : String} {d : PyData} (h : OkD d) (hs : strOkB (Str.ofString s) = true) (h2 : (Str.ofString s).cps.size ≤ 100) : ShD (bad3 s d) := by
  obtain ⟨⟨q, h⟩, _⟩ := h
  exact gd_sh (Gd.tup (n := 8) (b := 6600) (.cons (b1 := 100) (b2 := 6120) (.str hs h2) (.cons (b1 := 100) (b2 := 6001) (.str (by decide +kernel) (by decide +kernel)) (.cons (b1 := 6000) (b2 := 0) h .nil (by decide)) (by decide)) (by decide)) (Nat.le_of_ble_eq_true rfl)) (by decide) (by decide)
theorem ret_sh {d : PyData} {q : Bool} {n b : Nat} (h : Gd q d n b) (hn : n ≤ 50) (hb : b ≤ 6000) : ShD (ret d) :=
  gd_sh (Gd.tup (n := n) (b := 6600) (.cons (b1 := 100) (b2 := b + 1) (.str (by decide +kernel) (by decide +kernel)) (.cons (b1 := b) (b2 := 0) h .nil (by omega)) (by omega)) (Nat.le_of_ble_eq_true rfl)) (by omega) (by decide)
theorem int_ok {k : Nat} (h : k < 10 ^ 40) : intOk (k : Int) = true := by
  simp only [intOk, Bool.and_eq_true, decide_eq_true_eq]
  omega
theorem bulk_ct : ∀ cs : List Nat, PyData.bulkAll (ctD cs) = cs.length ∧ PyData.depthAll (ctD cs) = 0
  | [] => by simp [PyData.bulkAll, PyData.depthAll]
  | c :: cs => by
    have ih := bulk_ct cs
    show PyData.bulkAll (PyData.int (c : Int) :: ctD cs) = _ ∧ PyData.depthAll (PyData.int (c : Int) :: ctD cs) = _
    simp only [PyData.bulkAll, PyData.bulk, PyData.depthAll, PyData.depth, ih.1, ih.2, List.length_cons]
    omega
theorem okVA_ct : ∀ {cs : List Nat}, (∀ k ∈ cs, k < 10 ^ 40) → okVA false (ctD cs) = true
  | [], _ => by simp [okVA]
  | c :: cs, h => by
    have ih := okVA_ct (cs := cs) fun k hk => h k (List.mem_cons_of_mem _ hk)
    show okVA false (PyData.int (c : Int) :: ctD cs) = true
    simp only [okVA, okV, ih, int_ok (h c List.mem_cons_self)]
    rfl
theorem ints_sh {cs : List Nat} (h : ∀ k ∈ cs, k < 10 ^ 40) (hl : cs.length ≤ 6000) : ShD (ret (.tuple (ctD cs))) := by
  obtain ⟨a1, a2, a3, a4, a5⟩ := okVA_show (q := false) (ctD cs) (okVA_ct h)
  obtain ⟨b1, b2⟩ := bulk_ct cs
  have r1 : PyData.strOk (Str.ofString "returned") = true := by decide +kernel
  have r2 := (str_good (show strOkB (Str.ofString "returned") = true by decide +kernel)).2
  have lv : (ret (.tuple (ctD cs))).leavesShort 60 = true := by
    unfold ret
    simp only [PyData.leavesShort, PyData.leavesShortAll, a2] at r2 ⊢
    rw [r2]
    rfl
  have hbk : (ret (.tuple (ctD cs))).bulk ≤ 7000 := by
    unfold ret
    simp only [PyData.bulk, PyData.bulkAll, b1]
    have : (Str.ofString "returned").cps.size = 8 := by decide +kernel
    omega
  refine ⟨by unfold ret; simp only [PyData.showable, PyData.showableAll, a1]; rfl, fun z => ?_, by unfold ret; simp only [PyData.depth, PyData.depthAll, b2]; decide, ?_⟩
  · unfold ret at z
    simp only [PyData.hasDict, PyData.hasDictAll, a4 rfl] at z
    cases z
  · have h1 := PyData.shown_le_bulk 60 (by decide) _ lv
    rw [sizeLine_eq]
    omega
theorem sum_mem {f : Nat → Nat} : ∀ {n j : Nat}, j < n → f j ≤ Fair.sumN n f
  | n + 1, j, h => by
    show f j ≤ Fair.sumN n f + f n
    by_cases e : j = n
    · subst e; omega
    · have := sum_mem (f := f) (n := n) (j := j) (by omega)
      omega
theorem ok_int {k : Nat} (h : OkD (.int (k : Int))) : k < 10 ^ 40 := by
  have := h.2
  have : (k : Int) ≤ 10 ^ 39 := this
  omega
theorem RestD.sh {n : Nat} {ps : List (List Nat × Nat)} (o : PlOk ps) {ds : List PyData} {D : PyData} (hd : ∀ d ∈ ds, OkD d) (h : RestD n ps ds D) : ShD D := by
  have n8 := o.n8
  have si : ∀ k : Nat, k < 10 ^ 40 → ShD (ret (.int (k : Int))) := fun k hk => ret_sh (q := false) (n := 0) (b := 0) (.int (int_ok hk)) (by decide) (by decide)
  unfold RestD at h
  split at h
  · rename_i d
    have ok := hd d List.mem_cons_self
    rcases h with ⟨_, rfl⟩ | ⟨cs, i, _, _, p, rfl⟩
    · exact bad3_sh ok (by decide +kernel) (by decide +kernel)
    · exact si i (by have := p.lt; omega)
  · rename_i d e
    have ok := hd d List.mem_cons_self
    have ok2 := hd e (List.mem_cons_of_mem _ List.mem_cons_self)
    rcases h with ⟨_, rfl⟩ | ⟨_, ⟨_, rfl⟩ | ⟨ns, bs, _, hne, lo, _, _, rfl⟩⟩
    · exact bad3_sh ok (by decide +kernel) (by decide +kernel)
    · exact bad3_sh ok2 (by decide +kernel) (by decide +kernel)
    · refine si _ ?_
      have hm : Sc.lbF (wF ps) (kF bs) ns ∈ ns := by
        cases ns with
        | nil => exact absurd rfl hne
        | cons x xs =>
          rw [← Sc.lbF_all]
          rcases Sc.fold_mem (w := wF ps) (b := kF bs) (ns := x :: xs) (x0 := x) with e | e
          · rw [e]; exact List.mem_cons_self
          · exact e
      have := lo.lt _ hm
      omega
  · rename_i d e
    have ok := hd d List.mem_cons_self
    have ok2 := hd e (List.mem_cons_of_mem _ List.mem_cons_self)
    rcases h with ⟨_, rfl⟩ | ⟨_, ⟨_, rfl⟩ | ⟨ns, k, i, _, _, _, _, hi, lo, rfl⟩⟩
    · exact bad3_sh ok (by decide +kernel) (by decide +kernel)
    · exact bad3_sh ok2 (by decide +kernel) (by decide +kernel)
    · exact si _ (by have := lo.lt _ hi; omega)
  · rename_i d
    have ok := hd d List.mem_cons_self
    rcases h with ⟨_, rfl⟩ | ⟨k, l, _, k2, t, rfl, rfl⟩
    · exact bad3_sh ok (by decide +kernel) (by decide +kernel)
    · exact ints_sh (fun x hx => by have := t.lt x hx; omega) (by omega)
  · rename_i d
    have ok := hd d List.mem_cons_self
    rcases h with ⟨_, rfl⟩ | ⟨k, ks, rfl, hl, r, rfl⟩
    · exact bad3_sh ok (by decide +kernel) (by decide +kernel)
    · have k40 := ok_int ok
      refine ints_sh (fun x hx => ?_) (by omega)
      obtain ⟨j, hj⟩ := List.mem_iff_getElem?.mp hx
      have hlt := (List.getElem?_eq_some_iff.mp hj).1
      have := (r.inv o.n1 o.w1).sum
      have h2 := sum_mem (f := kF ks) (n := ps.length) (j := j) (by omega)
      rw [kF_at hj] at h2
      omega
  · exact h.elim
theorem score_sh {d e D : PyData} (h : ScoreD d e D) (ok : OkD d) (ok2 : OkD e) : ShD D := by
  rcases h with ⟨_, rfl⟩ | ⟨_, _, rfl⟩ | ⟨k, l, _, _, _, _, rfl⟩
  · exact bad3_sh ok (by decide +kernel) (by decide +kernel)
  · exact bad3_sh ok2 (by decide +kernel) (by decide +kernel)
  · exact ret_sh (q := false) (n := 0) (b := 0) (.int (int_ok (by have := Sc.scL_lt (keyL k l); omega))) (by decide) (by decide)
end Ag

end
/-! ## RevT -/
section
set_option linter.all false
set_option maxRecDepth 100000
namespace Ag
open PySem PySem.Spec PyProof.Rows L2
/-! ### t[::-1] of a tuple -/
section
variable {P : Program} {w : World} {A : Around} {E : Value → Shared → Prop} {s : Shared}
theorem adj_rev (n : Nat) : Builtin.Slice.sliceAdjust none none (-1) (n : Int) = ((n : Int) - 1, -1) := by
  unfold Builtin.Slice.sliceAdjust
  simp
theorem plc_rev (n : Nat) : Builtin.Slice.slicePlaces ((n : Int) - 1) (-1) (-1) = n := by
  unfold Builtin.Slice.slicePlaces
  simp
  split <;> omega
theorem app_rev {z : Addr} {t : Tok} {n : Nat} {Q : Int × Int × Nat → Shared → Prop} (hs : s.heap.IsSliceOf z .none .none (.int (-1) t)) (h : Q ((n : Int) - 1, -1, n) s) : wpAny (model P w) A (Builtin.Slice.sliceApplied (.ref z) (pure (n : Int))) Q E s := by
  obtain ⟨os, h1, h2, h3⟩ := id hs
  unfold Builtin.Slice.sliceApplied Builtin.Slice.sliceFields
  refine wpAny_bind (wpAny_bind (wpAny_field h1 h3 (x := .none) rfl (wpAny_bind (wpAny_field h1 h3 (x := .none) rfl (wpAny_bind (wpAny_field h1 h3 (x := .int (-1) t) rfl (wpAny_pure ?_)))))))
  refine wpAny_bind (HT.slicePart_ (.int (-1) t) ?_)
  refine show wpAny _ _ (if ((-1 : Int) == 0) = true then _ else _) _ _ s from ?_
  rw [if_neg (by decide)]
  refine wpAny_bind (HT.slicePart_ .none (wpAny_bind (HT.slicePart_ .none (wpAny_bind (wpAny_pure ?_)))))
  refine show wpAny _ _ (match Builtin.Slice.sliceAdjust none none (-1) (n : Int) with | (lo, hi) => pure (lo, (-1 : Int), Builtin.Slice.slicePlaces lo hi (-1))) _ _ s from ?_
  rw [adj_rev n]
  refine show wpAny _ _ (pure ((n : Int) - 1, (-1 : Int), Builtin.Slice.slicePlaces ((n : Int) - 1) (-1) (-1))) _ _ s from ?_
  rw [plc_rev]
  exact wpAny_pure h
theorem pick_rev (xs : Array Value) : ((List.range xs.size).filterMap fun (m : Nat) => xs[((xs.size : Int) - 1 + (m : Int) * -1).toNat]?).toArray = xs.toList.reverse.toArray := by
  congr 1
  have e : ((List.range xs.size).filterMap fun (m : Nat) => xs[((xs.size : Int) - 1 + (m : Int) * -1).toNat]?) = (List.range xs.size).filterMap ((xs[·]?) ∘ fun k => xs.size - 1 - k) := by
    have key : ∀ l : List Nat, (∀ m ∈ l, m < xs.size) → (l.filterMap fun (m : Nat) => xs[((xs.size : Int) - 1 + (m : Int) * -1).toNat]?) = l.filterMap ((xs[·]?) ∘ fun k => xs.size - 1 - k) := by
      intro l
      induction l with
      | nil => exact fun _ => rfl
      | cons m l ih =>
        intro h
        have hm := h m List.mem_cons_self
        have e1 : ((xs.size : Int) - 1 + (m : Int) * -1).toNat = xs.size - 1 - m := by omega
        rw [List.filterMap_cons, List.filterMap_cons, ih fun k hk => h k (List.mem_cons_of_mem _ hk), e1]
        rfl
    exact key _ fun m hm => List.mem_range.mp hm
  rw [e, ← List.filterMap_map, PySem.W.krv_range, List.filterMap_reverse, PySem.W.krv_all]
theorem get_rev {t z : Addr} {its : Array Value} {k : Tok} {Q : Value → Shared → Prop} (ht : IsTup s.heap t its) (hs : s.heap.IsSliceOf z .none .none (.int (-1) k)) (hz : its.size ≤ sizeLine)
    (fin : Q (.ref s.heap.objs.size) { s with heap := s.heap.push { cls := .type "tuple", data := .seq its.toList.reverse.toArray } }) : wpAny (model P w) A (getItem (.ref t) (.ref z)) Q E s := by
  have hsz : sizeOk (.seq its.toList.reverse.toArray) := by
    show its.toList.reverse.toArray.size ≤ sizeLine
    rw [List.size_toArray, List.length_reverse, Array.length_toList]
    exact hz
  obtain ⟨os, h1, h2, h3⟩ := id hs
  have hT : s.TypeIs (.ref z) "slice" := ⟨os, h1, h2⟩
  unfold getItem
  try with_reducible refine wpAny_holding ?_
  first
    | refine wpAny_bind (wpAny_pure (wpAny_bind (wpAny_sequenceKey ht.typeIs (by decide) ?_)))
    | refine wpAny_bind (wpAny_sequenceKey (T := "tuple") ht.typeIs (by decide) ?_)
  refine wpAny_bind (wpAny_callSpecial?_slot (name := Str.ofString "__getitem__") ht.typeIs PyProof.Rows.slot_tuple_getitem (wpAny_call_entry PyProof.Rows.slot_tuple_getitem ht.typeIs entry_tuple_getitem ?_ (args_tuple_getitem _ _)))
  refine show wpAny _ _ (Builtin.Tuple.tupleItemsOf (.ref t) >>= _) _ _ s from wpAny_bind (tupleItemsOf_ ht (wpAny_bind (wpAny_typeOf hT ?_)))
  rw [if_pos (by decide)]
  refine wpAny_bind (app_rev hs ?_)
  have hno : ¬ ((((its.size : Int) - 1 == 0) && ((-1 : Int) == 1) && (its.size == its.size)) = true) := by simp
  refine show wpAny _ _ (if (((its.size : Int) - 1 == 0) && ((-1 : Int) == 1) && (its.size == its.size)) = true then _ else _) _ _ s from ?_
  rw [if_neg hno, pick_rev]
  first
    | exact wpAny_bind (m := Builtin.Tuple.tupleExact _) (wpAny_newObj_type (wpAny_pure ⟨_, rfl, wpAny_pure fin⟩) hsz)
    | exact wpAny_bind (m := Builtin.Tuple.tupleExact _) (wpAny_newObj_type (wpAny_bind (wpAny_pure (wpAny_pure ⟨_, rfl, wpAny_pure fin⟩))) hsz)
    | exact wpAny_bind (wpAny_bind (m := Builtin.Tuple.tupleExact _) (wpAny_newObj_type (wpAny_pure (wpAny_pure ⟨_, rfl, wpAny_pure fin⟩)) hsz))
    | exact wpAny_bind (wpAny_bind (m := Builtin.Tuple.tupleExact _) (wpAny_newObj_type (wpAny_pure ⟨_, rfl, wpAny_pure fin⟩) hsz))
end
section
variable {X : Cx}
def tRevT (K : PySem.W.Frag) (te : TE) : TE := fun σ H Q => te σ H fun x H1 => ∃ a xs, x = .ref a ∧ SqT K H1 a xs ∧ ∀ p, H1 p = none → Q (.ref p) (upd H1 p (.tup xs.reverse))
theorem pe_revT {e : Expr} {te : TE} {k : Nat} {p1 p2 p3 pos : Pos} (he : PE X e te) : PE X (.Subscript e (.Slice none none (some (.UnaryOp .USub (.Constant (.int 1) k p1) p2)) p3) pos) (tRevT X.K te) := by
  refine ⟨fun pins s σ H Q I h => Subscript_ (thn (he.run pins s σ H _ I h) ?_)⟩
  rintro v s1 ⟨x, H1, I1, r1, a, xs, rfl, hx, q⟩
  cases r1
  have neg : PO X (some (.UnaryOp .USub (.Constant (.int 1) k p1) p2)) (tPart (tUn (rU fun i => .int (-i)) (tC (.int 1)))) := po_some (pe_un un_neg pe_int)
  refine wpAny_Slice (thn (po_none.run pins s1 σ H1 (fun o H2 => o = none ∧ H2 = H1) I1 ⟨rfl, rfl⟩) ?_)
  rintro vl s2 ⟨l, H2, I2, pl, rfl, rfl⟩
  refine thn (po_none.run pins s2 σ H2 (fun o H3 => o = none ∧ H3 = H2) I2 ⟨rfl, rfl⟩) ?_
  rintro vu s3 ⟨u, H3, I3, pu, rfl, rfl⟩
  refine thn (neg.run pins s3 σ H3 (fun o H4 => o = some (-1) ∧ H4 = H3) I3 ⟨1, rfl, -1, rfl, rfl, rfl⟩) ?_
  rintro vs s4 ⟨o, H4, I4, ps, rfl, rfl⟩
  cases pl
  cases pu
  cases ps with
  | int i t =>
    have I5 : Inv X pins σ H4 { s4 with heap := s4.heap.push { cls := .type "slice", data := .fields #[.none, .none, .int (-1) t] } } := I4.kept (t' := s4.toks) fun b ob q => Heap.get?_push_of_some _ q
    obtain ⟨its, r, ht, hz⟩ := I5.tuple hx
    have hl := r.length
    refine show wpAny (model X.prog X.w) X.A (subscriptTail e (.Slice none none (some (.UnaryOp .USub (.Constant (.int 1) k p1) p2)) p3) (.ref a) (.ref s4.heap.objs.size)) (EP X pins σ Q) X.xe { s4 with heap := s4.heap.push { cls := .type "slice", data := .fields #[.none, .none, .int (-1) t] } } from ?_
    refine tail_any (ops := [.ref a, .ref s4.heap.objs.size]) ht.typeIs (PyProof.Rows.slot_tuple_getitem.lookup) (get_rev ht (Heap.IsSliceOf.new _ .none .none (.int (-1) t)) (by rw [List.size_toArray]; omega) ?_) (by with_unfolding_all rfl)
    refine ⟨.ref _, _, I5.laid (t' := s4.toks) (o := .tup xs.reverse) (fun b ob q => Heap.get?_push_of_some _ q) (Nat.le_refl _) ⟨by rw [List.length_reverse]; exact hz, its.reverse, r.reverse, ?_⟩, rfl, q _ (I5.hok.fresh (Nat.le_refl _))⟩
    exact ⟨_, Heap.get?_push_size _ rfl, rfl, 0, by simp⟩
end
end Ag

end
/-! ## Mk -/
section
set_option linter.all false
set_option maxRecDepth 100000
namespace Ag
open PySem PySem.Spec PyProof.Rows L2
open SX (S S_len S_cat S_inj)
/-! ### expressions that make data -/
/-- under t, from H on, some data that P holds of -/
def Mk (p c : Addr) (P : PyData → Prop) (t : TE) (σ : L2.St) (H : Hp) : Prop := ∀ H1, Same H H1 → ∀ Q : VK, (∀ v d H', Same H1 H' → Dg p c H' v d → P d → Q v H') → t σ H1 Q
def MkA (p c : Addr) (P : PyData → Prop) (n : Nat) (t : TA) (σ : L2.St) (H : Hp) : Prop := ∀ H1, Same H H1 → ∀ Q : List V → Hp → Prop, (∀ vs ds H', Same H1 H' → DgA p c H' vs ds → (∀ d ∈ ds, P d) → ds.length = n → Q vs H') → t σ H1 Q
theorem has_same {p : Addr} {H H' : Hp} (s : Same H H') (h : H p ≠ none) : H' p ≠ none := by
  cases e : H p with
  | none => exact absurd e h
  | some o => rw [s p o e]; simp
theorem at_new {p c a : Addr} {H : Hp} {o : HO} (hp : H p ≠ none) (hc : H c ≠ none) (h : H a = none) : At p c (upd H a o) a o := ⟨fun e => hp (e ▸ h), fun e => hc (e ▸ h), upd_same⟩
theorem At.sm {p c a : Addr} {H H' : Hp} {o : HO} (h : At p c H a o) (s : Same H H') : At p c H' a o := ⟨h.1, h.2.1, s _ _ h.2.2⟩
section
variable {p c : Addr} {P P' : PyData → Prop} {σ : L2.St} {H : Hp} {t te : TE} {ta : TA} {n i : Nat} {v : V} {d : PyData}
theorem Mk.mono (m : Mk p c P t σ H) (h : ∀ d, P d → P' d) : Mk p c P' t σ H := fun H1 s1 Q q => m H1 s1 Q fun v d H' s hd hP => q v d H' s hd (h d hP)
theorem Mk.cst (h : Dg p c H v d) (hP : P d) : Mk p c P (tC v) σ H := fun H1 s1 _ q => q v d H1 (Same.refl _) (h.to (Kp.same s1)) hP
theorem Mk.var (e : σ[i]? = some (some v)) (h : Dg p c H v d) (hP : P d) : Mk p c P (tVar i) σ H := fun H1 s1 _ q => ⟨v, e, q v d H1 (Same.refl _) (h.to (Kp.same s1)) hP⟩
theorem MkA.nil : MkA p c P 0 tNil σ H := fun H1 _ _ q => q [] [] H1 (Same.refl _) .nil (fun _ h => by cases h) rfl
theorem MkA.cons (m : Mk p c P te σ H) (r : MkA p c P n ta σ H) : MkA p c P (n + 1) (tCons te ta) σ H := fun H0 s0 Q q => m H0 s0 _ fun v d H1 s1 hd hP => r H1 (s0.trans s1) _ fun vs ds H2 s2 ha hA hl =>
  q (v :: vs) (d :: ds) H2 (s1.trans s2) (.cons (hd.to (Kp.same s2)) ha) (fun x hx => (List.mem_cons.mp hx).elim (fun z => z ▸ hP) (hA x)) (congrArg (· + 1) hl)
theorem Mk.tup (hp : H p ≠ none) (hc : H c ≠ none) (m : MkA p c P n ta σ H) (hn : n ≤ 16000000) (h : ∀ ds : List PyData, ds.length = n → (∀ d ∈ ds, P d) → P' (.tuple ds)) : Mk p c P' (tTup ta) σ H := fun H0 s0 Q q => m H0 s0 _ fun vs ds H1 s1 ha hA hl =>
  ⟨sz (by rw [ha.len]; omega), fun a hf => q _ _ _ (s1.trans (same_new hf)) (.tup (at_new (has_same (s0.trans s1) hp) (has_same (s0.trans s1) hc) hf) (ha.to (Kp.same (same_new hf)))) (h ds hl hA)⟩
/-- a new list of data -/
theorem mk_list {Q : VK} (hp : H p ≠ none) (hc : H c ≠ none) (m : MkA p c P n ta σ H) (hn : n ≤ 16000000) (q : ∀ l vs ds H', Same H H' → At p c H' l (.lst vs) → DgA p c H' vs ds → (∀ d ∈ ds, P d) → vs.length = n → Q (.ref l) H') : tLst ta σ H Q := m H (Same.refl _) _ fun vs ds H1 s1 ha hA hl =>
  ⟨sz (by rw [ha.len]; omega), fun l hf => q l vs ds _ (s1.trans (same_new hf)) (at_new (has_same s1 hp) (has_same s1 hc) hf) (ha.to (Kp.same (same_new hf))) hA (ha.len.trans hl)⟩
variable {K : PySem.W.Frag} {Q : VK} {a b : Addr} {xs ys : List V} {lo hi : Option Int}
theorem sl_g (hp : H p ≠ none) (hc : H c ≠ none) (ha : At p c H a (.tup xs)) (k : ∀ a' H', Same H H' → At p c H' a' (.tup (cutV xs lo hi)) → Q (.ref a') H') : rSlA K (.ref a) lo hi H Q := by
  refine ⟨a, xs, rfl, SqT.of ha.2.2, fun h => k a H (Same.refl _) ?_, fun _ q hq => k q _ (same_new hq) (at_new hp hc hq)⟩
  have e : cutV xs lo hi = xs := by
    unfold cutV
    rw [h.1, h.2]
    simp
  rw [e]
  exact ha
theorem cat_g (hp : H p ≠ none) (hc : H c ≠ none) (ha : At p c H a (.tup xs)) (hb : At p c H b (.tup ys)) (hz : xs.length + ys.length ≤ 1000000) (k : ∀ a' H', Same H H' → At p c H' a' (.tup (xs ++ ys)) → Q (.ref a') H') : rCatA K (.ref a) (.ref b) H Q := by
  refine ⟨a, b, xs, ys, rfl, rfl, SqT.of ha.2.2, SqT.of hb.2.2, sz (by omega), fun h => ?_, fun _ h => ?_, fun _ _ q hq => k q _ (same_new hq) (at_new hp hc hq)⟩
  · subst h
    exact k b H (Same.refl _) hb
  · subst h
    rw [List.append_nil] at k
    exact k a H (Same.refl _) ha
theorem rev_g {te : TE} (hp : H p ≠ none) (hc : H c ≠ none) (ha : At p c H a (.tup xs)) (e : ∀ Q : VK, Q (.ref a) H → te σ H Q) (k : ∀ a' H', Same H H' → At p c H' a' (.tup xs.reverse) → Q (.ref a') H') : tRevT K te σ H Q :=
  e _ ⟨a, xs, rfl, SqT.of ha.2.2, fun q hq => k q _ (same_new hq) (at_new hp hc hq)⟩
end
theorem cutV_up (xs : List V) (b : Nat) : cutV xs none (some (b : Int)) = xs.take b := by
  unfold cutV
  rw [HT.sIx_none, HT.sIx_nat, List.drop_zero, Nat.sub_zero]
  by_cases hb : b ≤ xs.length
  · rw [Nat.min_eq_left hb]
  · rw [Nat.min_eq_right (by omega), List.take_of_length_le (Nat.le_refl _), List.take_of_length_le (by omega)]
theorem cutV_off (xs : List V) (a : Nat) : cutV xs (some (a : Int)) none = xs.drop a := by
  unfold cutV
  rw [HT.sIx_none, HT.sIx_nat]
  by_cases h : a ≤ xs.length
  · rw [Nat.min_eq_left h, List.take_of_length_le (by rw [List.length_drop]; exact Nat.le_refl _)]
  · rw [Nat.min_eq_right (by omega), List.drop_of_length_le (Nat.le_refl _), List.drop_of_length_le (by omega), List.take_nil]
/-! ### bools among the numbers -/
def ofN : V → Option Int
  | .int i => some i
  | .bl b => some (cond b 1 0)
  | _ => none
/-- small numbers and bools -/
def SmN (m : Nat) (d : PyData) : Prop := (∃ n : Nat, n ≤ m ∧ d = .int n) ∨ ∃ b, d = .bool b
theorem SmN.val {p c : Addr} {H : Hp} {m : Nat} {v : V} {d : PyData} (h : SmN m d) (hd : Dg p c H v d) : ∃ n : Nat, ofN v = some (n : Int) ∧ (n ≤ m ∨ n ≤ 1) ∧ ((v = .int n ∧ d = .int n) ∨ ∃ b, v = .bl b ∧ d = .bool b) := by
  rcases h with ⟨n, hn, rfl⟩ | ⟨b, rfl⟩
  · cases hd
    exact ⟨n, rfl, .inl hn, .inl ⟨rfl, rfl⟩⟩
  · cases hd
    cases b
    · exact ⟨0, rfl, .inr (by decide), .inr ⟨_, rfl, rfl⟩⟩
    · exact ⟨1, rfl, .inr (by decide), .inr ⟨_, rfl, rfl⟩⟩
section
variable {X : Cx}
theorem op_addN : OpR X (binaryOp .Add) (fun x y H Q => ∃ i j, ofN x = some i ∧ y = .int j ∧ Q (.int (i + j)) H) := by
  rintro pins s σ H x y v u Q I rx ry ⟨i, j, e, rfl, q⟩
  cases x with
  | int k => cases e; exact op_add pins s σ H _ _ v u Q I rx ry ⟨_, _, rfl, rfl, q⟩
  | bl b =>
    cases e; cases rx
    obtain ⟨t, rfl⟩ := ry
    refine PySem.IntBool.add_bool_int ⟨.int _, H, I.tok _, ⟨_, rfl⟩, ?_⟩
    cases b <;> exact q
  | _ => cases e
theorem op_subN : OpR X (binaryOp .Sub) (fun x y H Q => ∃ i j, ofN x = some i ∧ y = .int j ∧ Q (.int (i - j)) H) := by
  rintro pins s σ H x y v u Q I rx ry ⟨i, j, e, rfl, q⟩
  cases x with
  | int k => cases e; exact op_sub pins s σ H _ _ v u Q I rx ry ⟨_, _, rfl, rfl, q⟩
  | bl b =>
    cases e; cases rx
    obtain ⟨t, rfl⟩ := ry
    refine PySem.IntBool.sub_bool_int ⟨.int _, H, I.tok _, ⟨_, rfl⟩, ?_⟩
    cases b <;> exact q
  | _ => cases e
theorem op_mulN : OpR X (binaryOp .Mult) (fun x y H Q => ∃ (i j : Nat), ofN x = some (i : Int) ∧ y = .int (j : Int) ∧ i < 16384 ∧ j < 16384 ∧ Q (.int ((i : Int) * j)) H) := by
  rintro pins s σ H x y v u Q I rx ry ⟨i, j, e, rfl, hi, hj, q⟩
  cases x with
  | int k => cases e; exact op_mul pins s σ H _ _ v u Q I rx ry ⟨_, _, rfl, rfl, .inl ⟨by omega, by omega⟩, q⟩
  | bl b =>
    have e := Option.some.inj e; cases rx
    obtain ⟨t, rfl⟩ := ry
    refine PySem.IntBool.mul_bool_int ⟨.int _, H, I.tok _, ⟨_, rfl⟩, ?_⟩
    rw [← e] at q
    cases b <;> exact q
  | _ => cases e
def shN : V → Str
  | .int i => toString i
  | .bl b => if b then "True" else "False"
  | _ => Str.empty
theorem call_strN : CallR X (.type "str") (fun xs H Q => ∃ x i, xs = [x] ∧ ofN x = some i ∧ i.natAbs.log2 < 1920 ∧ Q (.str (shN x)) H) := by
  rintro pins s σ H xs us Q I r ⟨x, i, rfl, e, hz, q⟩
  obtain ⟨u, rfl, ru⟩ := vals1 r
  cases x with
  | int k =>
    cases e
    obtain ⟨t, rfl⟩ := ru
    exact PySem.P.str_of_int hz ⟨.str _, H, I.tok _, ⟨_, rfl⟩, q⟩
  | bl b =>
    cases ru
    exact PySem.P.str_of_bool ⟨.str _, H, I.tok _, ⟨_, rfl⟩, q⟩
  | _ => cases e
end
end Ag

end
/-! ## S6 -/
section
set_option linter.all false
set_option maxRecDepth 100000
set_option maxHeartbeats 4000000
namespace Ag
open PySem PySem.Spec PyProof.Rows L2
open SX (S S_len S_cat S_inj)
theorem sT {a b : Str} {p q : Prop} (h : a = b) (x : p) : if decide (V.str a = V.str b) = true then p else q := by
  rw [decide_eq_true (congrArg V.str h)]
  exact iteT x
theorem sF {a b : Str} {p q : Prop} (h : a ≠ b) (x : q) : if decide (V.str a = V.str b) = true then p else q := by
  rw [decide_eq_false fun z => h (V.str.inj z)]
  exact iteF x
section
variable {p c t : Addr} {H : Hp} {v : V} {d : PyData}
theorem ret_dg (hp : H p ≠ none) (hc : H c ≠ none) (ht : H t = none) (hd : Dg p c H v d) : Dg p c (upd H t (.tup [.str (Str.ofString "returned"), v])) (.ref t) (ret d) := .tup (at_new hp hc ht) (.cons (.str _) (.cons (hd.to (Kp.same (same_new ht))) .nil))
theorem bad3_dg {s : String} (hp : H p ≠ none) (hc : H c ≠ none) (ht : H t = none) (hd : Dg p c H v d) : Dg p c (upd H t (.tup [.str (Str.ofString s), .str (Str.ofString "of the gate"), v])) (.ref t) (bad3 s d) := .tup (at_new hp hc ht) (.cons (.str _) (.cons (.str _) (.cons (hd.to (Kp.same (same_new ht))) .nil)))
end
theorem ct_dg {p c t : Addr} {H : Hp} {cs : List Nat} (ht : At p c H t (.tup (ctV cs))) : Dg p c H (.ref t) (.tuple (ctD cs)) := by
  refine .tup ht ?_
  clear ht
  induction cs with
  | nil => exact .nil
  | cons x cs ih => exact .cons (.int _) ih
def Sh (n : Nat) (ds : List PyData) : Prop := match n, ds with
  | 0, [_] => True
  | 1, [_, _] => True
  | 2, [_, _] => True
  | 3, [_] => True
  | 5, [_] => True
  | _, _ => False
def spLAP : Sp := fun vs H Q _ => ∃ p c a ts ps r xs ds n, vs = [.str (wayS n), .ref a, .ref r] ∧ H p ≠ none ∧ H c ≠ none ∧ Pool a ts ps H ∧ At p c H r (.tup xs) ∧ DgA p c H xs ds ∧ (∀ d ∈ ds, OkD d) ∧ Sh n ds ∧ ∀ v D H', Same H H' → Dg p c H' v D → RestD n ps ds D → Q v H'
section
variable {P : Program} {w : World} {K : PySem.W.Frag} {mg : Str → Option Value} {base : Heap}
theorem h64 {k : Nat} {A : Around} (hr : Room k A) : A.units + 64 < cLine := by have := hr.un; omega
theorem ok_lap {f f1 f2 f3 f4 f5 f6 f7 f8 f9 : Addr} {fd fd1 fd2 fd3 fd4 fd5 fd6 fd7 fd8 fd9 : FuncData} (F : Fn K mg "_law_after_pool" s__law_after_pool ["_law_way", "_law_pool", "_law_rest"] f fd) (B : Blt mg)
    (F__law_are_counts : Fn K mg "_law_are_counts" s__law_are_counts ["_law_pool", "_law_thing"] f1 fd1) (G__law_are_counts : FnOk P w K mg base CX0 3 f1 fd1 ["_law_pool", "_law_thing"] spLAre)
    (F__law_next : Fn K mg "_law_next" s__law_next ["_law_weights", "_law_counts_here"] f2 fd2) (G__law_next : FnOk P w K mg base CX0 1 f2 fd2 ["_law_weights", "_law_counts_here"] spLNext)
    (F__law_is_int : Fn K mg "_law_is_int" s__law_is_int ["_law_thing", "_law_low", "_law_high"] f3 fd3) (G__law_is_int : FnOk P w K mg base CX0 1 f3 fd3 ["_law_thing", "_law_low", "_law_high"] spLInt)
    (F__law_counts : Fn K mg "_law_counts" s__law_counts ["_law_weights", "_law_t"] f4 fd4) (G__law_counts : FnOk P w K mg base CX0 2 f4 fd4 ["_law_weights", "_law_t"] spLCounts)
    (F__law_is_lot : Fn K mg "_law_is_lot" s__law_is_lot ["_law_many", "_law_thing"] f5 fd5) (G__law_is_lot : FnOk P w K mg base CX0 2 f5 fd5 ["_law_many", "_law_thing"] spLLot)
    (F__law_is_word : Fn K mg "_law_is_word" s__law_is_word ["_law_thing"] f6 fd6) (G__law_is_word : FnOk P w K mg base CX0 1 f6 fd6 ["_law_thing"] spLWord)
    (F__law_by_key : Fn K mg "_law_by_key" s__law_by_key ["_law_pool", "_law_lot", "_law_key"] f7 fd7) (G__law_by_key : FnOk P w K mg base CX0 2 f7 fd7 ["_law_pool", "_law_lot", "_law_key"] spLBk)
    (F__law_is_tuple : Fn K mg "_law_is_tuple" s__law_is_tuple ["_law_thing", "_law_many"] f8 fd8) (G__law_is_tuple : FnOk P w K mg base CX0 1 f8 fd8 ["_law_thing", "_law_many"] spLTup)
    (F__law_least_busy : Fn K mg "_law_least_busy" s__law_least_busy ["_law_pool", "_law_lot", "_law_busy"] f9 fd9) (G__law_least_busy : FnOk P w K mg base CX0 1 f9 fd9 ["_law_pool", "_law_lot", "_law_busy"] spLLb) : FnOk P w K mg base CX0 4 f fd ["_law_way", "_law_pool", "_law_rest"] spLAP := by
  refine F.F.ok sc__law_after_pool (fun vs H Q E h => ?_) (fun cdv A outer s H vs Q E hr h => ?_)
  · obtain ⟨p, c, a, ts, ps, r, xs, ds, n, rfl, _⟩ := h
    rfl
  · obtain ⟨p, c, a, ts, ps, r, xs, ds, n, rfl, hp, hc, po, ar, hA, hok, hsh, q⟩ := h
    refine ⟨_, (pss_cons (ps_setLc (i := 3) (own := [("_law_label", 8), ("_law_weight", 7)]) rfl sc__law_after_pool.nd rfl rfl (sw_true rfl rfl rfl (by decide +kernel)) (pi_tup (pv 1)) (blkOk_by (N := N__law_after_pool) (sc := defScope s__law_after_pool) (by decide +kernel)) (fun _ _ _ _ _ => pg_two (i := 8) (j := 7) K rfl sc__law_after_pool.nd rfl rfl rfl rfl rfl) (fun _ _ _ _ _ => pts_nil) (fun _ _ _ _ _ => (pv 7)))
      (pss_cons (ps_if (pt_cmpR op_eq (pv 0) pe_str (nomark _))
      (pss_one (ps_ret (pe_ifExp (pt_val (pe_call G__law_are_counts (hr.mono (by decide)) (by rfl) F__law_are_counts.g F__law_are_counts.F.kp F__law_are_counts.b .nil pass0 (pa_cons (pv 1) (pa_cons (pe_ix ix_tup (pv 2) pe_int (fun _ _ => rfl)) pa_nil)))) (pe_tup (pa_cons pe_str (pa_cons (pe_call G__law_next (hr.mono (by decide)) (by rfl) F__law_next.g F__law_next.F.kp F__law_next.b .nil pass0 (pa_cons (pv 3) (pa_cons (pe_ix ix_tup (pv 2) pe_int (fun _ _ => rfl)) pa_nil))) pa_nil))) (pe_tup (pa_cons pe_str (pa_cons pe_str (pa_cons (pe_ix ix_tup (pv 2) pe_int (fun _ _ => rfl)) pa_nil)))))))
      pss_nil)
      (pss_cons (ps_if (PW.pt (pw_or (pt_cmpR op_eq (pv 0) pe_str (nomark _)) (pw_or1 (pt_cmpR op_eq (pv 0) pe_str (nomark _)))))
      (pss_cons (ps_if (pt_not (pt_val (pe_call G__law_is_int (hr.mono (by decide)) (by rfl) F__law_is_int.g F__law_is_int.F.kp F__law_is_int.b .nil pass0 (pa_cons (pe_ix ix_tup (pv 2) pe_int (fun _ _ => rfl)) (pa_cons pe_int (pa_cons (pe_ifExp (pt_cmpR op_eq (pv 0) pe_str (nomark _)) pe_int (pe_op op_pow pe_int pe_int)) pa_nil))))))
        (pss_one (ps_ret (pe_tup (pa_cons pe_str (pa_cons pe_str (pa_cons (pe_ix ix_tup (pv 2) pe_int (fun _ _ => rfl)) pa_nil))))))
        pss_nil)
        (pss_cons (ps_if (pt_cmpR op_eq (pv 0) pe_str (nomark _))
        (pss_one (ps_ret (pe_tup (pa_cons pe_str (pa_cons (pe_call G__law_counts (hr.mono (by decide)) (by rfl) F__law_counts.g F__law_counts.F.kp F__law_counts.b .nil pass0 (pa_cons (pv 3) (pa_cons (pe_ix ix_tup (pv 2) pe_int (fun _ _ => rfl)) pa_nil))) pa_nil)))))
        pss_nil)
        (pss_cons (ps_par (i := 4) (j := 5) (by rfl) sc__law_after_pool.nd rfl rfl (by decide) rfl rfl (pa_cons (pe_op op_rep (pe_lst (pa_cons pe_int pa_nil)) (pe_callB call_len_seq (by rfl) B.n_len PySem.boot_len (pa_cons (pv 1) pa_nil))) (pa_cons (pe_lst pa_nil) pa_nil)) (by rfl))
        (pss_cons (ps_for PassesOwn.never rfl (pi_range1 (by rfl) B.n_range (pa_cons (pe_ix ix_tup (pv 2) pe_int (fun _ _ => rfl)) pa_nil)) (pg_name (i := 6) sc__law_after_pool.nd rfl (Or.inl rfl))
        (pss_cons (ps_expr (pe_bm PySem.F.plainAttrs_list PySem.F.slot_list_append PySem.F.type_list_append mt_append (pv 5) (pa_cons (pe_call G__law_next (hr.mono (by decide)) (by rfl) F__law_next.g F__law_next.F.kp F__law_next.b .nil pass0 (pa_cons (pv 3) (pa_cons (pv 4) pa_nil))) pa_nil)))
          (pss_one (ps_asg (pe_op op_add (pe_ix ix_list (pv 4) (pe_ix ix_list (pv 5) (pe_un un_neg pe_int) (fun _ _ => rfl)) (fun _ _ => rfl)) pe_int) (pg_sub (pv 4) (pe_ix ix_list (pv 5) (pe_un un_neg pe_int) (fun _ _ => rfl)) set_list)))))
        (pss_one (ps_ret (pe_tup (pa_cons pe_str (pa_cons (pe_callTy call_tuple_of (by rfl) B.n_tuple (by decide +kernel) (pa_cons (pv 5) pa_nil)) pa_nil)))))))))
      pss_nil)
      (pss_cons (ps_if (PW.pt (pw_or (pt_not (pt_val (pe_call G__law_is_lot (hr.mono (by decide)) (by rfl) F__law_is_lot.g F__law_is_lot.F.kp F__law_is_lot.b .nil pass0 (pa_cons (pe_callB call_len_seq (by rfl) B.n_len PySem.boot_len (pa_cons (pv 1) pa_nil)) (pa_cons (pe_ix ix_tup (pv 2) pe_int (fun _ _ => rfl)) pa_nil))))) (pw_or1 (pt_cmpR (op_eqT0 (h64 hr)) (pe_ix ix_tup (pv 2) pe_int (fun _ _ => rfl)) (pe_tup pa_nil) (nomark _)))))
      (pss_one (ps_ret (pe_tup (pa_cons pe_str (pa_cons pe_str (pa_cons (pe_ix ix_tup (pv 2) pe_int (fun _ _ => rfl)) pa_nil))))))
      pss_nil)
      (pss_cons (ps_if (pt_cmpR op_eq (pv 0) pe_str (nomark _))
      (pss_one (ps_ret (pe_ifExp (pt_val (pe_call G__law_is_word (hr.mono (by decide)) (by rfl) F__law_is_word.g F__law_is_word.F.kp F__law_is_word.b .nil pass0 (pa_cons (pe_ix ix_tup (pv 2) pe_int (fun _ _ => rfl)) pa_nil))) (pe_tup (pa_cons pe_str (pa_cons (pe_call G__law_by_key (hr.mono (by decide)) (by rfl) F__law_by_key.g F__law_by_key.F.kp F__law_by_key.b .nil pass0 (pa_cons (pv 1) (pa_cons (pe_ix ix_tup (pv 2) pe_int (fun _ _ => rfl)) (pa_cons (pe_ix ix_tup (pv 2) pe_int (fun _ _ => rfl)) pa_nil)))) pa_nil))) (pe_tup (pa_cons pe_str (pa_cons pe_str (pa_cons (pe_ix ix_tup (pv 2) pe_int (fun _ _ => rfl)) pa_nil)))))))
      pss_nil)
      (pss_cons (ps_if (PW.pt (pw_or (pt_not (pt_val (pe_call G__law_is_tuple (hr.mono (by decide)) (by rfl) F__law_is_tuple.g F__law_is_tuple.F.kp F__law_is_tuple.b .nil pass0 (pa_cons (pe_ix ix_tup (pv 2) pe_int (fun _ _ => rfl)) (pa_cons (pe_callB call_len_seq (by rfl) B.n_len PySem.boot_len (pa_cons (pv 1) pa_nil)) pa_nil))))) (pw_or1 (pt_cmpR (op_neL0 hr.units) (pe_lc (own := [("_law_many", 9)]) rfl sc__law_after_pool.nd (pi_tup (pe_ix ix_tup (pv 2) pe_int (fun _ _ => rfl))) (blkOk_by (N := N__law_after_pool) (sc := defScope s__law_after_pool) (by decide +kernel)) (fun _ _ _ _ _ => (pg_name (i := 9) sc__law_after_pool.nd rfl (Or.inl rfl))) (fun _ _ _ _ _ => (pts_one (pt_not (pt_val (pe_call G__law_is_int (hr.mono (by decide)) (by rfl) F__law_is_int.g F__law_is_int.F.kp F__law_is_int.b .nil pass0 (pa_cons (pv 9) (pa_cons pe_int (pa_cons (pe_op op_pow pe_int pe_int) pa_nil)))))))) (fun _ _ _ _ _ => (pv 9))) (pe_lst pa_nil) (nomark _)))))
      (pss_one (ps_ret (pe_tup (pa_cons pe_str (pa_cons pe_str (pa_cons (pe_ix ix_tup (pv 2) pe_int (fun _ _ => rfl)) pa_nil))))))
      pss_nil)
      (pss_one (ps_ret (pe_tup (pa_cons pe_str (pa_cons (pe_call G__law_least_busy (hr.mono (by decide)) (by rfl) F__law_least_busy.g F__law_least_busy.F.kp F__law_least_busy.b .nil pass0 (pa_cons (pv 1) (pa_cons (pe_ix ix_tup (pv 2) pe_int (fun _ _ => rfl)) (pa_cons (pe_ix ix_tup (pv 2) pe_int (fun _ _ => rfl)) pa_nil)))) pa_nil))))))))))), ?_⟩
    refine ⟨_, rfl, a, rfl, ⟨_, SqT.of po.at_⟩, fun W hW0 => ?_⟩
    refine lc_wts po hW0 (fun _ _ => rfl) (Nat.le_of_ble_eq_true rfl) fun H1 s1 hW => ?_
    have o := po.ok
    have po1 := po.to s1
    have ar1 := ar.sm s1
    have hA1 := hA.to (Kp.same s1)
    have hp1 := has_same s1 hp
    have hc1 := has_same s1 hc
    have q1 : ∀ v D H', Same H1 H' → Dg p c H' v D → RestD n ps ds D → Q v H' := fun v D H' s => q v D H' (s1.trans s)
    unfold Sh at hsh
    split at hsh
    · -- next
      rename_i d
      cases hA1 with
      | cons hd r0 =>
        cases r0
        rename_i v
        have ok := hok d List.mem_cons_self
        have at0 : ∀ {H'}, Same H1 H' → SqT K H' r [v] := fun s' => SqT.of (s' _ _ ar1.2.2)
        refine ⟨_, rfl, rfl, _, rfl, sT rfl ?_⟩
        refine ⟨_, rfl, _, rfl, r, _, _, _, rfl, rfl, at0 (Same.refl _), atI_nat (j := 0) rfl, p, c, a, ts, ps, v, d, rfl, po1, hd, ok.2, fun b H2 s2 hb => ⟨_, rfl, ?_⟩⟩
        have hp2 := has_same s2 hp1
        have hc2 := has_same s2 hc1
        cases b with
        | false =>
          exact iteF ⟨_, rfl, r, _, _, _, rfl, rfl, at0 s2, atI_nat (j := 0) rfl, sz (Nat.le_of_ble_eq_true rfl), fun t ht => q1 _ _ _ (s2.trans (same_new ht)) (bad3_dg (s := "BadCounts") hp2 hc2 ht (hd.to (Kp.same s2))) (.inl ⟨fun z => (by have := hb.mpr z; cases this), rfl⟩)⟩
        | true =>
          have rt := hb.mp rfl
          obtain ⟨cs, e, hl, run⟩ := rt
          subst e
          cases hd with
          | @tup x xs _ ax dx =>
            obtain ⟨cs', ec, rfl⟩ := nats_of_D dx (by
              rw [List.all_eq_true]
              intro y hy
              obtain ⟨m, _, rfl⟩ := List.mem_map.mp hy
              exact (decide_eq_true (show (0 : Int) ≤ ((m : Nat) : Int) by omega) : nonnegB (.int ((m : Nat) : Int)) = true))
            have ec := ctD_inj ec
            subst ec
            refine iteT ⟨_, rfl, _, rfl, r, _, _, _, rfl, rfl, at0 s2, atI_nat (j := 0) rfl, W, x, ps, cs, rfl, o, s2 _ _ hW, .inr (s2 _ _ ax.2.2), hl, fun i H3 s3 pk => ⟨sz (Nat.le_of_ble_eq_true rfl), fun t ht => ?_⟩⟩
            exact q1 _ _ _ ((s2.trans s3).trans (same_new ht)) (ret_dg (has_same s3 hp2) (has_same s3 hc2) ht (.int _)) (.inr ⟨cs, i, rfl, ⟨cs, rfl, hl, run⟩, pk, rfl⟩)
    · -- busy
      rename_i d e
      cases hA1 with
      | cons hd r0 =>
       cases r0 with
       | cons he r1 =>
        cases r1
        rename_i v v2
        obtain ⟨⟨gq, hgd⟩, _⟩ := hok d List.mem_cons_self
        obtain ⟨⟨gq2, hge⟩, lowe⟩ := hok e (List.mem_cons_of_mem _ List.mem_cons_self)
        have at0 : ∀ {H'}, Same H1 H' → SqT K H' r [v, v2] := fun s' => SqT.of (s' _ _ ar1.2.2)
        refine ⟨_, rfl, rfl, _, rfl, sF (by decide +kernel) ?_⟩
        refine ⟨_, rfl, rfl, _, rfl, sF (by decide +kernel) ⟨_, rfl, rfl, _, rfl, sF (by decide +kernel) ?_⟩⟩
        refine ⟨_, rfl, a, _, rfl, .inr (SqT.of po1.at_), _, rfl, r, _, _, _, rfl, rfl, at0 (Same.refl _), atI_nat (j := 0) rfl, p, c, v, d, gq, 8, 6000, _, rfl, hd, hgd, fun H2 s2 => ⟨_, rfl, ?_⟩⟩
        rw [show (((ts.map V.ref).length : Nat) : Int) - 1 = (ps.length : Int) - 1 by rw [List.length_map, po.it.1]]
        have hp2 := has_same s2 hp1
        have hc2 := has_same s2 hc1
        have badL : ∀ (H' : Hp), Same H1 H' → lotOk ps d = false → ∀ t, H' t = none → Q (.ref t) (upd H' t (.tup [.str (Str.ofString "BadLot"), .str (Str.ofString "of the gate"), v])) := fun H' s' z t ht => q1 _ _ _ (s'.trans (same_new ht)) (bad3_dg (s := "BadLot") (has_same s' hp1) (has_same s' hc1) ht (hd.to (Kp.same s'))) (.inl ⟨z, rfl⟩)
        cases hL : lotB ((ps.length : Int) - 1) d with
        | false => exact iteT (iteT ⟨_, rfl, r, _, _, _, rfl, rfl, at0 s2, atI_nat (j := 0) rfl, sz (Nat.le_of_ble_eq_true rfl), badL H2 s2 (by unfold lotOk; rw [hL]; rfl)⟩)
        | true =>
        refine iteF ⟨_, rfl, r, _, _, _, rfl, rfl, at0 s2, atI_nat (j := 0) rfl, Nat.zero_le _, fun t0 ht0 => ?_⟩
        have s3 := s2.trans (same_new (o := .tup []) ht0)
        refine ⟨p, c, d, t0, hd.to (Kp.same s3), hgd.asc, rfl, upd_same, _, rfl, ?_⟩
        generalize upd H2 t0 (.tup []) = H3 at s3 ⊢
        cases hT : isT0 d with
        | true => exact iteT ⟨_, rfl, r, _, _, _, rfl, rfl, at0 s3, atI_nat (j := 0) rfl, sz (Nat.le_of_ble_eq_true rfl), badL H3 s3 (by unfold lotOk; rw [hL, hT]; rfl)⟩
        | false =>
        have lk : lotOk ps d = true := by unfold lotOk; rw [hL, hT]; rfl
        obtain ⟨la, ns, rfl, hla, rfl, lo⟩ := lot_E hd hL o.n8
        have hne : ns ≠ [] := fun z => by
          rw [z] at hT
          cases hT
        have hla3 := s3 _ _ hla
        refine iteF ⟨_, rfl, rfl, _, rfl, sF (by decide +kernel) ?_⟩
        refine ⟨_, rfl, r, _, _, _, rfl, rfl, at0 s3, atI_nat (j := 1) rfl, _, rfl, a, _, rfl, .inr (SqT.of (s3 _ _ po1.at_)), p, c, v2, e, ps.length, ?_, he.to (Kp.same s3), _, rfl, ?_⟩
        · rw [List.length_map, po.it.1]; rfl
        have badC : ∀ (H' : Hp), Same H1 H' → loadsB ps.length e = false → ∀ t, H' t = none → Q (.ref t) (upd H' t (.tup [.str (Str.ofString "BadCounts"), .str (Str.ofString "of the gate"), v2])) := fun H' s' z t ht => q1 _ _ _ (s'.trans (same_new ht)) (bad3_dg (s := "BadCounts") (has_same s' hp1) (has_same s' hc1) ht (he.to (Kp.same s'))) (.inr ⟨lk, .inl ⟨z, rfl⟩⟩)
        by_cases h4 : tupN ps.length e = true
        · cases he with
          | @tup t xs ds at_ da =>
            have hl : ds.length = ps.length := of_decide_eq_true h4
            rw [h4]
            refine iteF ⟨_, rfl, r, _, _, _, rfl, rfl, at0 s3, atI_nat (j := 1) rfl, t, rfl, ⟨_, SqT.of (s3 _ _ at_.2.2)⟩, fun D hD => ?_⟩
            have n8 := o.n8
            refine lc_fails (K := K) (wholeB 0 (10 ^ 39)) (da.to (Kp.same s3)) (s3 _ _ at_.2.2) (by rw [da.len, hl]; omega) hD (fun y d H2 k k0 _ dd s1 hk hk0 => ⟨rfl, _, rfl, _, _, rfl, rfl, ⟨by decide, by decide, by decide⟩, p, c, y, d, 0, _, rfl, dd, _, rfl, ?_⟩) fun H4 L s4 h4' eL => ?_
            · have e : (10 : Int) ^ (39 : Int).toNat = 10 ^ 39 := rfl
              rw [e]
              cases ht : wholeB 0 (10 ^ 39) d with
              | false => exact iteT ⟨_, rfl, hk ht _ (Same.refl _)⟩
              | true => exact iteF (hk0 ht _ (Same.refl _))
            refine ⟨Nat.zero_le _, fun t0 ht0 => ?_⟩
            have s5 := same_new (o := .lst []) ht0
            refine ⟨D, _, t0, rfl, s5 _ _ h4', rfl, upd_same, _, rfl, ?_⟩
            rw [eL]
            have s35 := s3.trans (s4.trans s5)
            generalize upd H4 t0 (.lst []) = H5 at s35 ⊢
            cases hall : ds.all (wholeB 0 (10 ^ 39)) with
            | false =>
              refine iteT ⟨_, rfl, r, _, _, _, rfl, rfl, at0 s35, atI_nat (j := 1) rfl, sz (Nat.le_of_ble_eq_true rfl), badC H5 s35 ?_⟩
              refine Bool.eq_false_iff.mpr fun z => ?_
              have z : (decide (ds.length = ps.length) && ds.all nonnegB) = true := z
              rw [Bool.and_eq_true] at z
              obtain ⟨cs, e, _⟩ := nats_of_D da z.2
              subst e
              rw [low_ct lowe] at hall
              cases hall
            | true =>
            obtain ⟨bs, rfl, rfl⟩ := nats_of_D da (whole_nonneg hall)
            have hbs : bs.length = ps.length := by
              unfold ctD at hl
              rw [List.length_map] at hl
              exact hl
            exact iteF ⟨_, rfl, _, rfl, r, _, _, _, rfl, rfl, at0 s35, atI_nat (j := 0) rfl, _, rfl, r, _, _, _, rfl, rfl, at0 s35, atI_nat (j := 1) rfl, a, ts, ps, la, ns, t, bs, rfl, po1.to s35, s35 _ _ hla, lo, hne, s35 _ _ at_.2.2, hbs, fun H6 s6 => ⟨sz (Nat.le_of_ble_eq_true rfl), fun t ht => q1 _ _ _ ((s35.trans s6).trans (same_new ht)) (ret_dg (has_same (s35.trans s6) hp1) (has_same (s35.trans s6) hc1) ht (.int _)) (.inr ⟨lk, .inr ⟨ns, bs, rfl, hne, lo, rfl, hbs, rfl⟩⟩)⟩⟩
          | _ => cases h4
        · rw [Bool.eq_false_iff.mpr h4]
          refine iteT (iteT ⟨_, rfl, r, _, _, _, rfl, rfl, at0 s3, atI_nat (j := 1) rfl, sz (Nat.le_of_ble_eq_true rfl), badC H3 s3 ?_⟩)
          cases e with
          | tuple ds =>
            have h4 : ¬ decide (ds.length = ps.length) = true := h4
            show (decide (ds.length = ps.length) && ds.all nonnegB) = false
            rw [Bool.eq_false_iff.mpr h4]
            rfl
          | _ => rfl
    · -- key
      rename_i d e
      cases hA1 with
      | cons hd r0 =>
       cases r0 with
       | cons he r1 =>
        cases r1
        rename_i v v2
        obtain ⟨⟨gq, hgd⟩, _⟩ := hok d List.mem_cons_self
        obtain ⟨⟨gq2, hge⟩, lowe⟩ := hok e (List.mem_cons_of_mem _ List.mem_cons_self)
        have at0 : ∀ {H'}, Same H1 H' → SqT K H' r [v, v2] := fun s' => SqT.of (s' _ _ ar1.2.2)
        refine ⟨_, rfl, rfl, _, rfl, sF (by decide +kernel) ?_⟩
        refine ⟨_, rfl, rfl, _, rfl, sF (by decide +kernel) ⟨_, rfl, rfl, _, rfl, sF (by decide +kernel) ?_⟩⟩
        refine ⟨_, rfl, a, _, rfl, .inr (SqT.of po1.at_), _, rfl, r, _, _, _, rfl, rfl, at0 (Same.refl _), atI_nat (j := 0) rfl, p, c, v, d, gq, 8, 6000, _, rfl, hd, hgd, fun H2 s2 => ⟨_, rfl, ?_⟩⟩
        rw [show (((ts.map V.ref).length : Nat) : Int) - 1 = (ps.length : Int) - 1 by rw [List.length_map, po.it.1]]
        have hp2 := has_same s2 hp1
        have hc2 := has_same s2 hc1
        have badL : ∀ (H' : Hp), Same H1 H' → lotOk ps d = false → ∀ t, H' t = none → Q (.ref t) (upd H' t (.tup [.str (Str.ofString "BadLot"), .str (Str.ofString "of the gate"), v])) := fun H' s' z t ht => q1 _ _ _ (s'.trans (same_new ht)) (bad3_dg (s := "BadLot") (has_same s' hp1) (has_same s' hc1) ht (hd.to (Kp.same s'))) (.inl ⟨z, rfl⟩)
        cases hL : lotB ((ps.length : Int) - 1) d with
        | false => exact iteT (iteT ⟨_, rfl, r, _, _, _, rfl, rfl, at0 s2, atI_nat (j := 0) rfl, sz (Nat.le_of_ble_eq_true rfl), badL H2 s2 (by unfold lotOk; rw [hL]; rfl)⟩)
        | true =>
        refine iteF ⟨_, rfl, r, _, _, _, rfl, rfl, at0 s2, atI_nat (j := 0) rfl, Nat.zero_le _, fun t0 ht0 => ?_⟩
        have s3 := s2.trans (same_new (o := .tup []) ht0)
        refine ⟨p, c, d, t0, hd.to (Kp.same s3), hgd.asc, rfl, upd_same, _, rfl, ?_⟩
        generalize upd H2 t0 (.tup []) = H3 at s3 ⊢
        cases hT : isT0 d with
        | true => exact iteT ⟨_, rfl, r, _, _, _, rfl, rfl, at0 s3, atI_nat (j := 0) rfl, sz (Nat.le_of_ble_eq_true rfl), badL H3 s3 (by unfold lotOk; rw [hL, hT]; rfl)⟩
        | false =>
        have lk : lotOk ps d = true := by unfold lotOk; rw [hL, hT]; rfl
        obtain ⟨la, ns, rfl, hla, rfl, lo⟩ := lot_E hd hL o.n8
        have hne : ns ≠ [] := fun z => by
          rw [z] at hT
          cases hT
        have hla3 := s3 _ _ hla
        refine iteF ⟨_, rfl, rfl, _, rfl, sT rfl ?_⟩
        refine ⟨_, rfl, r, _, _, _, rfl, rfl, at0 s3, atI_nat (j := 1) rfl, p, c, v2, e, gq2, 8, 6000, rfl, he.to (Kp.same s3), hge, fun H4 s4 => ⟨_, rfl, ?_⟩⟩
        have s34 := s3.trans s4
        cases hw : wordB e with
        | false => exact iteF ⟨_, rfl, r, _, _, _, rfl, rfl, at0 s34, atI_nat (j := 1) rfl, sz (Nat.le_of_ble_eq_true rfl), fun t ht => q1 _ _ _ (s34.trans (same_new ht)) (bad3_dg (s := "BadWord") (has_same s34 hp1) (has_same s34 hc1) ht (he.to (Kp.same s34))) (.inr ⟨lk, .inl ⟨hw, rfl⟩⟩)⟩
        | true =>
          cases he with
          | str x =>
            have hw : wordL x.cps.toList = true := hw
            exact iteT ⟨_, rfl, _, rfl, r, _, _, _, rfl, rfl, at0 s34, atI_nat (j := 0) rfl, _, rfl, r, _, _, _, rfl, rfl, at0 s34, atI_nat (j := 1) rfl, a, ts, ps, la, ns, x.cps.toList, rfl, po1.to s34, s34 _ _ hla, lo, hne, hw, fun i H6 s6 hb => ⟨sz (Nat.le_of_ble_eq_true rfl), fun t ht => q1 _ _ _ ((s34.trans s6).trans (same_new ht)) (ret_dg (has_same (s34.trans s6) hp1) (has_same (s34.trans s6) hc1) ht (.int _)) (.inr ⟨lk, .inr ⟨ns, x.cps.toList, i, rfl, rfl, hw, hb, hb.mem, lo, rfl⟩⟩)⟩⟩
          | _ => cases hw
    · -- turns
      rename_i d
      cases hA1 with
      | cons hd r0 =>
        cases r0
        rename_i v
        obtain ⟨_, low⟩ := hok d List.mem_cons_self
        have at0 : ∀ {H'}, Same H1 H' → SqT K H' r [v] := fun s' => SqT.of (s' _ _ ar1.2.2)
        have badN : ∀ (H' : Hp), Same H1 H' → RestD 3 ps [d] (bad3 "BadNumber" d) → ∀ t, H' t = none → Q (.ref t) (upd H' t (.tup [.str (Str.ofString "BadNumber"), .str (Str.ofString "of the gate"), v])) := fun H' s' z t ht => q1 _ _ _ (s'.trans (same_new ht)) (bad3_dg (s := "BadNumber") (has_same s' hp1) (has_same s' hc1) ht (hd.to (Kp.same s'))) z
        refine ⟨_, rfl, rfl, _, rfl, sF (by decide +kernel) ?_⟩
        refine ⟨_, rfl, rfl, _, rfl, sT rfl (iteT ?_)⟩
        refine ⟨_, rfl, r, _, _, _, rfl, rfl, at0 (Same.refl _), atI_nat (j := 0) rfl, _, rfl, rfl, _, rfl, sT rfl ?_⟩
        refine ⟨p, c, v, d, 0, 2000, rfl, hd, _, rfl, ?_⟩
        cases hw : wholeB 0 2000 d with
        | false => exact iteT ⟨_, rfl, r, _, _, _, rfl, rfl, at0 (Same.refl _), atI_nat (j := 0) rfl, sz (Nat.le_of_ble_eq_true rfl), badN H1 (Same.refl _) (.inl ⟨hw, rfl⟩)⟩
        | true =>
          cases hd with
          | int z =>
            have hw : (decide (0 ≤ z) && decide (z ≤ 2000)) = true := hw
            rw [Bool.and_eq_true, decide_eq_true_eq, decide_eq_true_eq] at hw
            obtain ⟨k, rfl⟩ := Int.eq_ofNat_of_zero_le hw.1
            have k2 : k ≤ 2000 := by omega
            have n8 := o.n8
            have n1 := o.n1
            refine iteF ⟨_, rfl, rfl, _, rfl, sF (by decide +kernel) ?_⟩
            refine ⟨sz (Nat.le_of_ble_eq_true rfl), fun Z hZ => ?_⟩
            have s1 := same_new (o := .lst [.int 0]) hZ
            have z1 : upd H1 Z (.lst [.int 0]) Z = some (.lst [.int 0]) := upd_same
            generalize upd H1 Z (.lst [.int 0]) = H2 at s1 z1 ⊢
            have tl : (ts.map V.ref).length = ps.length := by rw [List.length_map, po.it.1]
            refine ⟨_, rfl, a, _, rfl, .inr (SqT.of (s1 _ _ po1.at_)), Z, _, _, rfl, rfl, z1, by omega, by rw [tl]; omega, ?_, fun C hC => ?_⟩
            · rw [tl, sizeLine_eq]
              simp
              omega
            rw [tl, show ((ps.length : Nat) : Int).toNat = ps.length by simp, rep0]
            have nC : H1 C = none := s1.free hC
            have s2 := s1.trans (same_new (o := .lst (ctV (csOf ps.length []))) hC)
            have c2 : upd H2 C (.lst (ctV (csOf ps.length []))) C = some (.lst (ctV (csOf ps.length []))) := upd_same
            generalize upd H2 C (.lst (ctV (csOf ps.length []))) = H3 at s2 c2 ⊢
            refine ⟨sz (Nat.le_of_ble_eq_true rfl), fun Fd hFd => ⟨_, _, rfl, ?_⟩⟩
            have nF : H1 Fd = none := s2.free hFd
            have nFC : C ≠ Fd := ne_of_none c2 hFd
            have sF' := same_new (o := .lst []) hFd
            have s3 := s2.trans sF'
            have c3 := sF' _ _ c2
            have f3 : upd H3 Fd (.lst []) Fd = some (.lst (ctV [])) := upd_same
            generalize upd H3 Fd (.lst []) = H4 at s3 c3 f3 ⊢
            have put : ∀ (H' : Hp) (b : Addr) (x : HO), H1 b = none → Same H1 H' → Same H1 (upd H' b x) := fun H' b x nb r' b' u e => by
              rw [upd_ne (ne_of_none e nb)]
              exact r' b' u e
            refine ⟨_, rfl, r, _, _, _, rfl, rfl, at0 s3, atI_nat (j := 0) rfl, _, rfl, by omega, by omega, ?_⟩
            have ek : ((k : Nat) : Int).toNat = k := by simp
            refine for_range (lo := 0) (n := ((k : Nat) : Int).toNat) (fun j σ H' => ∃ (l : List Nat) (x6 x7 x8 x9 : Option V), σ = [some (.str (wayS 3)), some (.ref a), some (.ref r), some (.ref W), some (.ref C), some (.ref Fd), x6, x7, x8, x9] ∧ Same H1 H' ∧ H' C = some (.lst (ctV (csOf ps.length l))) ∧ H' Fd = some (.lst (ctV l)) ∧ Tn ps.length (wF ps) l ∧ l.length = j) ⟨[], _, _, _, _, rfl, s3, c3, f3, .nil, rfl⟩ ?_ ?_
            · rintro j σ H5 hj ⟨l, x6, x7, x8, x9, rfl, s5, c5, f5, tn, rfl⟩
              rw [ek] at hj
              refine ⟨_, rfl, .inl ⟨rfl, _, SqL.of f5⟩, _, rfl, _, rfl, W, C, ps, csOf ps.length l, rfl, o, s5 _ _ hW, .inl c5, csOf_len _ _, fun i H6 s6 pk => ?_⟩
              rw [kF_csOf tn, csOf_sum o.n1 o.w1 tn] at pk
              have hi := pk.lt
              have c6 := s6 _ _ c5
              have f6 := s6 _ _ f5
              have s56 := s5.trans s6
              refine ⟨Fd, _, _, rfl, rfl, f6, by rw [ctV_len, sizeLine_eq]; omega, ?_⟩
              have ef : ctV l ++ [V.int (i : Int)] = ctV (l ++ [i]) := by unfold ctV; rw [List.map_append]; rfl
              rw [ef]
              have s7 := put H6 Fd (.lst (ctV (l ++ [i]))) nF s56
              have c7 : upd H6 Fd (.lst (ctV (l ++ [i]))) C = some (.lst (ctV (csOf ps.length l))) := by rw [upd_ne nFC]; exact c6
              have f7 : upd H6 Fd (.lst (ctV (l ++ [i]))) Fd = some (.lst (ctV (l ++ [i]))) := upd_same
              generalize upd H6 Fd (.lst (ctV (l ++ [i]))) = H7 at s7 c7 f7 ⊢
              have last : atI (ctV (l ++ [i])) (-1) = some (.int (i : Int)) := by
                rw [← ef]
                exact atI_last _ _
              refine ⟨_, rfl, _, rfl, _, rfl, Fd, _, _, _, rfl, rfl, SqL.of f7, last, C, _, _, _, rfl, rfl, SqL.of c7, atI_nat (ctV_at (csOf_at hi)), _, _, rfl, rfl, _, rfl, _, rfl, _, rfl, Fd, _, _, _, rfl, rfl, SqL.of f7, last, C, _, _, i, rfl, rfl, c7, ixN_nat (by rw [ctV_len, csOf_len]; exact hi), ?_⟩
              rw [csOf_snoc hi]
              refine ⟨l ++ [i], _, _, _, _, rfl, put _ _ _ nC s7, upd_same, by rw [upd_ne nFC.symm]; exact f7, tn.snoc pk, by simp⟩
            · rintro σ H5 ⟨l, x6, x7, x8, x9, rfl, s5, c5, f5, tn, hlen⟩
              rw [ek] at hlen
              refine ⟨_, rfl, Fd, _, rfl, .inl ⟨SqL.of f5, fun T hT => ⟨sz (Nat.le_of_ble_eq_true rfl), fun t ht => ?_⟩⟩⟩
              have s6 := s5.trans (same_new (o := .tup (ctV l)) hT)
              exact q1 _ _ _ (s6.trans (same_new ht)) (ret_dg (has_same s6 hp1) (has_same s6 hc1) ht (ct_dg (at_new (has_same s5 hp1) (has_same s5 hc1) hT))) (.inr ⟨k, l, rfl, k2, tn, hlen, rfl⟩)
          | _ => cases hw
    · -- after
      rename_i d
      cases hA1 with
      | cons hd r0 =>
        cases r0
        rename_i v
        obtain ⟨_, low⟩ := hok d List.mem_cons_self
        have at0 : ∀ {H'}, Same H1 H' → SqT K H' r [v] := fun s' => SqT.of (s' _ _ ar1.2.2)
        have badN : ∀ (H' : Hp), Same H1 H' → RestD 5 ps [d] (bad3 "BadNumber" d) → ∀ t, H' t = none → Q (.ref t) (upd H' t (.tup [.str (Str.ofString "BadNumber"), .str (Str.ofString "of the gate"), v])) := fun H' s' z t ht => q1 _ _ _ (s'.trans (same_new ht)) (bad3_dg (s := "BadNumber") (has_same s' hp1) (has_same s' hc1) ht (hd.to (Kp.same s'))) z
        refine ⟨_, rfl, rfl, _, rfl, sF (by decide +kernel) ?_⟩
        refine ⟨_, rfl, rfl, _, rfl, sF (by decide +kernel) ⟨_, rfl, rfl, _, rfl, sT rfl ?_⟩⟩
        refine ⟨_, rfl, r, _, _, _, rfl, rfl, at0 (Same.refl _), atI_nat (j := 0) rfl, _, rfl, rfl, _, rfl, sF (by decide +kernel) ⟨_, _, rfl, rfl, ⟨by decide, by decide, by decide⟩, ?_⟩⟩
        refine ⟨p, c, v, d, 0, _, rfl, hd, _, rfl, ?_⟩
        have e39 : (10 : Int) ^ (39 : Int).toNat = 10 ^ 39 := rfl
        rw [e39]
        cases hw : wholeB 0 (10 ^ 39) d with
        | false =>
          refine iteT ⟨_, rfl, r, _, _, _, rfl, rfl, at0 (Same.refl _), atI_nat (j := 0) rfl, sz (Nat.le_of_ble_eq_true rfl), badN H1 (Same.refl _) (.inl ⟨fun k e => ?_, rfl⟩)⟩
          subst e
          have low : (k : Int) ≤ 10 ^ 39 := low
          have hw : (decide (0 ≤ (k : Int)) && decide ((k : Int) ≤ 10 ^ 39)) = false := hw
          rw [decide_eq_true (by omega), decide_eq_true low] at hw
          cases hw
        | true =>
          cases hd with
          | int z =>
            have hw : (decide (0 ≤ z) && decide (z ≤ 10 ^ 39)) = true := hw
            rw [Bool.and_eq_true, decide_eq_true_eq] at hw
            obtain ⟨k, rfl⟩ := Int.eq_ofNat_of_zero_le hw.1
            refine iteF ⟨_, rfl, rfl, _, rfl, sT rfl ?_⟩
            exact ⟨_, rfl, _, rfl, r, _, _, _, rfl, rfl, at0 (Same.refl _), atI_nat (j := 0) rfl, W, ps, k, rfl, o, hW, fun T ks H2 s2 nT hT hkl run => ⟨sz (Nat.le_of_ble_eq_true rfl), fun t ht => q1 _ _ _ (s2.trans (same_new ht)) (ret_dg (has_same s2 hp1) (has_same s2 hc1) ht (ct_dg ⟨fun z => hp1 (z ▸ nT), fun z => hc1 (z ▸ nT), hT⟩)) (.inr ⟨k, ks, rfl, hkl, run, rfl⟩)⟩⟩
          | _ => cases hw
    · exact hsh.elim
end
end Ag

end
/-! ## S7 -/
section
set_option linter.all false
set_option maxRecDepth 100000
set_option maxHeartbeats 4000000
namespace Ag
open PySem PySem.Spec PyProof.Rows L2
open SX (S S_len S_cat S_inj)
def ShF (n : Nat) (ds : List PyData) : Prop := match n, ds with
  | 0, [_, _] => True
  | 1, [_, _, _] => True
  | 2, [_, _, _] => True
  | 3, [_, _] => True
  | 4, [_] => True
  | 5, [_, _] => True
  | 6, [_, _] => True
  | _, _ => False
theorem wayS_ne {n : Nat} (h : n < 6) : wayS n ≠ wayS 6 := by
  match n, h with
  | 0, _ => decide +kernel
  | 1, _ => decide +kernel
  | 2, _ => decide +kernel
  | 3, _ => decide +kernel
  | 4, _ => decide +kernel
  | 5, _ => decide +kernel
/-- a pool's way, and what stands behind the pool -/
theorem shf_rest {n : Nat} {ds : List PyData} (h : ShF n ds) (h4 : n ≠ 4) (h6 : n ≠ 6) : ∃ d r, ds = d :: r ∧ Sh n r ∧ wayS n ≠ wayS 4 ∧ wayS n ≠ wayS 6 ∧ ∀ D, DueD n ds D ↔ ((poolB d = false ∧ D = bad3 "BadPool" d) ∨ ∃ ps, d = poolD ps ∧ poolB d = true ∧ RestD n ps r D) := by
  unfold ShF at h
  split at h
  · exact ⟨_, _, rfl, trivial, by decide +kernel, by decide +kernel, fun D => Iff.rfl⟩
  · exact ⟨_, _, rfl, trivial, by decide +kernel, by decide +kernel, fun D => Iff.rfl⟩
  · exact ⟨_, _, rfl, trivial, by decide +kernel, by decide +kernel, fun D => Iff.rfl⟩
  · exact ⟨_, _, rfl, trivial, by decide +kernel, by decide +kernel, fun D => Iff.rfl⟩
  · exact absurd rfl h4
  · exact ⟨_, _, rfl, trivial, by decide +kernel, by decide +kernel, fun D => Iff.rfl⟩
  · exact absurd rfl h6
  · exact h.elim
def spLDue : Sp := fun vs H Q _ => ∃ p c r xs ds n, vs = [.str (wayS n), .ref r] ∧ H p ≠ none ∧ H c ≠ none ∧ At p c H r (.tup xs) ∧ DgA p c H xs ds ∧ (∀ d ∈ ds, OkD d) ∧ ShF n ds ∧ ∀ v D H', Same H H' → Dg p c H' v D → DueD n ds D → Q v H'
section
variable {P : Program} {w : World} {K : PySem.W.Frag} {mg : Str → Option Value} {base : Heap}
theorem ok_ldue {f f1 f2 f3 f4 : Addr} {fd fd1 fd2 fd3 fd4 : FuncData} (F : Fn K mg "_law_due" s__law_due ["_law_way", "_law_args"] f fd) (B : Blt mg)
    (F__law_is_pool : Fn K mg "_law_is_pool" s__law_is_pool ["_law_thing"] f1 fd1) (G__law_is_pool : FnOk P w K mg base CX0 2 f1 fd1 ["_law_thing"] spLPool)
    (F__law_is_word : Fn K mg "_law_is_word" s__law_is_word ["_law_thing"] f2 fd2) (G__law_is_word : FnOk P w K mg base CX0 1 f2 fd2 ["_law_thing"] spLWord)
    (F__law_score : Fn K mg "_law_score" s__law_score ["_law_key", "_law_label"] f3 fd3) (G__law_score : FnOk P w K mg base CX0 1 f3 fd3 ["_law_key", "_law_label"] spLScore)
    (F__law_after_pool : Fn K mg "_law_after_pool" s__law_after_pool ["_law_way", "_law_pool", "_law_rest"] f4 fd4) (G__law_after_pool : FnOk P w K mg base CX0 4 f4 fd4 ["_law_way", "_law_pool", "_law_rest"] spLAP) : FnOk P w K mg base CX0 5 f fd ["_law_way", "_law_args"] spLDue := by
  refine F.F.ok sc__law_due (fun vs H Q E h => ?_) (fun cdv A outer s H vs Q E hr h => ?_)
  · obtain ⟨p, c, r, xs, ds, n, rfl, _⟩ := h
    rfl
  · obtain ⟨p, c, r, xs, ds, n, rfl, hp, hc, ar, hA, hok, hsh, q⟩ := h
    refine ⟨_, (pss_cons (ps_if (pt_cmpR op_eq (pv 0) pe_str (nomark _))
      (pss_one (ps_ret (pe_tup (pa_cons pe_str (pa_cons (pe_call G__law_is_pool (hr.mono (by decide)) (by rfl) F__law_is_pool.g F__law_is_pool.F.kp F__law_is_pool.b .nil pass0 (pa_cons (pe_ix ix_tup (pv 1) pe_int (fun _ _ => rfl)) pa_nil)) pa_nil)))))
      pss_nil)
      (pss_cons (ps_if (pt_cmpR op_eq (pv 0) pe_str (nomark _))
      (pss_cons (ps_setLc (i := 2) (own := [("_law_one", 3)]) rfl sc__law_due.nd rfl rfl (sw_true rfl rfl rfl (by decide +kernel)) (pi_tup (pv 1)) (blkOk_by (N := N__law_due) (sc := defScope s__law_due) (by decide +kernel)) (fun _ _ _ _ _ => (pg_name (i := 3) sc__law_due.nd rfl (Or.inl rfl))) (fun _ _ _ _ _ => (pts_one (pt_not (pt_val (pe_call G__law_is_word (hr.mono (by decide)) (by rfl) F__law_is_word.g F__law_is_word.F.kp F__law_is_word.b .nil pass0 (pa_cons (pv 3) pa_nil)))))) (fun _ _ _ _ _ => (pv 3)))
        (pss_one (ps_ret (pe_ifExp (pt_cmpR (op_neL0 hr.units) (pv 2) (pe_lst pa_nil) (nomark _)) (pe_tup (pa_cons pe_str (pa_cons pe_str (pa_cons (pe_ix ix_list (pv 2) pe_int (fun _ _ => rfl)) pa_nil)))) (pe_tup (pa_cons pe_str (pa_cons (pe_call G__law_score (hr.mono (by decide)) (by rfl) F__law_score.g F__law_score.F.kp F__law_score.b .nil pass0 (pa_cons (pe_ix ix_tup (pv 1) pe_int (fun _ _ => rfl)) (pa_cons (pe_ix ix_tup (pv 1) pe_int (fun _ _ => rfl)) pa_nil))) pa_nil)))))))
      pss_nil)
      (pss_one (ps_ret (pe_ifExp (pt_val (pe_call G__law_is_pool (hr.mono (by decide)) (by rfl) F__law_is_pool.g F__law_is_pool.F.kp F__law_is_pool.b .nil pass0 (pa_cons (pe_ix ix_tup (pv 1) pe_int (fun _ _ => rfl)) pa_nil))) (pe_call G__law_after_pool (hr.mono (by decide)) (by rfl) F__law_after_pool.g F__law_after_pool.F.kp F__law_after_pool.b .nil pass0 (pa_cons (pv 0) (pa_cons (pe_ix ix_tup (pv 1) pe_int (fun _ _ => rfl)) (pa_cons (pe_slice sl_tupA (pv 1) (po_some pe_int) po_none) pa_nil)))) (pe_tup (pa_cons pe_str (pa_cons pe_str (pa_cons (pe_ix ix_tup (pv 1) pe_int (fun _ _ => rfl)) pa_nil))))))))), ?_⟩
    by_cases n4 : n = 4
    · subst n4
      match ds, hsh with
      | [d], _ =>
        cases hA with
        | cons hd r0 =>
          cases r0
          rename_i v
          obtain ⟨⟨gq, hg⟩, _⟩ := hok d List.mem_cons_self
          refine ⟨_, rfl, rfl, _, rfl, sT rfl ⟨_, rfl, r, _, _, _, rfl, rfl, SqT.of ar.2.2, atI_nat (j := 0) rfl, p, c, v, d, gq, 8, 6000, rfl, hd, hg, fun H1 s1 => ⟨sz (Nat.le_of_ble_eq_true rfl), fun t ht => ?_⟩⟩⟩
          exact q _ _ _ (s1.trans (same_new ht)) (ret_dg (has_same s1 hp) (has_same s1 hc) ht (.bl _)) rfl
    by_cases n6 : n = 6
    · subst n6
      match ds, hsh with
      | [d, e], _ =>
        cases hA with
        | cons hd r0 =>
         cases r0 with
         | cons he r1 =>
          cases r1
          rename_i v v2
          obtain ⟨⟨gq, hg⟩, _⟩ := hok d List.mem_cons_self
          obtain ⟨⟨gq2, hg2⟩, _⟩ := hok e (List.mem_cons_of_mem _ List.mem_cons_self)
          refine ⟨_, rfl, rfl, _, rfl, sF (by decide +kernel) ⟨_, rfl, rfl, _, rfl, sT rfl ?_⟩⟩
          refine ⟨_, rfl, r, rfl, ⟨_, SqT.of ar.2.2⟩, fun D hD => ?_⟩
          refine lc_sel (walk_tup (K := K) (a := r) (xs := [v, v2])) (fun i => !wordB (([d, e][i]?).getD .none)) (fun i => ([v, v2][i]?).getD .non) (Nat.le_of_ble_eq_true rfl) hD (fun H' s => SqT.of (s _ _ ar.2.2)) ?_ ?_
          · rintro j y H2 H3 k k0 hi s1 ⟨rfl, hy⟩ hk hk0
            have da : DgA p c H [v, v2] [d, e] := .cons hd (.cons he .nil)
            obtain ⟨dd, hdd, hy'⟩ := (da.to (Kp.same s1)).at_ hy
            rw [hdd] at hk hk0
            rw [hy] at hk
            obtain ⟨⟨gy, hgy⟩, _⟩ := hok dd (List.mem_of_getElem? hdd)
            refine ⟨rfl, _, rfl, p, c, y, dd, gy, 8, 6000, rfl, hy', hgy, fun H4 s4 => ⟨_, rfl, ?_⟩⟩
            cases hw : wordB dd with
            | false => exact iteT ⟨_, rfl, hk (by show (!wordB dd) = true; rw [hw]; rfl) _ s4⟩
            | true => exact iteF (hk0 (by show (!wordB dd) = false; rw [hw]; rfl) _ s4)
          · intro H2 s2 h2
            have eL : ((List.range [v, v2].length).filter fun i => !wordB (([d, e][i]?).getD .none)).map (fun i => ([v, v2][i]?).getD .non) = (if wordB d = true then [] else [v]) ++ (if wordB e = true then [] else [v2]) := by
              cases h1 : wordB d <;> cases h2 : wordB e <;> simp [List.range_succ, h1, h2]
            rw [eL] at h2
            have ar2 := ar.sm s2
            refine ⟨_, rfl, Nat.zero_le _, fun t0 ht0 => ?_⟩
            have s3 := s2.trans (same_new (o := .lst []) ht0)
            have h3 := same_new (o := .lst []) ht0 _ _ h2
            refine ⟨D, _, t0, rfl, h3, rfl, upd_same, _, rfl, ?_⟩
            have ar3 := ar.sm s3
            generalize upd H2 t0 (.lst []) = H3 at s3 h3 ar3 ⊢
            have hp3 := has_same s3 hp
            have hc3 := has_same s3 hc
            cases hw : wordB d with
            | false =>
              rw [hw] at h3
              refine iteT ⟨_, rfl, D, _, _, _, rfl, rfl, SqL.of h3, atI_nat (j := 0) rfl, sz (Nat.le_of_ble_eq_true rfl), fun t ht => ?_⟩
              exact q _ _ _ (s3.trans (same_new ht)) (bad3_dg (s := "BadWord") hp3 hc3 ht (hd.to (Kp.same s3))) (.inl ⟨hw, rfl⟩)
            | true =>
              rw [hw] at h3
              cases hw2 : wordB e with
              | false =>
                rw [hw2] at h3
                refine iteT ⟨_, rfl, D, _, _, _, rfl, rfl, SqL.of h3, atI_nat (j := 0) rfl, sz (Nat.le_of_ble_eq_true rfl), fun t ht => ?_⟩
                exact q _ _ _ (s3.trans (same_new ht)) (bad3_dg (s := "BadWord") hp3 hc3 ht (he.to (Kp.same s3))) (.inr (.inl ⟨hw, hw2, rfl⟩))
              | true =>
                cases hd with
                | str x =>
                  cases he with
                  | str y =>
                    have hw : wordL x.cps.toList = true := hw
                    have hw2 : wordL y.cps.toList = true := hw2
                    have l1 := word_len hw
                    have l2 := word_len hw2
                    refine iteF ⟨_, rfl, r, _, _, _, rfl, rfl, SqT.of ar3.2.2, atI_nat (j := 0) rfl, _, rfl, r, _, _, _, rfl, rfl, SqT.of ar3.2.2, atI_nat (j := 1) rfl, x.cps.toList, y.cps.toList, rfl, by omega, sz (Nat.le_of_ble_eq_true rfl), fun t ht => ?_⟩
                    exact q _ _ _ (s3.trans (same_new ht)) (ret_dg hp3 hc3 ht (.int _)) (.inr (.inr ⟨x.cps.toList, y.cps.toList, rfl, rfl, hw, hw2, rfl⟩))
                  | _ => cases hw2
                | _ => cases hw
    · obtain ⟨d, rs, rfl, shr, w4, w6, due⟩ := shf_rest hsh n4 n6
      cases hA with
      | @cons v vr _ _ hd hr' =>
        obtain ⟨⟨gq, hg⟩, _⟩ := hok d List.mem_cons_self
        refine ⟨_, rfl, rfl, _, rfl, sF w4 ⟨_, rfl, rfl, _, rfl, sF w6 ?_⟩⟩
        refine ⟨_, rfl, r, _, _, _, rfl, rfl, SqT.of ar.2.2, atI_nat (j := 0) rfl, p, c, v, d, gq, 8, 6000, rfl, hd, hg, fun H1 s1 => ⟨_, rfl, ?_⟩⟩
        have ar1 := ar.sm s1
        have hp1 := has_same s1 hp
        have hc1 := has_same s1 hc
        cases hpl : poolB d with
        | false => exact iteF ⟨_, rfl, r, _, _, _, rfl, rfl, SqT.of ar1.2.2, atI_nat (j := 0) rfl, sz (Nat.le_of_ble_eq_true rfl), fun t ht => q _ _ _ (s1.trans (same_new ht)) (bad3_dg (s := "BadPool") hp1 hc1 ht (hd.to (Kp.same s1))) ((due _).mpr (.inl ⟨hpl, rfl⟩))⟩
        | true =>
          obtain ⟨a, ts, ps, rfl, po, rfl⟩ := pool_of hd hpl
          refine iteT ⟨_, rfl, _, rfl, r, _, _, _, rfl, rfl, SqT.of ar1.2.2, atI_nat (j := 0) rfl, _, rfl, _, rfl, ?_⟩
          dsimp only [tNoPart]
          refine sl_g hp1 hc1 ar1 fun a' H2 s2 h2 => ?_
          rw [show (some (1 : Int)) = some ((1 : Nat) : Int) from rfl, cutV_off] at h2
          have s12 := s1.trans s2
          exact ⟨p, c, a, ts, ps, a', vr, rs, n, rfl, has_same s2 hp1, has_same s2 hc1, po.to s12, h2, hr'.to (Kp.same s12), fun x hx => hok x (List.mem_cons_of_mem _ hx), shr, fun v D H3 s3 hv hR => q v D H3 (s12.trans s3) hv ((due D).mpr (.inr ⟨ps, rfl, hpl, hR⟩))⟩
end
end Ag

end
/-! ## CmpN -/
section
set_option linter.all false
set_option maxRecDepth 100000
namespace Ag
open PySem PySem.Spec PyProof.Rows L2
/-! ### a number or a bool against a number -/
theorem gt_bool_gives (a : Bool) (b : Int) (u : Tok) : Gives (Builtin.«int.__gt__» ⟨[.bool a, .int b u], []⟩) (.val (Value.bool (decide ((if a = true then (1 : Int) else 0) > b)))) :=
  .of_wp fun M A E s Q h => by obtain ⟨hp, g, d, tk, os⟩ := s; wp_walk; exact ⟨_, rfl, h⟩
section
variable {X : Cx}
theorem op_gtB : OpR X (compareOp .Gt) (fun x y H Q => ∃ j, y = .int j ∧ ((∃ i, x = .int i ∧ Q (.bl (decide (j < i))) H) ∨ ∃ b, x = .bl b ∧ Q (.bl (decide (j < cond b 1 0))) H)) := by
  rintro pins s σ H x y v u Q I rx ry ⟨j, rfl, ⟨i, rfl, q⟩ | ⟨b, rfl, q⟩⟩
  · exact op_gt pins s σ H _ _ v u Q I rx ry ⟨_, _, rfl, rfl, q⟩
  · cases rx
    obtain ⟨t, rfl⟩ := ry
    show wpAny _ _ (richCompare .Gt (.bool b) (.int j t)) _ _ _
    refine SeqAt.rc_left_or rfl (typeIs_int s j t) (by decide) F.sub_int_bool F.slot_bool_gt (call_gives F.slot_bool_gt rfl F.entry_int_gt (F.args_int_gt_2 _ _) (gt_bool_gives b j t) ⟨nofun, ?_⟩) (.inl rfl)
    refine ⟨.bl _, H, I, rfl, ?_⟩
    cases b <;> exact q
end
end Ag

end
/-! ## IfM -/
section
set_option linter.all false
set_option maxRecDepth 100000
namespace Ag
open PySem PySem.Spec PyProof.Rows L2
/-- a value, by way of what is known of it -/
def tMid (t : TE) : TE := fun σ H Q => ∃ I : V → Hp → Prop, (∀ Q' : VK, (∀ v H', I v H' → Q' v H') → t σ H Q') ∧ ∀ v H', I v H' → Q v H'
theorem pe_ifMid {X : Cx} {c a b : Expr} {pos : Pos} {tA : TT} {ta tb : TE} (hc : PT X c tA) (ha : PE X a ta) (hb : PE X b tb) : PE X (.IfExp c a b pos) (tMid (tIf tA ta tb)) :=
  ⟨fun pins s σ H Q I hw => by
    obtain ⟨J, h1, h2⟩ := hw
    exact (pe_ifExp hc ha hb).run pins s σ H Q I (h1 Q h2)⟩
end Ag

end
/-! ## Fi2 -/
section
set_option linter.all false
set_option maxRecDepth 100000
namespace Ag
open PySem PySem.Spec PyProof.Rows L2
/-- a for whose continuation need not be guessed -/
theorem for_it2 {J : It} {n : Nat} {G : Hp → Prop} {Y : Nat → Hp → V → Hp → Prop} (w : Walk J n G Y) {g : TG} {body : (L2.St → Hp → Prop) → L2.St → Hp → Prop} {nx : L2.St → Hp → Prop} {σ : L2.St} {H : Hp} (Pv : Nat → L2.St → Hp → Prop) (h0 : Pv 0 σ H) (hG : ∀ i σ H, i ≤ n → Pv i σ H → G H)
    (hs : ∀ i x σ H H', i < n → Pv i σ H → Y i H x H' → g x σ H' fun σ2 H2 => body (Pv (i + 1)) σ2 H2) (hd : ∀ σ H, Pv n σ H → nx σ H) :
    ∃ W : Nat → Nat → L2.St → Hp → Prop, (∃ m, W 0 m σ H) ∧ ∀ i m σ H, W i m σ H →
      (J.stop i H ∧ nx σ H) ∨ (J.go i H ∧ ∃ N : L2.St → Hp → Prop, (∀ σ' H', N σ' H' → ∃ m', m' < m ∧ W (i + 1) m' σ' H') ∧ ∀ x H', J.yld i H x H' → g x σ H' fun σ2 H2 => body N σ2 H2) :=
  for_it w (g := g) (tb := fun D => body D.nx) (D := { nx := nx, rt := fun _ _ => True }) Pv h0 hG hs hd
end Ag

end
/-! ## S8 -/
section
set_option linter.all false
set_option maxRecDepth 100000
set_option maxHeartbeats 4000000
namespace Ag
open PySem PySem.Spec PyProof.Rows L2
open SX (S S_len S_cat S_inj)
theorem RestD.hd {n : Nat} {ps : List (List Nat × Nat)} {ds : List PyData} {D : PyData} (h : RestD n ps ds D) : ∃ s r, D = .tuple (.str s :: r) := by
  unfold RestD at h
  split at h
  · rcases h with ⟨_, rfl⟩ | ⟨_, _, _, _, _, rfl⟩ <;> exact ⟨_, _, rfl⟩
  · rcases h with ⟨_, rfl⟩ | ⟨_, ⟨_, rfl⟩ | ⟨_, _, _, _, _, _, _, rfl⟩⟩ <;> exact ⟨_, _, rfl⟩
  · rcases h with ⟨_, rfl⟩ | ⟨_, ⟨_, rfl⟩ | ⟨_, _, _, _, _, _, _, _, _, rfl⟩⟩ <;> exact ⟨_, _, rfl⟩
  · rcases h with ⟨_, rfl⟩ | ⟨_, _, _, _, _, _, rfl⟩ <;> exact ⟨_, _, rfl⟩
  · rcases h with ⟨_, rfl⟩ | ⟨_, _, _, _, _, rfl⟩ <;> exact ⟨_, _, rfl⟩
  · exact h.elim
theorem DueD.hd {n : Nat} {ds : List PyData} {D : PyData} (hs : ShF n ds) (h : DueD n ds D) : ∃ s r, D = .tuple (.str s :: r) := by
  by_cases n4 : n = 4
  · subst n4
    match ds, hs with
    | [d], _ => exact ⟨_, _, h⟩
  by_cases n6 : n = 6
  · subst n6
    match ds, hs with
    | [d, e], _ =>
      rcases h with ⟨_, rfl⟩ | ⟨_, _, rfl⟩ | ⟨_, _, _, _, _, _, rfl⟩ <;> exact ⟨_, _, rfl⟩
  · obtain ⟨d, r, rfl, _, _, _, e⟩ := shf_rest hs n4 n6
    rcases (e D).mp h with ⟨_, rfl⟩ | ⟨ps, _, _, hr⟩
    · exact ⟨_, _, rfl⟩
    · exact hr.hd
def spLBey : Sp := fun vs H Q _ => ∃ p c r xs ds n, vs = [.str (wayS n), .ref r] ∧ H p ≠ none ∧ H c ≠ none ∧ At p c H r (.tup xs) ∧ DgA p c H xs ds ∧ (∀ d ∈ ds, OkD d) ∧ ShF n ds ∧ ∀ (b : Bool) H', Same H H' → Q (.bl b) H'
section
variable {P : Program} {w : World} {K : PySem.W.Frag} {mg : Str → Option Value} {base : Heap}
theorem ok_lbey {f f1 : Addr} {fd fd1 : FuncData} (F : Fn K mg "_law_is_beyond" s__law_is_beyond ["_law_way", "_law_args"] f fd) (B : Blt mg)
    (F__law_due : Fn K mg "_law_due" s__law_due ["_law_way", "_law_args"] f1 fd1) (G__law_due : FnOk P w K mg base CX0 5 f1 fd1 ["_law_way", "_law_args"] spLDue) : FnOk P w K mg base CX0 6 f fd ["_law_way", "_law_args"] spLBey := by
  refine F.F.ok sc__law_is_beyond (fun vs H Q E h => ?_) (fun cdv A outer s H vs Q E hr h => ?_)
  · obtain ⟨p, c, r, xs, ds, n, rfl, _⟩ := h
    rfl
  · obtain ⟨p, c, r, xs, ds, n, rfl, hp, hc, ar, hA, hok, hsh, q⟩ := h
    refine ⟨_, (pss_cons (ps_for PassesOwn.never rfl (pi_tup (pe_slice sl_tupA (pv 1) (po_some pe_int) po_none)) (pg_name (i := 2) sc__law_is_beyond.nd rfl (Or.inl rfl))
      (pss_one (ps_for PassesOwn.never rfl (pi_tup (pe_ifMid (pt_val (pe_callB call_isi (by rfl) B.n_isinstance (by decide +kernel) (pa_cons (pv 2) (pa_cons (pe_bltn (v := .ty "tuple") (by rfl) B.n_tuple (by decide +kernel) rfl) pa_nil)))) (pv 2) (pe_tup (pa_cons (pv 2) pa_nil)))) (pg_name (i := 3) sc__law_is_beyond.nd rfl (Or.inl rfl))
        (pss_one (ps_if (PW.pt (pw_and (pt_val (pe_callB call_isi (by rfl) B.n_isinstance (by decide +kernel) (pa_cons (pv 3) (pa_cons (pe_bltn (v := .ty "int") (by rfl) B.n_int (by decide +kernel) rfl) pa_nil)))) (pw_and (pt_cmpR op_gtB (pv 3) (pe_ifMid (pt_cmpR op_eq (pv 0) pe_str (nomark _)) pe_int pe_int) (nomark _)) (pw_and1 (pt_cmpR op_eq (pe_ix ix_tup (pe_call G__law_due (hr.mono (by decide)) (by rfl) F__law_due.g F__law_due.F.kp F__law_due.b .nil pass0 (pa_cons (pv 0) (pa_cons (pv 1) pa_nil))) pe_int (fun _ _ => rfl)) pe_str (nomark _))))))
          (pss_one (ps_ret pe_bl))
          pss_nil)))))
      (pss_one (ps_ret pe_bl))), ?_⟩
    refine ⟨_, rfl, _, rfl, ?_⟩
    dsimp only [tNoPart]
    refine sl_g hp hc ar fun a' H1 s1 h1 => ?_
    rw [show (some (1 : Int)) = some ((1 : Nat) : Int) from rfl, cutV_off] at h1
    refine ⟨a', rfl, ⟨_, SqT.of h1.2.2⟩, ?_⟩
    refine for_it2 (walk_tup (K := K) (a := a') (xs := xs.drop 1)) (fun i σ H' => ∃ (x2 x3 : Option V), σ = [some (.str (wayS n)), some (.ref r), x2, x3] ∧ Same H1 H') ⟨_, _, rfl, Same.refl _⟩ (fun i σ H' _ z => ?_) ?_ ?_
    · obtain ⟨_, _, _, s⟩ := z
      exact SqT.of (s _ _ h1.2.2)
    · rintro i y σ H2 H3 hi ⟨x2, x3, rfl, s2⟩ ⟨rfl, hy⟩
      obtain ⟨d, hd0, hd⟩ := ((hA.drop 1).to (Kp.same (s1.trans s2))).at_ hy
      have s12 := s1.trans s2
      obtain ⟨⟨gq, hg⟩, _⟩ := hok d (List.mem_of_mem_drop (List.mem_of_getElem? hd0))
      refine ⟨fun v H' => Same H3 H' ∧ ∃ t ys es, v = .ref t ∧ At p c H' t (.tup ys) ∧ DgA p c H' ys es ∧ es.length ≤ 60, fun Q' hQ => ?_, ?_⟩
      · refine ⟨_, rfl, y, .ty "tuple", _, _, _, rfl, .ty "tuple", hd.tyx, isi_T d, _, rfl, ?_⟩
        have other : ∀ t, H3 t = none → Q' (.ref t) (upd H3 t (.tup [y])) := fun t ht => hQ _ _ ⟨same_new ht, t, [y], [d], rfl, at_new (has_same s12 hp) (has_same s12 hc) ht, .cons (hd.to (Kp.same (same_new ht))) .nil, Nat.le_of_ble_eq_true rfl⟩
        cases hd with
        | tup at_ da => exact iteT ⟨_, rfl, hQ _ _ ⟨Same.refl _, _, _, _, rfl, at_, da, hg.untup.2⟩⟩
        | _ => exact iteF ⟨_, rfl, sz (Nat.le_of_ble_eq_true rfl), other⟩
      rintro v H4 ⟨s4, t, ys, es, rfl, at_, da, l60⟩
      refine ⟨t, rfl, ⟨_, SqT.of at_.2.2⟩, ?_⟩
      refine for_it2 (walk_tup (K := K) (a := t) (xs := ys)) (fun i σ H' => ∃ (x3 : Option V), σ = [some (.str (wayS n)), some (.ref r), some y, x3] ∧ Same H4 H') ⟨_, rfl, Same.refl _⟩ (fun i σ H' _ z => ?_) ?_ ?_
      · obtain ⟨_, _, s⟩ := z
        exact SqT.of (s _ _ at_.2.2)
      · rintro j z σ H5 H6 hj ⟨x3, rfl, s5⟩ ⟨rfl, hz⟩
        obtain ⟨e, _, he⟩ := (da.to (Kp.same s5)).at_ hz
        have s6 := (s12.trans s4).trans s5
        refine ⟨_, rfl, z, .ty "int", _, _, _, rfl, .ty "int", he.tyx, isi_I e, _, rfl, ?_⟩
        have s06 := s1.trans ((s2.trans s4).trans s5)
        cases hI : isI e with
        | false => exact iteF (iteF ⟨_, rfl, s5⟩)
        | true =>
        refine iteT ⟨_, rfl, fun v H' => H' = H6 ∧ ∃ j : Int, v = .int j, fun Q' hQ => ⟨_, rfl, rfl, _, rfl, ite2 (fun _ => hQ _ _ ⟨rfl, _, rfl⟩) (fun _ => hQ _ _ ⟨rfl, _, rfl⟩)⟩, ?_⟩
        rintro v H' ⟨rfl, j0, rfl⟩
        have hz : (∃ i, z = .int i) ∨ ∃ b, z = .bl b := by
          cases he with
          | int i => exact .inl ⟨_, rfl⟩
          | bl b => exact .inr ⟨_, rfl⟩
          | _ => cases hI
        rcases hz with ⟨i', rfl⟩ | ⟨b, rfl⟩
        · refine ⟨j0, rfl, .inl ⟨i', rfl, _, rfl, ?_⟩⟩
          refine ite2 (fun _ => ?_) (fun _ => iteF ⟨_, rfl, s5⟩)
          refine ⟨_, rfl, _, rfl, p, c, r, xs, ds, n, rfl, has_same s06 hp, has_same s06 hc, ar.sm s06, hA.to (Kp.same s06), hok, hsh, fun v D H7 s7 hv hD => ?_⟩
          obtain ⟨str, rest, rfl⟩ := hD.hd hsh
          cases hv with
          | tup at7 da7 =>
            cases da7 with
            | cons h7 r7 =>
              cases h7
              exact ⟨_, _, _, _, rfl, rfl, SqT.of at7.2.2, atI_nat (j := 0) rfl, rfl, _, rfl, ite2 (fun _ => q true H7 (s06.trans s7)) (fun _ => ⟨_, rfl, s5.trans s7⟩)⟩
        · refine ⟨j0, rfl, .inr ⟨b, rfl, _, rfl, ?_⟩⟩
          refine ite2 (fun _ => ?_) (fun _ => iteF ⟨_, rfl, s5⟩)
          refine ⟨_, rfl, _, rfl, p, c, r, xs, ds, n, rfl, has_same s06 hp, has_same s06 hc, ar.sm s06, hA.to (Kp.same s06), hok, hsh, fun v D H7 s7 hv hD => ?_⟩
          obtain ⟨str, rest, rfl⟩ := hD.hd hsh
          cases hv with
          | tup at7 da7 =>
            cases da7 with
            | cons h7 r7 =>
              cases h7
              exact ⟨_, _, _, _, rfl, rfl, SqT.of at7.2.2, atI_nat (j := 0) rfl, rfl, _, rfl, ite2 (fun _ => q true H7 (s06.trans s7)) (fun _ => ⟨_, rfl, s5.trans s7⟩)⟩
      · rintro σ H5 ⟨x3, rfl, s5⟩
        exact ⟨_, _, rfl, (s2.trans s4).trans s5⟩
    · rintro σ H2 ⟨x2, x3, rfl, s2⟩
      exact q false H2 (s1.trans s2)
end
end Ag

end
/-! ## XL -/
section
set_option linter.all false
set_option maxRecDepth 100000
set_option maxHeartbeats 2000000
namespace Ag
open PySem PySem.Spec PyProof.Rows L2
/-! ### a comprehension whose block may raise -/
/-- behind the loop; an exception goes on through the very frame that it came through -/
def Bhd (M : Model) (A : Around) (E : Value → Shared → Prop) (use : Option (Value → Sem Unit)) (Q : Value → Shared → Prop) (acc : Value) (ce : Env) (r : Result) (s : Shared) : Prop :=
  match r with
  | .ok f => compPost M A E use Q acc ce.locals (.ok f) s
  | .error x => ∃ m, s.heap.Ns ce.locals m ∧ ∀ h', Heap.SameBut ce.locals s.heap h' → wpAny M A (passOn "comprehension.variables-let-go" x ce : Sem Value) (fun _ _ => False) E { s with heap := h' }
section
variable {M : Model} {A : Around} {E : Value → Shared → Prop} {s : Shared} {env : Env}
theorem comp_bhd {e : Expr} {scope : Scope} {pos : Pos} {mk ahead : Sem Value} {g : Comprehension} {more : List Comprehension} {cl : List (Str × Addr)} {use : Option (Value → Sem Unit)} {Q : Value → Shared → Prop}
    (c1 : clausesOf e = g :: more) (c2 : ∀ x, foldedSetIterable g.iter env x = pure x) (c3 : closureFor scope env = pure cl) (c4 : scope.kind = .function) (c5 : ∀ y ∈ scope.names, y.2 = .local → scope.names.lookup y.1 = some .local)
    (run : wpAny M A ahead (fun x s1 => wpAny M A (pyIter x) (fun it s2 => wpAny M A mk (fun acc s3 => wpAny M A (newFunctionEnv scope env.globals cl [] env.qual none .none (some env))
      (fun ce s4 => codeAny M A (.compStart e 0 it acc { ce with scope := relabel scope env }) (Bhd M A E use Q acc { ce with scope := relabel scope env }) s4) E s3) E s2) E s1) E s) :
    wpAny M A (comprehension e scope env pos mk false ahead use) Q E s := by
  have id1 : ∀ {α : Type} {t : Sem α} {P P' : α → Shared → Prop} {u : Shared}, wpAny M A t P E u → (∀ a v, P a v → P' a v) → wpAny M A t P' E u := fun h k => wpAny_mono h k fun _ _ z => z
  unfold comprehension
  rw [c3, c1]
  refine wpAny_bind (id1 run fun x s1 r1 => ?_)
  refine wpAny_bind (wpAny_standAt (wpAny_bind (wpAny_of_eq (c2 x) (wpAny_bind (wpAny_holding (id1 r1 fun it s2 r2 => ?_))))))
  refine wpAny_standIf (wpAny_bind (id1 r2 fun acc s3 r3 => ?_))
  refine wpAny_bind (wpAny_pure (wpAny_bind (id1 r3 fun ce s4 r4 => ?_)))
  dsimp only
  generalize hv : (scope.names.filter fun x => (x.2 == .local || x.2 == .cell) && x.1 != (".0" : Str)).reverse = vars
  have inn : ∀ y ∈ vars, y.2 = .local → Env.kindOf { ce with scope := relabel scope env } y.1 = some .local := fun y hy hl => by
    rw [← hv] at hy
    exact lookup_relabel_local (c5 y (List.mem_filter.mp (List.mem_reverse.mp hy)).1 hl)
  refine wpAny_holding (wpAny_bind (wpAny_attempt (wpAny_holding (wpAny_run (codeAny_mono r4 fun r s5 r5 => ?_)))))
  match r, r5 with
  | .error x, ⟨m, n5, go⟩ =>
    refine wpAny_bind (wpAny_holding (wpAny_comp_letGo (cenv := { ce with scope := relabel scope env }) c4 _ s5 m inn n5 fun h6 _ _ sb => ?_))
    exact wpAny_mono (go h6 sb) (fun _ _ z => z.elim) fun _ _ z => z
  | .ok f, ok5 =>
    match use, ok5 with
    | none, ⟨m, n5, go⟩ => exact wpAny_bind (wpAny_holding (wpAny_comp_letGo (cenv := { ce with scope := relabel scope env }) c4 _ s5 m inn n5 fun h6 _ _ sb => wpAny_pure (go h6 sb)))
    | some u, go =>
      refine wpAny_bind (wpAny_rule (wpAny_bind (wpAny_holding (id1 go fun _ s6 r6 => ?_))))
      obtain ⟨m, n6, go⟩ := r6
      refine wpAny_bind (wpAny_comp_letGo (cenv := { ce with scope := relabel scope env }) c4 _ s6 m (fun y hy hl => inn y ?_ hl) n6 fun h7 _ _ sb => wpAny_pure (go h7 sb))
      rcases List.mem_append.mp hy with z | z
      · exact List.mem_of_mem_drop z
      · exact List.mem_of_mem_take z
end
end Ag

end
/-! ## XL2 -/
section
set_option linter.all false
set_option maxRecDepth 100000
set_option maxHeartbeats 2000000
namespace Ag
open PySem PySem.Spec PyProof.Rows L2
/-! ### what a comprehension walks, where more may be known of the context than that it is calm -/
structure Trn (ok : Cx → Prop) (P : Program) (w : World) (K : PySem.W.Frag) (tg : Expr) (J : It) (fp : List Addr) (it : Addr) (tn : Nat → Heap → Prop) : Prop where
  objs : ∀ n h, tn n h → ∀ b ∈ fp, ∃ o, h.get? b = some o ∧ ∀ v, o.data ≠ .cell v
  stay : ∀ n h h', tn n h → (∀ b ∈ fp, ∀ o, h.get? b = some o → h'.get? b = some o) → tn n h'
  give : ∀ (X : Cx) (n : Nat) (pins : List (Addr × Obj)) (s : Shared) (σ : L2.St) (H : Hp) (E : Value → Shared → Prop), X.prog = P → X.w = w → X.K = K → ok X → Inv X pins σ H s → (∀ b ∈ fp, FpOk X pins H b) → tn n s.heap → J.go n H →
    wpAny (model P w) X.A (pyNext (.ref it)) (fun r s1 => ∃ u, r = some u ∧
      wpAny (model P w) X.A (letOwnedTupleGo tg (.ref it) u) (fun _ s2 => ∃ x H', Inv X pins σ H' s2 ∧ RelV x u ∧ J.yld n H x H' ∧ tn (n + 1) s2.heap ∧ ∀ b ∈ fp, H' b = none) E s1) E s
  over : ∀ (X : Cx) (n : Nat) (pins : List (Addr × Obj)) (s : Shared) (σ : L2.St) (H : Hp) (E : Value → Shared → Prop), X.prog = P → X.w = w → X.K = K → ok X → Inv X pins σ H s → (∀ b ∈ fp, FpOk X pins H b) → tn n s.heap → J.stop n H →
    wpAny (model P w) X.A (pyNext (.ref it)) (fun r s1 => r = none ∧ Inv X pins σ H s1) E s
  self : ∀ (A : Around) (n : Nat) (s : Shared) (Q : Value → Shared → Prop) (E : Value → Shared → Prop), tn n s.heap → Q (.ref it) s → wpAny (model P w) A (pyIter (.ref it)) Q E s
def Pic (ok : Cx → Prop) (X : Cx) (tg iter : Expr) (wi : TI) : Prop :=
  ∀ (pins : List (Addr × Obj)) (s : Shared) (σ : L2.St) (H : Hp) (R : It → Hp → Prop), Inv X pins σ H s → wi σ H R →
    wpAny (model X.prog X.w) X.A (eval iter X.env) (fun v s1 => wpAny (model X.prog X.w) X.A (pyIter v) (fun itv s2 => ∃ (it : Addr) (fp : List Addr) (tn : Nat → Heap → Prop) (J : It) (H' : Hp),
      itv = .ref it ∧ Inv X pins σ H' s2 ∧ Trn ok X.prog X.w X.K tg J fp it tn ∧ tn 0 s2.heap ∧ (∀ b ∈ fp, FpOk X pins H' b) ∧ R J H') X.xe s1) X.xe s
abbrev okCalm : Cx → Prop := fun X => X.calm = true
theorem Trn.of {P : Program} {w : World} {K : PySem.W.Frag} {tg : Expr} {J : It} {fp : List Addr} {it : Addr} {tn : Nat → Heap → Prop} (t : Turn P w K tg J fp it tn) : Trn okCalm P w K tg J fp it tn :=
  ⟨t.obj, t.keep, fun X n pins s σ H E h1 h2 h3 h4 => t.item X h1 h2 h3 h4 n pins s σ H E, fun X n pins s σ H E h1 h2 h3 h4 => t.done X h1 h2 h3 h4 n pins s σ H E, t.self⟩
theorem Pic.of {X : Cx} {tg iter : Expr} {wi : TI} (p : PI X tg iter wi) : Pic okCalm X tg iter wi := fun pins s σ H R I h =>
  thn (p.run pins s σ H R I h) fun _ _ h1 => thn h1 fun _ _ ⟨it, fp, tn, J, H', e, I', t, r⟩ => ⟨it, fp, tn, J, H', e, I', .of t, r⟩
/-- what is wished of an exception of the block -/
abbrev xeB (X : Cx) (use : Option (Value → Sem Unit)) (Qf : Value → Shared → Prop) (acc : Value) (ce : Env) : Value → Shared → Prop :=
  notedBy (model X.prog X.w) X.A ce fun e s => Bhd (model X.prog X.w) X.A X.xe use Qf acc ce (.error e) s
abbrev blkX (X : Cx) (bp : List (Addr × Obj)) (use : Option (Value → Sem Unit)) (Qf : Value → Shared → Prop) (acc : Value) (s : Shared) (H : Hp) (scope : Scope) (ce : Env) (fp : List Addr) : Cx := (X.blk s H scope ce fp).tr bp (xeB X use Qf acc ce)
section
variable {X : Cx}
theorem lc_wide {ok : Cx → Prop} {pins bp : List (Addr × Obj)} {s : Shared} {σ : L2.St} {H : Hp} {Q : VK} {elt tg iter : Expr} {ifs : List Expr} {scope : Scope} {own : List (Str × Nat)} {pos pos' : Pos} {wi : TI} {g : TG} {tt : TT} {te : TE} {use : Option (Value → Sem Unit)} {Qf : Value → Shared → Prop}
    (hN : X.N.Nodup) (I : Inv X pins σ H s) (hbp : ∀ p ∈ bp, p ∈ X.pn ++ pins) (hok : ∀ acc s H ce fp, ok (blkX X bp use Qf acc s H scope ce fp)) (hi : Pic ok X tg iter wi) (bk : BlkOk X.N X.env.scope scope own)
    (hg : ∀ (acc : Value) (s : Shared) (H : Hp) (C : Addr) (cl : List (Str × Addr)) (fp : List Addr), PG (blkX X bp use Qf acc s H scope (compEnvC scope cl C X.env) fp) tg g)
    (ht : ∀ (acc : Value) (s : Shared) (H : Hp) (C : Addr) (cl : List (Str × Addr)) (fp : List Addr), cl = cellsFrom (s.heap.objs.size + 1) scope.names (cloFrom X.env.cells scope.names []) → C = s.heap.objs.size → Inv X pins σ H s → (∀ b ∈ fp, FpOk X pins H b ∧ b < s.heap.objs.size) → PTs (blkX X bp use Qf acc s H scope (compEnvC scope cl C X.env) fp) ifs tt)
    (he : ∀ (acc : Value) (s : Shared) (H : Hp) (C : Addr) (cl : List (Str × Addr)) (fp : List Addr), cl = cellsFrom (s.heap.objs.size + 1) scope.names (cloFrom X.env.cells scope.names []) → C = s.heap.objs.size → Inv X pins σ H s → (∀ b ∈ fp, FpOk X pins H b ∧ b < s.heap.objs.size) → PE (blkX X bp use Qf acc s H scope (compEnvC scope cl C X.env) fp) elt te)
    (hs : ∀ x, foldedSetIterable iter X.env x = pure x) (h : tLc wi g tt te (own.map (·.2)) σ H Q)
    (hQ : ∀ D C s' m H', Inv X pins σ H' s' → Q (.ref D) H' → s'.heap.Ns C m → FpOk X pins H' C → compPost (model X.prog X.w) X.A X.xe use Qf (.ref D) C (.ok .next) s') :
    wpAny (model X.prog X.w) X.A (comprehension (.ListComp elt [⟨tg, iter, ifs, 0⟩] scope pos) scope X.env pos' (newList []) false (eval iter X.env) use) Qf X.xe s := by
  refine comp_bhd (use := use) rfl hs (closure_ok fun y hy e => ?_) bk.kind (fun y hy e => by rw [← e]; exact bk.uniq y hy) ?_
  · exact (bk.free y hy e).elim (fun k => I.ok.has _ (.inl k)) fun k => I.ok.has _ (.inr k)
  refine thn (hi pins s σ H _ I h) fun xv s1 h1 => thn h1 fun itv s2 ⟨it, fp, tn, J, H2, eq2, I2, T, st2, f2, q⟩ => ?_
  subst eq2
  refine wpAny_newObj_type (newEnv_comp ?_) (by show 0 ≤ sizeLine; decide)
  obtain ⟨D, hD⟩ : ∃ D, D = s2.heap.objs.size := ⟨_, rfl⟩
  rw [← hD]
  obtain ⟨W, ⟨m0, w0⟩, turn⟩ := q D (I2.hok.fresh (Nat.le_of_eq hD.symm))
  obtain ⟨s3, hs3⟩ : ∃ u : Shared, u = { s2 with heap := s2.heap.push { cls := .type "list", data := .seq ([] : List Value).toArray } } := ⟨_, rfl⟩
  have hp3 : s3.heap = s2.heap.push { cls := .type "list", data := .seq ([] : List Value).toArray } := congrArg Shared.heap hs3
  have I3 : Inv X pins σ (upd H2 D (.lst [])) s3 := by
    rw [hs3]
    exact I2.laid (t' := s2.toks) (fun _ _ z => Heap.get?_push_of_some _ z) (Nat.le_of_eq hD.symm) ⟨Nat.zero_le _, [], 0, .nil, by rw [hD]; exact Heap.get?_push_size _ rfl⟩
  have f3 : ∀ b ∈ fp, FpOk X pins (upd H2 D (.lst [])) b ∧ b < s3.heap.objs.size := fun b hb => by
    obtain ⟨o, z, _⟩ := T.objs _ _ st2 b hb
    have lt := Heap.lt_size z
    refine ⟨⟨?_, (f2 b hb).2⟩, by rw [hp3, Heap.size_push]; exact Nat.lt_succ_of_lt lt⟩
    rw [upd_ne (by rw [hD]; exact Nat.ne_of_lt lt)]
    exact (f2 b hb).1
  have st3 : tn 0 s3.heap := T.stay _ _ _ st2 fun b _ o z => by rw [hp3]; exact Heap.get?_push_of_some _ z
  rw [← hs3]
  obtain ⟨H3, hH3⟩ : ∃ G, G = upd H2 D (.lst []) := ⟨_, rfl⟩
  rw [← hH3] at I3 f3 w0
  obtain ⟨cl, hcl⟩ : ∃ c, c = cellsFrom (s3.heap.objs.size + 1) scope.names (cloFrom X.env.cells scope.names []) := ⟨_, rfl⟩
  have pt := ht (.ref D) s3 H3 s3.heap.objs.size cl fp hcl rfl I3 f3
  have pe := he (.ref D) s3 H3 s3.heap.objs.size cl fp hcl rfl I3 f3
  have pg := hg (.ref D) s3 H3 s3.heap.objs.size cl fp
  have B4 := block_start I3 bk hN f3
  rw [← hcl] at B4
  show codeAny _ _ (.compStart (.ListComp elt [⟨tg, iter, ifs, 0⟩] scope pos) 0 (.ref it) (.ref D) (compEnvC scope (cellsFrom (s3.heap.objs.size + 1) scope.names (cloFrom X.env.cells scope.names [])) s3.heap.objs.size X.env)) (Bhd (model X.prog X.w) X.A X.xe use Qf (.ref D) (compEnvC scope (cellsFrom (s3.heap.objs.size + 1) scope.names (cloFrom X.env.cells scope.names [])) s3.heap.objs.size X.env)) _
  rw [← hcl]
  obtain ⟨ce, hce⟩ : ∃ c, c = compEnvC scope cl s3.heap.objs.size X.env := ⟨_, rfl⟩
  have cL : ce.locals = s3.heap.objs.size := by rw [hce]; rfl
  rw [← hce] at pt pe pg B4 ⊢
  obtain ⟨s4, hs4⟩ : ∃ u : Shared, u = { s3 with heap := pushCells (s3.heap.push { cls := .type "dict", data := .dict #[] }) scope.names } := ⟨_, rfl⟩
  have grow : ∀ b o, s3.heap.get? b = some o → s4.heap.get? b = some o := fun b o z => by rw [hs4]; exact pushCells_keeps _ _ _ _ (Heap.get?_push_of_some _ z)
  have lift : ({ s3 with heap := pushCells (s3.heap.push { cls := .type "dict", data := .dict #[] }) scope.names } : Shared) = s4 := hs4.symm
  show codeAny _ _ _ _ ({ s3 with heap := pushCells (s3.heap.push { cls := .type "dict", data := .dict #[] }) scope.names } : Shared)
  rw [lift] at B4 ⊢
  have nin : ∀ p ∈ X.pn ++ pins, p.1 ∉ frs X.stack := fun p hp z => by
    obtain ⟨_, _, a, b, _⟩ := I3.pin p hp
    exact (List.mem_cons.mp (I3.stkSub _ z)).elim a b
  have I4 : Inv (blkX X bp use Qf (.ref D) s3 H3 scope ce fp) [] (wipe σ (own.map (·.2))) H3 s4 := (B4.pins_of (pins' := bp) fun p hp => by
    obtain ⟨a1, a2, a3, a4, a5⟩ := I3.pin p (hbp p hp)
    exact ⟨grow _ _ a1, a2, by show p.1 ≠ ce.locals; rw [cL]; exact Nat.ne_of_lt (Heap.lt_size a1), nin p (hbp p hp), a5⟩).toTry _
  have st4 : tn 0 s4.heap := T.stay _ _ _ st3 fun b _ o z => grow b o z
  have own4 : ∀ {τ : L2.St} {G : Hp} {u : Shared} {bq : List (Addr × Obj)}, Inv (blkX X bp use Qf (.ref D) s3 H3 scope ce fp) bq τ G u → (∀ b ∈ fp, G b = none) → ∀ b ∈ fp, FpOk (blkX X bp use Qf (.ref D) s3 H3 scope ce fp) [] G b := fun {τ G u bq} J n b hb =>
    ⟨n b hb, (J.ok.exf b hb).1, J.ok.exfs b hb, .inl hb, fun x c z => (J.ok.exf b hb).2 x c z, fun p hp => (f3 b hb).1.2.2.2.2.2 p (hbp p (by simpa using hp))⟩
  have okB : ok (blkX X bp use Qf (.ref D) s3 H3 scope ce fp) := hok _ _ _ _ _
  have loop : codeAny (model X.prog X.w) X.A (.compLoop (.ListComp elt [⟨tg, iter, ifs, 0⟩] scope pos) 0 (.ref it) (.ref D) ce) (Bhd (model X.prog X.w) X.A X.xe use Qf (.ref D) ce) s4 := by
    refine compLoop_any (fun n u => ∃ k G, Inv (blkX X bp use Qf (.ref D) s3 H3 scope ce fp) [] (wipe σ (own.map (·.2))) G u ∧ tn k u.heap ∧ (∀ b ∈ fp, G b = none) ∧ W k n G) ?_ m0 ⟨0, H3, I4, st4, fun b hb => (f3 b hb).1.1, w0⟩
    intro n s5 ⟨k, H5, I5, st5, n5, w5⟩
    rcases turn k n H5 w5 with ⟨stop, qq⟩ | ⟨go, Nx, hNx, step⟩
    · refine thn (T.over (blkX X bp use Qf (.ref D) s3 H3 scope ce fp) k [] s5 _ H5 (xeB X use Qf (.ref D) ce) rfl rfl rfl okB I5 (own4 I5 n5) st5 stop) fun r s6 ⟨hr, I6⟩ => ?_
      subst hr
      have J6 : Inv X pins σ H5 s6 := I3.call' (ch := fp) I6.os I6.base I6.hok I6.bare fun b hb => ⟨(f3 b hb).1.2.2.2.1, (f3 b hb).1.2.1, (f3 b hb).1.2.2.2.2.1, (f3 b hb).1.2.2.2.2.2⟩
      obtain ⟨m, hn, _⟩ := I6.loc
      have fr : H5 s3.heap.objs.size = none := by rw [← cL]; exact I6.free
      have hn' : s6.heap.Ns ce.locals m := hn
      rw [cL] at hn'
      have fin := hQ D s3.heap.objs.size s6 m H5 J6 qq hn' (I3.fpOk (Nat.le_refl _) fr)
      show compPost _ _ _ _ _ _ ce.locals _ _
      rw [cL]
      exact fin
    · refine thn (T.give (blkX X bp use Qf (.ref D) s3 H3 scope ce fp) k [] s5 _ H5 (xeB X use Qf (.ref D) ce) rfl rfl rfl okB I5 (own4 I5 n5) st5 go) fun r s6 ⟨u, hr, h6⟩ => ?_
      subst hr
      refine thn h6 fun _ s7 ⟨x, H7, I7, r7, y7, st7, n7⟩ => ?_
      have P7 := I7.pinned (own4 I7 n7) (T.objs _ _ st7)
      refine thn (pg.run _ s7 _ H7 x u _ P7 r7 (step x H7 y7)) fun _ s8 ⟨σ8, H8, I8, hw8, q8⟩ => ?_
      refine thn (pt.run _ s8 σ8 H8 _ I8 q8) fun b s9 ⟨H9, I9, q9⟩ => ?_
      have next : ∀ {u : Shared} {G : Hp}, Inv (blkX X bp use Qf (.ref D) s3 H3 scope ce fp) ([] ++ pinsAt fp s7.heap) σ8 G u → Nx G → ∃ m, m < n ∧ ∃ k G, Inv (blkX X bp use Qf (.ref D) s3 H3 scope ce fp) [] (wipe σ (own.map (·.2))) G u ∧ tn k u.heap ∧ (∀ b ∈ fp, G b = none) ∧ W k m G := fun {u G} J nx => by
        obtain ⟨m, lt, w'⟩ := hNx G nx
        have held : ∀ b ∈ fp, ∀ o, s7.heap.get? b = some o → u.heap.get? b = some o ∧ G b = none := fun b hb o z => by
          obtain ⟨a1, a2, _⟩ := J.pin (b, o) (List.mem_append_right _ (List.mem_append_right _ (mem_pinsAt hb z)))
          exact ⟨a1, a2⟩
        refine ⟨m, lt, k + 1, G, (J.unpinned (pins := [])).weak (by rw [← hw8, wipe_length]) (fun j v z => ?_), T.stay _ _ _ st7 fun b hb o z => (held b hb o z).1, fun b hb => ?_, w'⟩
        · rw [← hw8] at z
          exact (wipe_some z).1
        · obtain ⟨o, z, _⟩ := T.objs _ _ st7 b hb
          exact (held b hb o z).2
      cases b with
      | false =>
        rw [if_neg Bool.false_ne_true] at q9
        exact next I9 q9
      | true =>
        rw [if_pos rfl] at q9
        refine thn (pe.run _ s9 σ8 H9 _ I9 q9) fun z s10 ⟨yv, H10, I10, r10, acc, hD10, hz10, nx⟩ => ?_
        exact app_ok (X := blkX X bp use Qf (.ref D) s3 H3 scope ce fp) I10 hD10 hz10 r10 fun s11 I11 => next I11 nx
  exact codeAny_compStart_list loop (T.self X.A 0 _ _ _ st4 loop)
end
end Ag

end
/-! ## XL3 -/
section
set_option linter.all false
set_option maxRecDepth 100000
set_option maxHeartbeats 2000000
namespace Ag
open PySem PySem.Spec PyProof.Rows L2
/-! ### an exception leaves a comprehension's block -/
theorem note_same {e : Value} {a b : Env} (h : a.frame = b.frame) : noteFrame e a = noteFrame e b := by
  unfold noteFrame PySem.frameOf
  rw [h]
theorem on_same {w : String} {e : Value} {a b : Env} (h : a.frame = b.frame) : (PySem.passOn w e a : Sem Value) = PySem.passOn w e b := by
  unfold PySem.passOn
  rw [h]
theorem frames_at {base base' h h' : Heap} : ∀ {l : List Env}, h.FunFrames base l → (∀ b ∈ frs l, h'.get? b = h.get? b) → (∀ b ∈ frs l, base'.get? b = none) → h'.FunFrames base' l
  | [], _, _, _ => trivial
  | env :: l, ⟨k, ⟨L, o, f, n, g, d⟩, r⟩, e, z => by
    have mem : L ∈ frs (env :: l) := List.mem_filterMap.mpr ⟨env, List.mem_cons_self, f⟩
    have sub : ∀ b ∈ frs l, b ∈ frs (env :: l) := fun b hb => by
      obtain ⟨v, hv, q⟩ := List.mem_filterMap.mp hb
      exact List.mem_filterMap.mpr ⟨v, List.mem_cons_of_mem _ hv, q⟩
    exact ⟨k, ⟨L, o, f, z L mem, (e L mem).trans g, d⟩, frames_at r (fun b hb => e b (sub b hb)) fun b hb => z b (sub b hb)⟩
section
variable {X : Cx} {W : WX} {use : Option (Value → Sem Unit)} {Qf : Value → Shared → Prop} {acc : Value} {s : Shared} {H : Hp} {scope : Scope} {C : Addr} {cl : List (Str × Addr)} {fp : List Addr} {pins : List (Addr × Obj)} {σ : L2.St}
/-- what a def that the block calls lets out is taken by the def around -/
theorem blk_out (hs : X.stack = X.env :: X.outer) (hf : X.env.frame = some X.env.locals) (tk : Takes X W) (hC : C = s.heap.objs.size) (I : Inv X pins σ H s) (ok : ∀ b ∈ fp, FpOk X pins H b ∧ b < s.heap.objs.size) :
    Passes (L2.CX X.prog X.w) (blkX X [] use Qf acc s H scope (compEnvC scope cl C X.env) fp) (fun cls d G => W cls d σ G) := by
  intro bq τ H1 s1 e s2 J c
  obtain ⟨a, B, H2, cls, d, rfl, fl, hok, ub, na, os, ag, w⟩ := c
  have sameF : (compEnvC scope cl C X.env).frame = X.env.frame := rfl
  have lC : (compEnvC scope cl C X.env).locals = C := rfl
  have fr : X.A.frames = some (X.env :: X.outer) := I.ok.frames.trans (congrArg some hs)
  have fl' : HandSPX.FlyingZ B (X.env :: X.outer) a (Zc cls d) s2.heap := by rw [← hs]; exact fl
  -- the block's own dict
  have newC : s.heap.get? C = none := Heap.get?_none_of_le (Nat.le_of_eq hC.symm)
  have outC : C ∉ frs X.stack := fun m => by
    obtain ⟨_, o, z, _⟩ := I.stack.mem m
    rw [newC] at z; cases z
  obtain ⟨m, hm, _⟩ := J.loc
  have hm : s1.heap.Ns C m := hm
  obtain ⟨oC, es, ep, c1, c2, c3⟩ := id hm
  have freeC1 : H1 C = none := J.free
  have c4 : B.get? C = some oC := ub.keep C oC c1 freeC1 outC
  have freeC2 : H2 C = none := ub.free C oC c1 freeC1
  show wpAny _ _ (noteFrame (.ref a) (compEnvC scope cl C X.env)) _ _ _
  rw [note_same sameF]
  refine HandSPX.looks_onZ Zc.steady fr hf fl' fun h3 held up3 => ?_
  have c5 : h3.get? C = some oC := held.1 _ _ c4
  refine ⟨m, ⟨oC, es, ep, c5, c2, c3⟩, fun h4 sb => ?_⟩
  rw [on_same sameF]
  have keep4 : ∀ b, b ≠ C → h4.get? b = h3.get? b := sb.2
  -- the ground without it
  have B_of : ∀ {b o}, (PySem.W.hideAll B [C]).get? b = some o → B.get? b = some o ∧ b ≠ C := fun {b o} z => by
    refine ⟨PySem.W.of_hideAll _ z, fun q => ?_⟩
    rw [q, PySem.W.hideAll_none [C] (by simp)] at z
    cases z
  have toB : ∀ {b o}, B.get? b = some o → b ≠ C → (PySem.W.hideAll B [C]).get? b = some o := fun z q => PySem.W.hideAll_get _ z (by simpa using q)
  obtain ⟨k1, k2, k3, oe, vs, T, oT, ts, e1, e2, e3, e4, e5, e6, e7, e8, e9⟩ := held
  have nf : ∀ {x : Addr} {o : Obj} {vs : Array Value}, h3.get? x = some o → o.data = .fields vs → x ≠ C := fun {x o vs} z q r => by
    rw [r, c5] at z
    have z := Option.some.inj z
    rw [← z, c2] at q
    cases q
  have noB : ∀ {b}, B.get? b = none → (PySem.W.hideAll B [C]).get? b = none := fun {b} z => by
    cases q : (PySem.W.hideAll B [C]).get? b with
    | none => rfl
    | some o => rw [(B_of q).1] at z; cases z
  have frC : ∀ b ∈ frs (X.env :: X.outer), b ≠ C := fun b hb q => outC (by rw [hs, ← q]; exact hb)
  have held4 : HandSPX.HeldZ (PySem.W.hideAll B [C]) (X.env :: X.outer) a (Zc cls d) X.env.locals h4 :=
    ⟨fun b o z => (keep4 b (B_of z).2).trans (k1 b o (B_of z).1), noB k2, frames_at k3 (fun b hb => keep4 b (frC b hb)) (fun b hb => by
      obtain ⟨q, _⟩ := k3.mem hb
      exact noB q), oe, vs, T, oT, ts, (keep4 a (nf e1 e3)).trans e1, e2, e3, e4, noB e5, e6, (keep4 T (nf e7 e8)).trans e7, e8, e9⟩
  obtain ⟨G, g1, g2⟩ := restrict h4 fun b => ((PySem.W.hideAll B [C]).get? b).isSome || decide (b ∈ frs X.stack)
  have gB : ∀ b o, (PySem.W.hideAll B [C]).get? b = some o → G.get? b = some o := fun b o z => by
    rw [g1 b (by rw [z]; rfl)]
    exact held4.1 b o z
  have gF : ∀ b, b ∈ frs X.stack → G.get? b = h4.get? b := fun b hb => g1 b (by rw [decide_eq_true hb, Bool.or_true])
  have gof : ∀ b o, G.get? b = some o → h4.get? b = some o ∧ (((PySem.W.hideAll B [C]).get? b).isSome = true ∨ b ∈ frs X.stack) := fun b o z => by
    cases q : (((PySem.W.hideAll B [C]).get? b).isSome || decide (b ∈ frs X.stack)) with
    | false => rw [g2 b q] at z; cases z
    | true =>
      rw [g1 b q] at z
      rw [Bool.or_eq_true, decide_eq_true_eq] at q
      exact ⟨z, q⟩
  have oldC : ∀ {b o}, s.heap.get? b = some o → b ≠ C := fun {b o} z q => by rw [q, newC] at z; cases z
  -- a frame's object, up to its slots
  have frame : ∀ b ∈ frs X.stack, ∀ o, s1.heap.get? b = some o → (∀ vs, o.data ≠ .fields vs) → ∃ sl, G.get? b = some { o with slots := sl } := fun b hb o z hd => by
    obtain ⟨sl, z2⟩ := ub.slot b o z hb
    obtain ⟨sl3, z3⟩ := up3 b _ z2 hd
    exact ⟨sl3, by rw [gF b hb, keep4 b (fun q => outC (q ▸ hb))]; exact z3⟩
  have inv : Inv X pins σ H2 { s2 with heap := G } := by
    refine I.call' (ch := C :: fp) (os.trans J.os) ⟨fun b o z n nfr nx => ?_, fun b o z n fr nx => ?_, fun b o z n nx => ?_, fun b o z nx => ?_, fun b xs z => ub.tups b xs (J.base.tups b xs z), fun b o xs z => ub.frzs b o xs (J.base.frzs b o xs z), fun b ps z => ?_⟩ (fun b o z => ?_) ag (fun b hb => ?_)
    · have nx' : b ∉ fp := fun q => nx (List.mem_cons_of_mem _ q)
      exact gB b o (toB (ub.keep b o (J.base.keep b o z n nfr nx') (J.base.free b o z n nx') nfr) (oldC z))
    · have nx' : b ∉ fp := fun q => nx (List.mem_cons_of_mem _ q)
      obtain ⟨sl, z1⟩ := J.base.slot b o z n fr nx'
      obtain ⟨_, o', z', hd⟩ := I.stack.mem fr
      rw [z] at z'
      cases z'
      obtain ⟨sl', z2⟩ := frame b fr _ z1 hd
      exact ⟨sl', z2⟩
    · have nx' : b ∉ fp := fun q => nx (List.mem_cons_of_mem _ q)
      obtain ⟨o', z1⟩ := J.base.there b o z nx'
      exact ub.free b o' z1 (J.base.free b o z n nx')
    · have nx' : b ∉ fp := fun q => nx (List.mem_cons_of_mem _ q)
      by_cases hb : b ∈ frs X.stack
      · obtain ⟨_, o', z', hd⟩ := I.stack.mem hb
        rw [z] at z'
        cases z'
        obtain ⟨sl, z1⟩ := J.base.slot b o z (I.stkFree b hb) hb nx'
        obtain ⟨sl', z2⟩ := frame b hb _ z1 hd
        exact ⟨_, z2⟩
      · obtain ⟨o', z1⟩ := J.base.there b o z nx'
        obtain ⟨o2, z2⟩ := ub.there b o' z1 hb
        exact ⟨o2, gB b o2 (toB z2 (oldC z))⟩
    · obtain ⟨m1, z1⟩ := J.base.tbls b ps z
      obtain ⟨m2, z2⟩ := ub.tbls b _ z1
      exact ⟨m1 ++ m2, by rw [z2, Array.append_assoc]⟩
    · refine (hok b o z).stay (fun c u hc q => gB c u (toB q fun r => ?_)) (fun _ q => q) fun _ _ q => q
      rw [r, freeC2] at hc
      rcases hc with hc | hc
      · rw [← hc, freeC2] at z; cases z
      · cases hc
    · rcases List.mem_cons.mp hb with rfl | hb
      · refine ⟨.inr (by rw [hC]; exact I.sz), fun q => ?_, fun x c z q => ?_, fun p hp q => ?_⟩
        · have lt := I.lt
          rw [← q, hC] at lt
          exact Nat.lt_irrefl _ lt
        · obtain ⟨v, o, z2, _⟩ := I.cell x c z
          exact oldC z2 q
        · exact oldC (I.pin p hp).1 q
      · exact ⟨(ok b hb).1.2.2.2.1, (ok b hb).1.2.1, (ok b hb).1.2.2.2.2.1, (ok b hb).1.2.2.2.2.2⟩
  have e1' : h4.get? a = some oe := (keep4 a (nf e1 e3)).trans e1
  have on : wpAny (model X.prog X.w) X.A (setFlight (.ref a) X.env.frame) (fun _ s4 => wpAny (model X.prog X.w) X.A (throw (.ref a) : Sem Value) (fun _ _ => False) X.xe s4) X.xe { s2 with heap := h4 } := by
    rw [hf]
    refine HandSPX.setFlight_onZ held4 fun h5 held5 up5 => wpAny_throw (tk _ _ ?_)
    refine ⟨a, PySem.W.hideAll B [C], _, pins, σ, H2, cls, d, rfl, inv, fun b o z nb => ?_, (Heap.UpToSlots.of_keeps fun b o z => (gof b o z).1).trans up5, .inr (.inr (by rw [hs]; exact held5)), na, rfl, ag, w⟩
    obtain ⟨z1, z2 | z2⟩ := gof b o z
    · obtain ⟨o', q⟩ := Option.isSome_iff_exists.mp z2
      have := held4.1 b o' q
      rw [z1] at this
      cases this
      exact q
    · exact absurd z2 nb
  unfold PySem.passOn
  refine wpAny_bind (wpAny_field e1' e3 e4 ?_)
  rw [if_neg (by simp)]
  first
    | exact wpAny_bind on
    | exact wpAny_bind (wpAny_pure (wpAny_bind on))
end
end Ag

end
/-! ## XL4 -/
section
set_option linter.all false
set_option maxRecDepth 100000
set_option maxHeartbeats 2000000
namespace Ag
open PySem PySem.Spec PyProof.Rows L2
/-! ### [e for target in iter if ..] where e, the tests or both may raise: as a value, as name = [..] -/
/-- tt, te: by what is wished of what is raised -/
def tLcX (W : WX) (wi : TI) (g : TG) (tt : XK → TT) (te : XK → TE) (vs : List Nat) : TE := fun σ H Q => tLc wi g (tt fun c d G => W c d σ G) (te fun c d G => W c d σ G) vs σ H Q
section
variable {X : Cx} {W : WX} {elt tg iter : Expr} {ifs : List Expr} {scope : Scope} {own : List (Str × Nat)} {pos : Pos} {wi : TI} {g : TG} {tt : XK → TT} {te : XK → TE}
/-- what is asked of a part of the block -/
abbrev InBlk (X : Cx) (scope : Scope) (R : Cx → XK → Prop) : Prop := ∀ (E : XK) (use : Option (Value → Sem Unit)) (Qf : Value → Shared → Prop) (acc : Value) (s : Shared) (H : Hp) (C : Addr) (cl : List (Str × Addr)) (fp : List Addr),
  Passes (L2.CX X.prog X.w) (blkX X [] use Qf acc s H scope (compEnvC scope cl C X.env) fp) E → R (blkX X [] use Qf acc s H scope (compEnvC scope cl C X.env) fp) E
theorem pe_lcX (hs : X.stack = X.env :: X.outer) (hf : X.env.frame = some X.env.locals) (tk : Takes X W) (hc : X.calm = true) (hN : X.N.Nodup) (hi : PI X tg iter wi) (bk : BlkOk X.N X.env.scope scope own)
    (hg : InBlk X scope fun Y _ => PG Y tg g) (ht : InBlk X scope fun Y E => PTs Y ifs (tt E)) (he : InBlk X scope fun Y E => PE Y elt (te E)) (hz : ∀ x, foldedSetIterable iter X.env x = pure x := by intro _; rfl) :
    PE X (.ListComp elt [⟨tg, iter, ifs, 0⟩] scope pos) (tLcX W wi g tt te (own.map (·.2))) := by
  constructor
  intro pins s σ H Q I h
  rw [eval_ListComp]
  refine lc_wide (ok := okCalm) (bp := []) (use := none) (tt := tt fun c d G => W c d σ G) (te := te fun c d G => W c d σ G) hN I (fun _ z => nomatch z) (fun _ _ _ _ _ => hc) (.of hi) bk (fun acc s3 H3 C cl fp => ?_) (fun acc s3 H3 C cl fp _ hC J ok => ?_) (fun acc s3 H3 C cl fp _ hC J ok => ?_) hz h ?_
  · exact hg (fun _ _ _ => False) _ _ acc s3 H3 C cl fp fun _ _ _ _ _ _ _ ⟨_, _, _, _, _, _, _, _, _, _, _, _, z⟩ => z.elim
  · exact ht _ _ _ _ _ _ _ _ _ (blk_out hs hf tk hC J ok)
  · exact he _ _ _ _ _ _ _ _ _ (blk_out hs hf tk hC J ok)
  · rintro D C s' m H' I' q hn ⟨f0, f1, _, f3, f4, f5⟩
    exact ⟨m, hn, fun h2 sb => ⟨.ref D, H', I'.turned (t' := s'.toks) (fun b o hb z => (sb.2 b hb).trans z) f0 f1 f3 f4 f5, rfl, q⟩⟩
theorem ps_setLcX {i : Nat} {y : Str} {py spos : Pos} (hs : X.stack = X.env :: X.outer) (hf : X.env.frame = some X.env.locals) (tk : Takes X W) (hc : X.calm = true) (hN : X.N.Nodup) (hy : X.N[i]? = some y) (hl : X.env.scope.names.lookup y = some .local)
    (hsw : swapsWith (.ListComp elt [⟨tg, iter, ifs, 0⟩] scope pos) (some (.Name y py)) spos.line X.env = pure true) (hi : PI X tg iter wi) (bk : BlkOk X.N X.env.scope scope own)
    (hg : InBlk X scope fun Y _ => PG Y tg g) (ht : InBlk X scope fun Y E => PTs Y ifs (tt E)) (he : InBlk X scope fun Y E => PE Y elt (te E)) (hz : ∀ x, foldedSetIterable iter X.env x = pure x := by intro _; rfl) :
    PS X (.Assign [.Name y py] (.ListComp elt [⟨tg, iter, ifs, 0⟩] scope pos) spos) (tAsg (tLcX W wi g tt te (own.map (·.2))) (gName i)) := by
  constructor
  intro pins s σ H D I h
  rw [exec_Assign_Name_used _ _ _ _ hsw]
  apply wpAny_bind
  apply wpAny_standAt
  apply wpAny_bind
  have h : tLcX W wi g tt te (own.map (·.2)) σ H (fun x G => gName i x σ G D.nx) := h
  show wpAny _ X.A (do let _ ← comprehension (.ListComp elt [⟨tg, iter, ifs, 0⟩] scope pos) scope X.env (firstIterPos [⟨tg, iter, ifs, 0⟩] pos) (newList []) false (eval iter X.env) (some (assign (.Name y py) X.env))) _ _ s; apply wpAny_bind
  refine thn (lc_wide (ok := okCalm) (bp := []) (use := some (assign (.Name y py) X.env)) (Qf := fun _ u => SP X pins D .next u) (tt := tt fun c d G => W c d σ G) (te := te fun c d G => W c d σ G) hN I (fun _ z => nomatch z) (fun _ _ _ _ _ => hc) (.of hi) bk (fun acc s3 H3 C cl fp => ?_) (fun acc s3 H3 C cl fp _ hC J ok => ?_) (fun acc s3 H3 C cl fp _ hC J ok => ?_) hz h ?_) fun _ s2 q => wpAny_pure (wpAny_pure q)
  · exact hg (fun _ _ _ => False) _ _ acc s3 H3 C cl fp fun _ _ _ _ _ _ _ ⟨_, _, _, _, _, _, _, _, _, _, _, _, z⟩ => z.elim
  · exact ht _ _ _ _ _ _ _ _ _ (blk_out hs hf tk hC J ok)
  · exact he _ _ _ _ _ _ _ _ _ (blk_out hs hf tk hC J ok)
  · rintro L C s' m H' I' q hn ⟨f0, f1, _, f3, f4, f5⟩
    show wpAny _ _ (assign (.Name y py) X.env (.ref L)) _ _ _
    refine wpAny_assign_Name (store_ok2 (v := V.ref L) I' hN hy (.inl hl) rfl (fun s3 I3 ⟨a, sb, ha⟩ => ?_) (.inr hl))
    have away : C ≠ a := fun z => by
      rcases ha with q | q
      · exact f1 (z.trans q)
      · exact f4 y a q z.symm
    exact ⟨m, hn.sameBut sb away, fun h4 sb4 => ⟨_, H', I3.turned (t' := s3.toks) (fun b o hb z => (sb4.2 b hb).trans z) f0 f1 f3 f4 f5, q⟩⟩
end
end Ag

end
/-! ## XL4N -/
section
set_option linter.all false
set_option maxRecDepth 100000
set_option maxHeartbeats 2000000
namespace Ag
open PySem PySem.Spec PyProof.Rows L2
/-! ### the same of exceptions whose context is None -/
section
variable {X : Cx} {W : WX} {use : Option (Value → Sem Unit)} {Qf : Value → Shared → Prop} {acc : Value} {s : Shared} {H : Hp} {scope : Scope} {C : Addr} {cl : List (Str × Addr)} {fp : List Addr} {pins : List (Addr × Obj)} {σ : L2.St}
/-- what a def that the block calls lets out is taken by the def around -/
theorem blk_outN (hs : X.stack = X.env :: X.outer) (hf : X.env.frame = some X.env.locals) (tk : L2N.Takes X W) (hC : C = s.heap.objs.size) (I : Inv X pins σ H s) (ok : ∀ b ∈ fp, FpOk X pins H b ∧ b < s.heap.objs.size) :
    Passes (L2N.CX X.prog X.w) (blkX X [] use Qf acc s H scope (compEnvC scope cl C X.env) fp) (fun cls d G => W cls d σ G) := by
  intro bq τ H1 s1 e s2 J c
  obtain ⟨a, B, H2, cls, d, rfl, fl, hok, ub, na, os, ag, w⟩ := c
  have sameF : (compEnvC scope cl C X.env).frame = X.env.frame := rfl
  have lC : (compEnvC scope cl C X.env).locals = C := rfl
  have fr : X.A.frames = some (X.env :: X.outer) := I.ok.frames.trans (congrArg some hs)
  have fl' : HandSPX.FlyingZ B (X.env :: X.outer) a (L2N.Zn cls d) s2.heap := by rw [← hs]; exact fl
  -- the block's own dict
  have newC : s.heap.get? C = none := Heap.get?_none_of_le (Nat.le_of_eq hC.symm)
  have outC : C ∉ frs X.stack := fun m => by
    obtain ⟨_, o, z, _⟩ := I.stack.mem m
    rw [newC] at z; cases z
  obtain ⟨m, hm, _⟩ := J.loc
  have hm : s1.heap.Ns C m := hm
  obtain ⟨oC, es, ep, c1, c2, c3⟩ := id hm
  have freeC1 : H1 C = none := J.free
  have c4 : B.get? C = some oC := ub.keep C oC c1 freeC1 outC
  have freeC2 : H2 C = none := ub.free C oC c1 freeC1
  show wpAny _ _ (noteFrame (.ref a) (compEnvC scope cl C X.env)) _ _ _
  rw [note_same sameF]
  refine PXN.looks_onZ L2N.Zn.steady fr hf fl' fun h3 held up3 => ?_
  have c5 : h3.get? C = some oC := held.1 _ _ c4
  refine ⟨m, ⟨oC, es, ep, c5, c2, c3⟩, fun h4 sb => ?_⟩
  rw [on_same sameF]
  have keep4 : ∀ b, b ≠ C → h4.get? b = h3.get? b := sb.2
  -- the ground without it
  have B_of : ∀ {b o}, (PySem.W.hideAll B [C]).get? b = some o → B.get? b = some o ∧ b ≠ C := fun {b o} z => by
    refine ⟨PySem.W.of_hideAll _ z, fun q => ?_⟩
    rw [q, PySem.W.hideAll_none [C] (by simp)] at z
    cases z
  have toB : ∀ {b o}, B.get? b = some o → b ≠ C → (PySem.W.hideAll B [C]).get? b = some o := fun z q => PySem.W.hideAll_get _ z (by simpa using q)
  obtain ⟨k1, k2, k3, oe, vs, T, oT, ts, e1, e2, e3, e4, e5, e6, e7, e8, e9⟩ := held
  have nf : ∀ {x : Addr} {o : Obj} {vs : Array Value}, h3.get? x = some o → o.data = .fields vs → x ≠ C := fun {x o vs} z q r => by
    rw [r, c5] at z
    have z := Option.some.inj z
    rw [← z, c2] at q
    cases q
  have noB : ∀ {b}, B.get? b = none → (PySem.W.hideAll B [C]).get? b = none := fun {b} z => by
    cases q : (PySem.W.hideAll B [C]).get? b with
    | none => rfl
    | some o => rw [(B_of q).1] at z; cases z
  have frC : ∀ b ∈ frs (X.env :: X.outer), b ≠ C := fun b hb q => outC (by rw [hs, ← q]; exact hb)
  have held4 : HandSPX.HeldZ (PySem.W.hideAll B [C]) (X.env :: X.outer) a (L2N.Zn cls d) X.env.locals h4 :=
    ⟨fun b o z => (keep4 b (B_of z).2).trans (k1 b o (B_of z).1), noB k2, frames_at k3 (fun b hb => keep4 b (frC b hb)) (fun b hb => by
      obtain ⟨q, _⟩ := k3.mem hb
      exact noB q), oe, vs, T, oT, ts, (keep4 a (nf e1 e3)).trans e1, e2, e3, e4, noB e5, e6, (keep4 T (nf e7 e8)).trans e7, e8, e9⟩
  obtain ⟨G, g1, g2⟩ := restrict h4 fun b => ((PySem.W.hideAll B [C]).get? b).isSome || decide (b ∈ frs X.stack)
  have gB : ∀ b o, (PySem.W.hideAll B [C]).get? b = some o → G.get? b = some o := fun b o z => by
    rw [g1 b (by rw [z]; rfl)]
    exact held4.1 b o z
  have gF : ∀ b, b ∈ frs X.stack → G.get? b = h4.get? b := fun b hb => g1 b (by rw [decide_eq_true hb, Bool.or_true])
  have gof : ∀ b o, G.get? b = some o → h4.get? b = some o ∧ (((PySem.W.hideAll B [C]).get? b).isSome = true ∨ b ∈ frs X.stack) := fun b o z => by
    cases q : (((PySem.W.hideAll B [C]).get? b).isSome || decide (b ∈ frs X.stack)) with
    | false => rw [g2 b q] at z; cases z
    | true =>
      rw [g1 b q] at z
      rw [Bool.or_eq_true, decide_eq_true_eq] at q
      exact ⟨z, q⟩
  have oldC : ∀ {b o}, s.heap.get? b = some o → b ≠ C := fun {b o} z q => by rw [q, newC] at z; cases z
  -- a frame's object, up to its slots
  have frame : ∀ b ∈ frs X.stack, ∀ o, s1.heap.get? b = some o → (∀ vs, o.data ≠ .fields vs) → ∃ sl, G.get? b = some { o with slots := sl } := fun b hb o z hd => by
    obtain ⟨sl, z2⟩ := ub.slot b o z hb
    obtain ⟨sl3, z3⟩ := up3 b _ z2 hd
    exact ⟨sl3, by rw [gF b hb, keep4 b (fun q => outC (q ▸ hb))]; exact z3⟩
  have inv : Inv X pins σ H2 { s2 with heap := G } := by
    refine I.call' (ch := C :: fp) (os.trans J.os) ⟨fun b o z n nfr nx => ?_, fun b o z n fr nx => ?_, fun b o z n nx => ?_, fun b o z nx => ?_, fun b xs z => ub.tups b xs (J.base.tups b xs z), fun b o xs z => ub.frzs b o xs (J.base.frzs b o xs z), fun b ps z => ?_⟩ (fun b o z => ?_) ag (fun b hb => ?_)
    · have nx' : b ∉ fp := fun q => nx (List.mem_cons_of_mem _ q)
      exact gB b o (toB (ub.keep b o (J.base.keep b o z n nfr nx') (J.base.free b o z n nx') nfr) (oldC z))
    · have nx' : b ∉ fp := fun q => nx (List.mem_cons_of_mem _ q)
      obtain ⟨sl, z1⟩ := J.base.slot b o z n fr nx'
      obtain ⟨_, o', z', hd⟩ := I.stack.mem fr
      rw [z] at z'
      cases z'
      obtain ⟨sl', z2⟩ := frame b fr _ z1 hd
      exact ⟨sl', z2⟩
    · have nx' : b ∉ fp := fun q => nx (List.mem_cons_of_mem _ q)
      obtain ⟨o', z1⟩ := J.base.there b o z nx'
      exact ub.free b o' z1 (J.base.free b o z n nx')
    · have nx' : b ∉ fp := fun q => nx (List.mem_cons_of_mem _ q)
      by_cases hb : b ∈ frs X.stack
      · obtain ⟨_, o', z', hd⟩ := I.stack.mem hb
        rw [z] at z'
        cases z'
        obtain ⟨sl, z1⟩ := J.base.slot b o z (I.stkFree b hb) hb nx'
        obtain ⟨sl', z2⟩ := frame b hb _ z1 hd
        exact ⟨_, z2⟩
      · obtain ⟨o', z1⟩ := J.base.there b o z nx'
        obtain ⟨o2, z2⟩ := ub.there b o' z1 hb
        exact ⟨o2, gB b o2 (toB z2 (oldC z))⟩
    · obtain ⟨m1, z1⟩ := J.base.tbls b ps z
      obtain ⟨m2, z2⟩ := ub.tbls b _ z1
      exact ⟨m1 ++ m2, by rw [z2, Array.append_assoc]⟩
    · refine (hok b o z).stay (fun c u hc q => gB c u (toB q fun r => ?_)) (fun _ q => q) fun _ _ q => q
      rw [r, freeC2] at hc
      rcases hc with hc | hc
      · rw [← hc, freeC2] at z; cases z
      · cases hc
    · rcases List.mem_cons.mp hb with rfl | hb
      · refine ⟨.inr (by rw [hC]; exact I.sz), fun q => ?_, fun x c z q => ?_, fun p hp q => ?_⟩
        · have lt := I.lt
          rw [← q, hC] at lt
          exact Nat.lt_irrefl _ lt
        · obtain ⟨v, o, z2, _⟩ := I.cell x c z
          exact oldC z2 q
        · exact oldC (I.pin p hp).1 q
      · exact ⟨(ok b hb).1.2.2.2.1, (ok b hb).1.2.1, (ok b hb).1.2.2.2.2.1, (ok b hb).1.2.2.2.2.2⟩
  have e1' : h4.get? a = some oe := (keep4 a (nf e1 e3)).trans e1
  have on : wpAny (model X.prog X.w) X.A (setFlight (.ref a) X.env.frame) (fun _ s4 => wpAny (model X.prog X.w) X.A (throw (.ref a) : Sem Value) (fun _ _ => False) X.xe s4) X.xe { s2 with heap := h4 } := by
    rw [hf]
    refine HandSPX.setFlight_onZ held4 fun h5 held5 up5 => wpAny_throw (tk _ _ ?_)
    refine ⟨a, PySem.W.hideAll B [C], _, pins, σ, H2, cls, d, rfl, inv, fun b o z nb => ?_, (Heap.UpToSlots.of_keeps fun b o z => (gof b o z).1).trans up5, .inr (.inr (by rw [hs]; exact held5)), na, rfl, ag, w⟩
    obtain ⟨z1, z2 | z2⟩ := gof b o z
    · obtain ⟨o', q⟩ := Option.isSome_iff_exists.mp z2
      have := held4.1 b o' q
      rw [z1] at this
      cases this
      exact q
    · exact absurd z2 nb
  unfold PySem.passOn
  refine wpAny_bind (wpAny_field e1' e3 e4 ?_)
  rw [if_neg (by simp)]
  first
    | exact wpAny_bind on
    | exact wpAny_bind (wpAny_pure (wpAny_bind on))

end
section
variable {X : Cx} {W : WX} {elt tg iter : Expr} {ifs : List Expr} {scope : Scope} {own : List (Str × Nat)} {pos : Pos} {wi : TI} {g : TG} {tt : XK → TT} {te : XK → TE}
/-- what is asked of a part of the block -/
abbrev InBlkN (X : Cx) (scope : Scope) (R : Cx → XK → Prop) : Prop := ∀ (E : XK) (use : Option (Value → Sem Unit)) (Qf : Value → Shared → Prop) (acc : Value) (s : Shared) (H : Hp) (C : Addr) (cl : List (Str × Addr)) (fp : List Addr),
  Passes (L2N.CX X.prog X.w) (blkX X [] use Qf acc s H scope (compEnvC scope cl C X.env) fp) E → R (blkX X [] use Qf acc s H scope (compEnvC scope cl C X.env) fp) E
theorem pe_lcXN (hs : X.stack = X.env :: X.outer) (hf : X.env.frame = some X.env.locals) (tk : L2N.Takes X W) (hc : X.calm = true) (hN : X.N.Nodup) (hi : PI X tg iter wi) (bk : BlkOk X.N X.env.scope scope own)
    (hg : InBlkN X scope fun Y _ => PG Y tg g) (ht : InBlkN X scope fun Y E => PTs Y ifs (tt E)) (he : InBlkN X scope fun Y E => PE Y elt (te E)) (hz : ∀ x, foldedSetIterable iter X.env x = pure x := by intro _; rfl) :
    PE X (.ListComp elt [⟨tg, iter, ifs, 0⟩] scope pos) (tLcX W wi g tt te (own.map (·.2))) := by
  constructor
  intro pins s σ H Q I h
  rw [eval_ListComp]
  refine lc_wide (ok := okCalm) (bp := []) (use := none) (tt := tt fun c d G => W c d σ G) (te := te fun c d G => W c d σ G) hN I (fun _ z => nomatch z) (fun _ _ _ _ _ => hc) (.of hi) bk (fun acc s3 H3 C cl fp => ?_) (fun acc s3 H3 C cl fp _ hC J ok => ?_) (fun acc s3 H3 C cl fp _ hC J ok => ?_) hz h ?_
  · exact hg (fun _ _ _ => False) _ _ acc s3 H3 C cl fp fun _ _ _ _ _ _ _ ⟨_, _, _, _, _, _, _, _, _, _, _, _, z⟩ => z.elim
  · exact ht _ _ _ _ _ _ _ _ _ (blk_outN hs hf tk hC J ok)
  · exact he _ _ _ _ _ _ _ _ _ (blk_outN hs hf tk hC J ok)
  · rintro D C s' m H' I' q hn ⟨f0, f1, _, f3, f4, f5⟩
    exact ⟨m, hn, fun h2 sb => ⟨.ref D, H', I'.turned (t' := s'.toks) (fun b o hb z => (sb.2 b hb).trans z) f0 f1 f3 f4 f5, rfl, q⟩⟩
theorem ps_setLcXN {i : Nat} {y : Str} {py spos : Pos} (hs : X.stack = X.env :: X.outer) (hf : X.env.frame = some X.env.locals) (tk : L2N.Takes X W) (hc : X.calm = true) (hN : X.N.Nodup) (hy : X.N[i]? = some y) (hl : X.env.scope.names.lookup y = some .local)
    (hsw : swapsWith (.ListComp elt [⟨tg, iter, ifs, 0⟩] scope pos) (some (.Name y py)) spos.line X.env = pure true) (hi : PI X tg iter wi) (bk : BlkOk X.N X.env.scope scope own)
    (hg : InBlkN X scope fun Y _ => PG Y tg g) (ht : InBlkN X scope fun Y E => PTs Y ifs (tt E)) (he : InBlkN X scope fun Y E => PE Y elt (te E)) (hz : ∀ x, foldedSetIterable iter X.env x = pure x := by intro _; rfl) :
    PS X (.Assign [.Name y py] (.ListComp elt [⟨tg, iter, ifs, 0⟩] scope pos) spos) (tAsg (tLcX W wi g tt te (own.map (·.2))) (gName i)) := by
  constructor
  intro pins s σ H D I h
  rw [exec_Assign_Name_used _ _ _ _ hsw]
  apply wpAny_bind
  apply wpAny_standAt
  apply wpAny_bind
  have h : tLcX W wi g tt te (own.map (·.2)) σ H (fun x G => gName i x σ G D.nx) := h
  show wpAny _ X.A (do let _ ← comprehension (.ListComp elt [⟨tg, iter, ifs, 0⟩] scope pos) scope X.env (firstIterPos [⟨tg, iter, ifs, 0⟩] pos) (newList []) false (eval iter X.env) (some (assign (.Name y py) X.env))) _ _ s; apply wpAny_bind
  refine thn (lc_wide (ok := okCalm) (bp := []) (use := some (assign (.Name y py) X.env)) (Qf := fun _ u => SP X pins D .next u) (tt := tt fun c d G => W c d σ G) (te := te fun c d G => W c d σ G) hN I (fun _ z => nomatch z) (fun _ _ _ _ _ => hc) (.of hi) bk (fun acc s3 H3 C cl fp => ?_) (fun acc s3 H3 C cl fp _ hC J ok => ?_) (fun acc s3 H3 C cl fp _ hC J ok => ?_) hz h ?_) fun _ s2 q => wpAny_pure (wpAny_pure q)
  · exact hg (fun _ _ _ => False) _ _ acc s3 H3 C cl fp fun _ _ _ _ _ _ _ ⟨_, _, _, _, _, _, _, _, _, _, _, _, z⟩ => z.elim
  · exact ht _ _ _ _ _ _ _ _ _ (blk_outN hs hf tk hC J ok)
  · exact he _ _ _ _ _ _ _ _ _ (blk_outN hs hf tk hC J ok)
  · rintro L C s' m H' I' q hn ⟨f0, f1, _, f3, f4, f5⟩
    show wpAny _ _ (assign (.Name y py) X.env (.ref L)) _ _ _
    refine wpAny_assign_Name (store_ok2 (v := V.ref L) I' hN hy (.inl hl) rfl (fun s3 I3 ⟨a, sb, ha⟩ => ?_) (.inr hl))
    have away : C ≠ a := fun z => by
      rcases ha with q | q
      · exact f1 (z.trans q)
      · exact f4 y a q z.symm
    exact ⟨m, hn.sameBut sb away, fun h4 sb4 => ⟨_, H', I3.turned (t' := s3.toks) (fun b o hb z => (sb4.2 b hb).trans z) f0 f1 f3 f4 f5, q⟩⟩
end
end Ag

end
/-! ## R8 -/
section
set_option linter.all false
set_option maxRecDepth 100000
set_option maxHeartbeats 4000000
namespace Ag
open PySem PySem.Spec PyProof.Rows L2
open SX (S S_len S_cat S_inj)
/-! ### by_key at any data -/
section
variable {P : Program} {w : World} {K : PySem.W.Frag} {mg : Str → Option Value} {base : Heap} {tw tp tg : Tok}
def spBkA (CP CL CW : Addr) : Sp := fun vs H Q E => ∃ p c v1 d1 v2 d2 v3 d3 q q' q2 n b, vs = [v1, v2, v3] ∧ Dg p c H v1 d1 ∧ Gd q d1 n b ∧ Dg p c H v2 d2 ∧ Gd q' d2 n b ∧ Dg p c H v3 d3 ∧ Gd q2 d3 n b ∧ 10 ≤ b ∧ (poolB d1 = false → Rsd E CP H v1) ∧ ∀ ps, d1 = poolD ps → poolB d1 = true →
  ((lotB ((ps.length : Int) - 1) d2 && !isT0 d2) = false → Rsd E CL H v2) ∧ ((lotB ((ps.length : Int) - 1) d2 && !isT0 d2) = true → (wordB d3 = false → Rsd E CW H v3) ∧
  ∀ ns k, d2 = .tuple (ctD ns) → Lot ps.length ns → ns ≠ [] → d3 = .str (S k) → wordL k = true → ∀ (i : Nat) H', Same H H' → Sc.Bst (fS ps k) ns i → Q (.int (i : Int)) H')
theorem Rsd.of {E : XK} {C : Addr} {H H2 : Hp} {v : V} (r : Rsd E C H v) (s : Same H H2) : Rsd E C H2 v := fun dx H' s2 n e => r dx H' (s.trans s2) (by
  cases q : H dx with
  | none => rfl
  | some o => rw [s dx o q] at n; cases n) e
theorem ok_bkA {f f1 f2 C D D2 : Addr} {fd fd1 fd2 : FuncData} (F : Fn K mg "by_key" s_by_key ["pool", "lot", "key"] f fd) (B : Con mg tw tp tg) (F_check_lot : Fn K mg "check_lot" s_check_lot ["pool", "lot"] f1 fd1) (G_check_lot : FnOk P w K mg base (L2N.CX P w) 4 f1 fd1 ["pool", "lot"] (spCheckA C D))
    (F_score : Fn K mg "score" s_score ["key", "label"] f2 fd2) (G_score : FnOk P w K mg base (L2N.CX P w) 3 f2 fd2 ["key", "label"] (spScoreA D2)) : FnOk P w K mg base (L2N.CX P w) 5 f fd ["pool", "lot", "key"] (spBkA C D D2) := by
  refine okXN F.F sc_by_key (fun vs H Q E h => ?_) (fun cdv A outer s H vs Q E hr h => ?_)
  · obtain ⟨p, c, v1, d1, v2, d2, v3, d3, qq, q5, q6, n, b, rfl, _⟩ := h
    rfl
  · obtain ⟨p0, c0, v1, d1, v2, d2, v3, d3, qq, q5, q6, n0, b0, rfl, hd1, hg1, hd2, hg2, hd3, hg3, b10, q1, q2⟩ := h
    refine ⟨_, (pss_cons (ps_expr (pe_call G_check_lot (hr.mono (by decide)) (by rfl) F_check_lot.g F_check_lot.F.kp F_check_lot.b .nil (L2N.passes_call (L2N.takes_of rfl rfl rfl rfl) (fun _ _ _ _ h => h)) (pa_cons (pv 0) (pa_cons (pv 1) pa_nil))))
      (pss_cons (ps_setLcXN (W := fun cls d _ G => E cls d G) (tt := fun _ => tYes) (i := 3) (own := [("at", 4)]) rfl rfl (L2N.takes_of rfl rfl rfl rfl) rfl sc_by_key.nd rfl rfl (sw_true rfl rfl rfl (by decide +kernel)) (pi_tup (pv 1)) (blkOk_by (N := N_by_key) (sc := defScope s_by_key) (by decide +kernel)) (fun _ _ _ _ _ _ _ _ _ _ => (pg_name (i := 4) sc_by_key.nd rfl (Or.inl rfl))) (fun _ _ _ _ _ _ _ _ _ _ => pts_nil) (fun _ _ _ _ _ _ _ _ _ ps => (pe_call G_score (hr.mono (by decide)) (by rfl) F_score.g F_score.F.kp F_score.b .nil ps (pa_cons (pv 2) (pa_cons (pe_ix (ix_tupK K rfl) (pe_ix (ix_tupK K rfl) (pv 0) (pv 4) (fun _ _ => rfl)) pe_int (fun _ _ => rfl)) pa_nil)))))
      (pss_one (ps_ret (pe_ix ix_tup (pv 1) (pe_bm PySem.F.plainAttrs_list PySem.F.slot_list_index PySem.F.type_list_index mt_index (pv 3) (pa_cons (pe_callB (cr_max rfl) (by rfl) B.n_max (by decide +kernel) (pa_cons (pv 3) pa_nil)) pa_nil)) (fun _ _ => rfl)))))), ?_⟩
    refine ⟨_, rfl, _, rfl, p0, c0, v1, d1, v2, d2, qq, q5, n0, b0, rfl, hd1, hg1, hd2, hg2, q1, fun ps e hb => ⟨(q2 ps e hb).1, fun hl H1 s1 => ?_⟩⟩
    obtain ⟨a, ts, ps', rfl, p, e2⟩ := pool_of hd1 hb
    have e3 := poolD_inj (e.symm.trans e2)
    subst e3
    obtain ⟨q3, q4⟩ := (q2 ps e hb).2 hl
    rw [Bool.and_eq_true, Bool.not_eq_true'] at hl
    obtain ⟨c, ns, rfl, hc, rfl, lo⟩ := lot_E hd2 hl.1 p.ok.n8
    have hne : ns ≠ [] := fun z => by
      have := hl.2
      rw [z] at this
      cases this
    have hgl : ∀ {e : List Nat × Nat}, wordL e.1 = true → Gd qq (.str (S e.1)) n0 b0 := fun {e} hw => by
      have l10 := word_len hw
      refine Gd.strL ?_ (by omega) (by omega)
      unfold wordL at hw
      rw [Bool.and_eq_true, Bool.and_eq_true] at hw
      rw [List.all_eq_true]
      intro x hx
      have := List.all_eq_true.mp hw.2 x hx
      unfold azC at this
      rw [Bool.and_eq_true, decide_eq_true_eq, decide_eq_true_eq] at this
      exact decide_eq_true (by omega)
    refine ⟨_, rfl, c, rfl, ⟨_, SqT.of (s1 _ _ hc)⟩, fun D hD => ?_⟩
    cases hw3 : wordB d3 with
    | false =>
      obtain ⟨x0, tl, rfl⟩ : ∃ x l, ns = x :: l := by
        cases ns with
        | nil => exact absurd rfl hne
        | cons x l => exact ⟨x, l, rfl⟩
      refine ⟨fun i m H' => i = 0 ∧ Same H1 H', ⟨0, rfl, same_new hD⟩, ?_⟩
      rintro i m H' ⟨rfl, s2⟩
      refine .inr ⟨⟨_, _, SqT.of (s2 _ _ (s1 _ _ hc)), ctV_at (j := 0) rfl⟩, fun _ => False, fun _ z => z.elim, ?_⟩
      rintro y H3 ⟨rfl, hy⟩
      have hy := hy _ (SqT.of (s2 _ _ (s1 _ _ hc)))
      rw [ctV_at (j := 0) rfl] at hy
      cases hy
      have s12 := s1.trans s2
      obtain ⟨t, e, r1, r2, r3, _, _, _, r4⟩ := (p.to s12).row (lo.lt x0 List.mem_cons_self)
      refine ⟨rfl, _, rfl, _, rfl, _, rfl, a, _, _, _, rfl, rfl, SqT.of (p.to s12).at_, atI_nat r1, t, _, _, _, rfl, rfl, SqT.of r3, atI_nat (j := 0) rfl, p0, c0, v3, d3, _, _, q6, qq, n0, b0, rfl, hd3.to (Kp.same s12), hg3, .str _, hgl r4, fun _ => (q3 hw3).of s12, fun z => (by rw [hw3] at z; cases z), ?_⟩
      rintro k l rfl _ hk
      have hw3 : wordL k = false := hw3
      rw [hk] at hw3
      cases hw3
    | true =>
    obtain ⟨k, rfl, rfl, hk⟩ := word_E hd3 hw3
    have q := q4 ns k rfl lo hne rfl hk
    have l20 := lo.len
    refine lc_sel (walk_tup (K := K) (a := c) (xs := ctV ns)) (fun _ => true) (fun j => .int (fS ps k (kF ns j) : Nat)) (by rw [ctV_len]; omega) hD (fun H' s => SqT.of (s _ _ (s1 _ _ hc))) ?_ ?_
    · rintro j y H3 H4 kk k0 hi s2 ⟨rfl, hy⟩ hkk _
      have s12 := s1.trans s2
      obtain ⟨n, hn, rfl⟩ := ctV_get hy
      obtain ⟨t, e, r1, r2, r3, _, _, _, r4⟩ := (p.to s12).row (lo.lt n (List.mem_of_getElem? hn))
      have hkk := hkk rfl
      rw [kF_at hn, fS_at r2] at hkk
      refine ⟨rfl, _, rfl, _, rfl, _, rfl, a, _, _, _, rfl, rfl, SqT.of (p.to s12).at_, atI_nat r1, t, _, _, _, rfl, rfl, SqT.of r3, atI_nat (j := 0) rfl, p0, c0, _, _, _, _, q6, qq, n0, b0, rfl, .str _, hg3, .str _, hgl r4, fun z => ?_, fun _ z => ?_, ?_⟩
      · rw [hw3] at z; cases z
      · have z : wordL e.1 = false := z
        rw [r4] at z; cases z
      · intro k2 l2 e1 e2 _ _ H5 s5
        injection e1 with e1
        injection e2 with e2
        have e1 := S_inj e1
        have e2 := S_inj e2
        subst e1 e2
        exact hkk _ s5
    · intro H3 s2 h3
      have s12 := s1.trans s2
      have el : (List.range (ctV ns).length).map (fun j => V.int (fS ps k (kF ns j) : Nat)) = (ns.map fun n => ((fS ps k n : Nat) : Int)).map V.int := by
        rw [ctV_len, List.map_map]
        refine List.ext_getElem? fun i => ?_
        rw [List.getElem?_map, List.getElem?_map]
        by_cases h : i < ns.length
        · rw [List.getElem?_range h, List.getElem?_eq_getElem h]
          show some (V.int (fS ps k (kF ns i) : Nat)) = _
          rw [kF_at (List.getElem?_eq_getElem h)]
          rfl
        · rw [List.getElem?_eq_none (by simpa using h), List.getElem?_eq_none (by omega)]
          rfl
      rw [filt_all, el] at h3
      refine ⟨_, rfl, _, rfl, .inl ⟨rfl, _, SqL.of h3⟩, _, rfl, D, _, rfl, SqL.of h3, by rw [List.length_map]; cases ns; exact absurd rfl hne; simp, fun m hm htop => ?_⟩
      obtain ⟨n0, hn0, rfl⟩ := List.mem_map.mp hm
      obtain ⟨j, n, hj, hfn, hfst⟩ := Sc.first_at (fun n => fS ps k n = fS ps k n0) ns ⟨n0, hn0, rfl⟩
      have hflat : ((ns.map fun n => ((fS ps k n : Nat) : Int)).map V.int).all flatV = true := by
        rw [List.all_eq_true]
        intro y hy
        obtain ⟨_, _, rfl⟩ := List.mem_map.mp hy
        rfl
      refine ⟨D, _, _, j, .int (fS ps k n : Nat), rfl, rfl, SqL.of h3, rfl, hflat, by rw [List.getElem?_map, List.getElem?_map, hj]; rfl, by rw [hfn]; simp [eqV], fun m z' hm' hz' => ?_, ?_⟩
      · rw [List.getElem?_map, List.getElem?_map] at hz'
        cases ey : ns[m]? with
        | none => rw [ey] at hz'; cases hz'
        | some y =>
          rw [ey] at hz'
          obtain rfl := Option.some.inj hz'
          have := hfst m y hm' ey
          simp only [eqV, beq_eq_false_iff_ne]
          omega
      · refine ⟨c, _, _, _, rfl, rfl, SqT.of (s12 _ _ hc), atI_nat (ctV_at hj), q n H3 s12 (Sc.Bst.first lo.asc hj (fun y hy => ?_) fun m y hm' hy => ?_)⟩
        · have := htop _ (List.mem_map_of_mem hy)
          rw [hfn]
          omega
        · rw [hfn]
          exact hfst m y hm' hy
end
end Ag

end
/-! ## KwX -/
section
set_option linter.all false
set_option maxRecDepth 100000
namespace Ag
open PySem PySem.Spec PyProof.Rows L2
section
variable {X : Cx} {CX : CXT} {k : Nat} {f : Addr} {fd : FuncData} {ps ks : List Str} {sp : Sp} {E : XK} {x : Str} {p pos : Pos} {t : TA} {gv : List Value → List Value} {gV : List V → List V} {kws : List Keyword}
def tKwE (sp : Sp) (n : Nat) (gV : List V → List V) (E : XK) (t : TA) : TE := fun σ H Q => t σ H fun zs H2 => zs.length = n ∧ sp (gV zs) H2 Q E
/-- f(k = e, ..), keywords alone, and what it lets out is taken -/
theorem pe_callKwX (F : FnOk X.prog X.w X.K X.mg X.base CX k f fd ps sp) (hr : Room k X.A) (hg : Gl X x) (hm : X.mg x = some (.ref f)) (hk : PySem.W.keepIn X.K (.ref f) = true) (hb : KwB X.K fd ps ks gv gV) (hx : Passes CX X E)
    (ha : PK X kws t) (hall : (backToKw pos (keywordEach kws X.env)).all (·.1.isSome) = true := by rfl) (hks : (backToKw pos (keywordEach kws X.env)).filterMap (·.1) = ks := by rfl) (hdb : (x == ("__debug__" : Str)) = false := by decide)
    (hpl : ((backTo pos (starEach [] X.env)).any (·.1) || (backToKw pos (keywordEach kws X.env)).any (·.1.isNone)) = false := by rfl) : PE X (.Call (.Name x p) [] kws pos) (tKwE sp ks.length gV E t) := by
  constructor
  intro pins s σ H Q I h
  refine wpAny_Call_Name_kw (ld_glob I hg hm (PySem.W.callWith_KW0 (h₀ := X.base) I.ok.mod.kin hk hall (thn (ha.run pos pins s σ H _ I h) ?_) hpl) hdb)
  rintro ws s2 ⟨zs, H2, I2, rz, l, q⟩
  refine ⟨I2.kIn, ?_⟩
  rw [hks]
  refine wpAny_call (codeAny_mono (F.run X.A X.stack s2 H2 ⟨[], ks.zip ws⟩ _ _ Q E hr I2.env0 (hb.to s2 ws (by rw [← rz.length]; exact l)) (hb.rel l rz) q) fun r s' hq => ?_)
  cases r with
  | error e => exact hx pins σ H2 s2 e s' I2 hq
  | ok fl =>
    cases fl with
    | ret u => exact I2.after hq
    | next => exact False.elim hq
    | brk => exact False.elim hq
    | cont => exact False.elim hq
end
end Ag

end
/-! ## S9 -/
section
set_option linter.all false
set_option maxRecDepth 100000
set_option maxHeartbeats 4000000
namespace Ag
open PySem PySem.Spec PyProof.Rows L2
open SX (S S_len S_cat S_inj)
def nm5 (k : Nat) : String := match k with
  | 0 => "BadCounts"
  | 1 => "BadLot"
  | 2 => "BadNumber"
  | 3 => "BadPool"
  | _ => "BadWord"
def spCalled (cl : Nat → Addr) : Sp := fun vs H Q E => ∃ p c r xs ds n, vs = [.str (wayS n), .ref r] ∧ At p c H r (.tup xs) ∧ DgA p c H xs ds ∧ (∀ d ∈ ds, OkD d) ∧ ShF n ds ∧ (∀ k v d, k < 5 → Dg p c H v d → DueD n ds (bad3 (nm5 k) d) → Rsd E (cl k) H v) ∧ ∀ v d H', Same H H' → ((∃ i, v = .int i ∧ d = .int i) ∨ (∃ b, v = .bl b ∧ d = .bool b) ∨ ∃ t cs, v = .ref t ∧ H' t = some (.tup (ctV cs)) ∧ d = .tuple (ctD cs)) → DueD n ds (ret d) → Q v H'
section
variable {P : Program} {w : World} {K : PySem.W.Frag} {mg : Str → Option Value} {base : Heap}
theorem ok_called {cl : Nat → Addr} {f f1 f2 f3 f4 f5 f6 f7 : Addr} {fd fd1 fd2 fd3 fd4 fd5 fd6 fd7 : FuncData} (F : Fn K mg "_law_called" s__law_called ["_law_way", "_law_args"] f fd) (B : Blt mg)
    (F_is_pool : Fn K mg "is_pool" s_is_pool ["thing"] f1 fd1) (G_is_pool : FnOk P w K mg base CX0 3 f1 fd1 ["thing"] spPoolG)
    (F_score : Fn K mg "score" s_score ["key", "label"] f2 fd2) (G_score : FnOk P w K mg base (L2N.CX P w) 3 f2 fd2 ["key", "label"] (spScoreA (cl 4)))
    (F_next_turn : Fn K mg "next_turn" s_next_turn ["pool", "counts"] f3 fd3) (G_next_turn : FnOk P w K mg base (L2N.CX P w) 6 f3 fd3 ["pool", "counts"] (spNextA (cl 3) (cl 0))) (Kn : KwB K fd3 ["pool", "counts"] ["counts", "pool"] List.reverse List.reverse)
    (F_turns : Fn K mg "turns" s_turns ["pool", "t"] f4 fd4) (G_turns : FnOk P w K mg base (L2N.CX P w) 6 f4 fd4 ["pool", "t"] (spTurnsA (cl 3) (cl 2)))
    (F_counts_after : Fn K mg "counts_after" s_counts_after ["pool", "t"] f5 fd5) (G_counts_after : FnOk P w K mg base (L2N.CX P w) 6 f5 fd5 ["pool", "t"] (spAfterA (cl 3) (cl 2)))
    (F_by_key : Fn K mg "by_key" s_by_key ["pool", "lot", "key"] f6 fd6) (G_by_key : FnOk P w K mg base (L2N.CX P w) 5 f6 fd6 ["pool", "lot", "key"] (spBkA (cl 3) (cl 1) (cl 4)))
    (F_least_busy : Fn K mg "least_busy" s_least_busy ["pool", "lot", "busy"] f7 fd7) (G_least_busy : FnOk P w K mg base (L2N.CX P w) 5 f7 fd7 ["pool", "lot", "busy"] (spLbA (cl 3) (cl 1) (cl 0))) : FnOk P w K mg base (L2N.CX P w) 7 f fd ["_law_way", "_law_args"] (spCalled cl) := by
  refine okXN F.F sc__law_called (fun vs H Q E h => ?_) (fun cdv A outer s H vs Q E hr h => ?_)
  · obtain ⟨p, c, r, xs, ds, n, rfl, _⟩ := h
    rfl
  · obtain ⟨p, c, r, xs, ds, n, rfl, ar, hA, hok, hsh, qe, q⟩ := h
    refine ⟨_, (pss_cons (ps_if (pt_cmpR op_eq (pv 0) pe_str (nomark _))
      (pss_one (ps_ret (pe_call G_is_pool (hr.mono (by decide)) (by rfl) F_is_pool.g F_is_pool.F.kp F_is_pool.b .nil pass0 (pa_cons (pe_ix ix_tup (pv 1) pe_int (fun _ _ => rfl)) pa_nil))))
      pss_nil)
      (pss_cons (ps_if (pt_cmpR op_eq (pv 0) pe_str (nomark _))
      (pss_one (ps_ret (pe_call G_score (hr.mono (by decide)) (by rfl) F_score.g F_score.F.kp F_score.b .nil (L2N.passes_call (L2N.takes_of rfl rfl rfl rfl) (fun _ _ _ _ h => h)) (pa_cons (pe_ix ix_tup (pv 1) pe_int (fun _ _ => rfl)) (pa_cons (pe_ix ix_tup (pv 1) pe_int (fun _ _ => rfl)) pa_nil)))))
      pss_nil)
      (pss_cons (ps_if (pt_cmpR op_eq (pv 0) pe_str (nomark _))
      (pss_one (ps_ret (pe_callKwX (ks := ["counts", "pool"]) (gV := List.reverse) G_next_turn (hr.mono (by decide)) (by rfl) F_next_turn.g F_next_turn.F.kp Kn (L2N.passes_call (L2N.takes_of rfl rfl rfl rfl) (fun _ _ _ _ h => h)) (pk_cons (pe_ix ix_tup (pv 1) pe_int (fun _ _ => rfl)) (pk_cons (pe_ix ix_tup (pv 1) pe_int (fun _ _ => rfl)) pk_nil)))))
      pss_nil)
      (pss_cons (ps_if (pt_cmpR op_eq (pv 0) pe_str (nomark _))
      (pss_one (ps_ret (pe_call G_turns (hr.mono (by decide)) (by rfl) F_turns.g F_turns.F.kp F_turns.b .nil (L2N.passes_call (L2N.takes_of rfl rfl rfl rfl) (fun _ _ _ _ h => h)) (pa_cons (pe_ix ix_tup (pv 1) pe_int (fun _ _ => rfl)) (pa_cons (pe_ix ix_tup (pv 1) pe_int (fun _ _ => rfl)) pa_nil)))))
      pss_nil)
      (pss_cons (ps_if (pt_cmpR op_eq (pv 0) pe_str (nomark _))
      (pss_one (ps_ret (pe_call G_counts_after (hr.mono (by decide)) (by rfl) F_counts_after.g F_counts_after.F.kp F_counts_after.b .nil (L2N.passes_call (L2N.takes_of rfl rfl rfl rfl) (fun _ _ _ _ h => h)) (pa_cons (pe_ix ix_tup (pv 1) pe_int (fun _ _ => rfl)) (pa_cons (pe_ix ix_tup (pv 1) pe_int (fun _ _ => rfl)) pa_nil)))))
      pss_nil)
      (pss_one (ps_ret (pe_ifExp (pt_cmpR op_eq (pv 0) pe_str (nomark _)) (pe_call G_by_key (hr.mono (by decide)) (by rfl) F_by_key.g F_by_key.F.kp F_by_key.b .nil (L2N.passes_call (L2N.takes_of rfl rfl rfl rfl) (fun _ _ _ _ h => h)) (pa_cons (pe_ix ix_tup (pv 1) pe_int (fun _ _ => rfl)) (pa_cons (pe_ix ix_tup (pv 1) pe_int (fun _ _ => rfl)) (pa_cons (pe_ix ix_tup (pv 1) pe_int (fun _ _ => rfl)) pa_nil)))) (pe_call G_least_busy (hr.mono (by decide)) (by rfl) F_least_busy.g F_least_busy.F.kp F_least_busy.b .nil (L2N.passes_call (L2N.takes_of rfl rfl rfl rfl) (fun _ _ _ _ h => h)) (pa_cons (pe_ix ix_tup (pv 1) pe_int (fun _ _ => rfl)) (pa_cons (pe_ix ix_tup (pv 1) pe_int (fun _ _ => rfl)) (pa_cons (pe_ix ix_tup (pv 1) pe_int (fun _ _ => rfl)) pa_nil)))))))))))), ?_⟩
    unfold ShF at hsh
    split at hsh
    · rename_i d e
      cases hA with
      | cons hd r0 =>
       cases r0 with
       | cons he r1 =>
        cases r1
        rename_i v1 v2
        obtain ⟨⟨gq, hg⟩, _⟩ := hok _ List.mem_cons_self
        obtain ⟨⟨gq2, hg2⟩, low⟩ := hok _ (List.mem_cons_of_mem _ List.mem_cons_self)
        refine ⟨_, rfl, rfl, _, rfl, sF (by decide +kernel) ⟨_, rfl, rfl, _, rfl, sF (by decide +kernel) ⟨_, rfl, rfl, _, rfl, sT rfl ?_⟩⟩⟩
        refine ⟨_, rfl, r, _, _, _, rfl, rfl, SqT.of ar.2.2, atI_nat (j := 1) rfl, _, rfl, r, _, _, _, rfl, rfl, SqT.of ar.2.2, atI_nat (j := 0) rfl, rfl, p, c, v1, d, v2, e, gq, 8, 6000, rfl, hd, hg, he, fun z => qe 3 v1 d (by decide) hd (.inl ⟨z, rfl⟩), fun ps ed hb => ⟨fun z => qe 0 v2 e (by decide) he (.inr ⟨ps, ed, hb, .inl ⟨z, rfl⟩⟩), fun cs ee hl run i H' s' pk => ?_⟩⟩
        exact q _ _ H' s' (.inl ⟨_, rfl, rfl⟩) (.inr ⟨ps, ed, hb, .inr ⟨cs, i, ee, ⟨cs, ee, hl, run⟩, pk, rfl⟩⟩)
    · rename_i d e f
      cases hA with
      | cons hd r0 =>
       cases r0 with
       | cons he r1 =>
        cases r1 with
        | cons hf r2 =>
         cases r2
         rename_i v1 v2 v3
         obtain ⟨⟨gq, hg⟩, _⟩ := hok _ List.mem_cons_self
         obtain ⟨⟨gq2, hg2⟩, _⟩ := hok _ (List.mem_cons_of_mem _ List.mem_cons_self)
         obtain ⟨⟨gq3, hg3⟩, low⟩ := hok _ (List.mem_cons_of_mem _ (List.mem_cons_of_mem _ List.mem_cons_self))
         refine ⟨_, rfl, rfl, _, rfl, sF (by decide +kernel) ⟨_, rfl, rfl, _, rfl, sF (by decide +kernel) ⟨_, rfl, rfl, _, rfl, sF (by decide +kernel) ⟨_, rfl, rfl, _, rfl, sF (by decide +kernel) ⟨_, rfl, rfl, _, rfl, sF (by decide +kernel) ⟨_, rfl, rfl, _, rfl, sF (by decide +kernel) ?_⟩⟩⟩⟩⟩⟩
         refine ⟨_, rfl, r, _, _, _, rfl, rfl, SqT.of ar.2.2, atI_nat (j := 0) rfl, _, rfl, r, _, _, _, rfl, rfl, SqT.of ar.2.2, atI_nat (j := 1) rfl, _, rfl, r, _, _, _, rfl, rfl, SqT.of ar.2.2, atI_nat (j := 2) rfl, p, c, v1, d, v2, e, v3, f, gq, gq2, 8, 6000, rfl, hd, hg, he, hg2, hf, fun z => qe 3 v1 d (by decide) hd (.inl ⟨z, rfl⟩), fun ps ed hb => ⟨fun z => qe 1 v2 e (by decide) he (.inr ⟨ps, ed, hb, .inl ⟨z, rfl⟩⟩), fun lk => ⟨fun z => qe 0 v3 f (by decide) hf (.inr ⟨ps, ed, hb, .inr ⟨lk, .inl ⟨z, rfl⟩⟩⟩), fun ns bs ee lo hne ef hl H' s' => ?_⟩⟩⟩
         exact q _ _ H' s' (.inl ⟨_, rfl, rfl⟩) (.inr ⟨ps, ed, hb, .inr ⟨lk, .inr ⟨ns, bs, ee, hne, lo, ef, hl, rfl⟩⟩⟩)
    · rename_i d e f
      cases hA with
      | cons hd r0 =>
       cases r0 with
       | cons he r1 =>
        cases r1 with
        | cons hf r2 =>
         cases r2
         rename_i v1 v2 v3
         obtain ⟨⟨gq, hg⟩, _⟩ := hok _ List.mem_cons_self
         obtain ⟨⟨gq2, hg2⟩, _⟩ := hok _ (List.mem_cons_of_mem _ List.mem_cons_self)
         obtain ⟨⟨gq3, hg3⟩, low⟩ := hok _ (List.mem_cons_of_mem _ (List.mem_cons_of_mem _ List.mem_cons_self))
         refine ⟨_, rfl, rfl, _, rfl, sF (by decide +kernel) ⟨_, rfl, rfl, _, rfl, sF (by decide +kernel) ⟨_, rfl, rfl, _, rfl, sF (by decide +kernel) ⟨_, rfl, rfl, _, rfl, sF (by decide +kernel) ⟨_, rfl, rfl, _, rfl, sF (by decide +kernel) ⟨_, rfl, rfl, _, rfl, sT rfl ?_⟩⟩⟩⟩⟩⟩
         refine ⟨_, rfl, r, _, _, _, rfl, rfl, SqT.of ar.2.2, atI_nat (j := 0) rfl, _, rfl, r, _, _, _, rfl, rfl, SqT.of ar.2.2, atI_nat (j := 1) rfl, _, rfl, r, _, _, _, rfl, rfl, SqT.of ar.2.2, atI_nat (j := 2) rfl, p, c, v1, d, v2, e, v3, f, gq, gq2, gq3, 8, 6000, rfl, hd, hg, he, hg2, hf, hg3, by decide, fun z => qe 3 v1 d (by decide) hd (.inl ⟨z, rfl⟩), fun ps ed hb => ⟨fun z => qe 1 v2 e (by decide) he (.inr ⟨ps, ed, hb, .inl ⟨z, rfl⟩⟩), fun lk => ⟨fun z => qe 4 v3 f (by decide) hf (.inr ⟨ps, ed, hb, .inr ⟨lk, .inl ⟨z, rfl⟩⟩⟩), fun ns k ee lo hne ef hw i H' s' hb2 => ?_⟩⟩⟩
         exact q _ _ H' s' (.inl ⟨_, rfl, rfl⟩) (.inr ⟨ps, ed, hb, .inr ⟨lk, .inr ⟨ns, k, i, ee, ef, hw, hb2, hb2.mem, lo, rfl⟩⟩⟩)
    · rename_i d e
      cases hA with
      | cons hd r0 =>
       cases r0 with
       | cons he r1 =>
        cases r1
        rename_i v1 v2
        obtain ⟨⟨gq, hg⟩, _⟩ := hok _ List.mem_cons_self
        obtain ⟨⟨gq2, hg2⟩, low⟩ := hok _ (List.mem_cons_of_mem _ List.mem_cons_self)
        refine ⟨_, rfl, rfl, _, rfl, sF (by decide +kernel) ⟨_, rfl, rfl, _, rfl, sF (by decide +kernel) ⟨_, rfl, rfl, _, rfl, sF (by decide +kernel) ⟨_, rfl, rfl, _, rfl, sT rfl ?_⟩⟩⟩⟩
        refine ⟨_, rfl, r, _, _, _, rfl, rfl, SqT.of ar.2.2, atI_nat (j := 0) rfl, _, rfl, r, _, _, _, rfl, rfl, SqT.of ar.2.2, atI_nat (j := 1) rfl, p, c, v1, d, v2, e, gq, 8, 6000, rfl, hd, hg, he, fun z => qe 3 v1 d (by decide) hd (.inl ⟨z, rfl⟩), fun ps ed hb => ⟨fun z => qe 2 v2 e (by decide) he (.inr ⟨ps, ed, hb, .inl ⟨z, rfl⟩⟩), fun k ee hk t l H' s' ht tn hl => ?_⟩⟩
        exact q _ _ H' s' (.inr (.inr ⟨t, l, rfl, ht, rfl⟩)) (.inr ⟨ps, ed, hb, .inr ⟨k, l, ee, hk, tn, hl, rfl⟩⟩)
    · rename_i d
      cases hA with
      | cons hd r0 =>
        cases r0
        rename_i v1
        obtain ⟨⟨gq, hg⟩, _⟩ := hok _ List.mem_cons_self
        exact ⟨_, rfl, rfl, _, rfl, sT rfl ⟨_, rfl, r, _, _, _, rfl, rfl, SqT.of ar.2.2, atI_nat (j := 0) rfl, p, c, v1, d, gq, 8, 6000, rfl, hd, hg, fun H' s' => q _ _ H' s' (.inr (.inl ⟨_, rfl, rfl⟩)) rfl⟩⟩
    · rename_i d e
      cases hA with
      | cons hd r0 =>
       cases r0 with
       | cons he r1 =>
        cases r1
        rename_i v1 v2
        obtain ⟨⟨gq, hg⟩, _⟩ := hok _ List.mem_cons_self
        obtain ⟨⟨gq2, hg2⟩, low⟩ := hok _ (List.mem_cons_of_mem _ List.mem_cons_self)
        refine ⟨_, rfl, rfl, _, rfl, sF (by decide +kernel) ⟨_, rfl, rfl, _, rfl, sF (by decide +kernel) ⟨_, rfl, rfl, _, rfl, sF (by decide +kernel) ⟨_, rfl, rfl, _, rfl, sF (by decide +kernel) ⟨_, rfl, rfl, _, rfl, sT rfl ?_⟩⟩⟩⟩⟩
        refine ⟨_, rfl, r, _, _, _, rfl, rfl, SqT.of ar.2.2, atI_nat (j := 0) rfl, _, rfl, r, _, _, _, rfl, rfl, SqT.of ar.2.2, atI_nat (j := 1) rfl, p, c, v1, d, v2, e, gq, 8, 6000, rfl, hd, hg, he, fun z => qe 3 v1 d (by decide) hd (.inl ⟨z, rfl⟩), fun ps ed hb => ⟨fun z => qe 2 v2 e (by decide) he (.inr ⟨ps, ed, hb, .inl ⟨z, rfl⟩⟩), fun k ee t ks H' s' ht hl run => ?_⟩⟩
        exact q _ _ H' s' (.inr (.inr ⟨t, ks, rfl, ht, rfl⟩)) (.inr ⟨ps, ed, hb, .inr ⟨k, ks, ee, hl, run, rfl⟩⟩)
    · rename_i d e
      cases hA with
      | cons hd r0 =>
       cases r0 with
       | cons he r1 =>
        cases r1
        rename_i v1 v2
        obtain ⟨⟨gq, hg⟩, _⟩ := hok _ List.mem_cons_self
        obtain ⟨⟨gq2, hg2⟩, low⟩ := hok _ (List.mem_cons_of_mem _ List.mem_cons_self)
        refine ⟨_, rfl, rfl, _, rfl, sF (by decide +kernel) ⟨_, rfl, rfl, _, rfl, sT rfl ?_⟩⟩
        refine ⟨_, rfl, r, _, _, _, rfl, rfl, SqT.of ar.2.2, atI_nat (j := 0) rfl, _, rfl, r, _, _, _, rfl, rfl, SqT.of ar.2.2, atI_nat (j := 1) rfl, p, c, v1, d, v2, e, gq, gq2, 8, 6000, rfl, hd, hg, he, hg2, fun z => qe 4 v1 d (by decide) hd (.inl ⟨z, rfl⟩), fun z1 z => qe 4 v2 e (by decide) he (.inr (.inl ⟨z1, z, rfl⟩)), fun k l ed ee hk hl H' s' => ?_⟩
        exact q _ _ H' s' (.inl ⟨_, rfl, rfl⟩) (.inr (.inr ⟨k, l, ed, ee, hk, hl, rfl⟩))
    · exact hsh.elim
end
end Ag

end
/-! ## Pw -/
section
set_option linter.all false
set_option maxRecDepth 100000
namespace Ag
open PySem PySem.Spec PyProof.Rows L2
/-! ### lists of pairs (a word, whether it is so) -/
inductive PsA (H : Hp) : List V → List (Str × Bool) → Prop
  | nil : PsA H [] []
  | cons {t : Addr} {s : Str} {b : Bool} {vs : List V} {ps : List (Str × Bool)} (at_ : H t = some (.tup [.str s, .bl b])) (r : PsA H vs ps) : PsA H (.ref t :: vs) ((s, b) :: ps)
section
variable {H H' : Hp} {vs ws : List V} {ps qs : List (Str × Bool)}
theorem PsA.to (h : PsA H vs ps) (s : Same H H') : PsA H' vs ps := by
  induction h with
  | nil => exact .nil
  | cons a _ ih => exact .cons (s _ _ a) ih
theorem PsA.app (h : PsA H vs ps) (k : PsA H ws qs) : PsA H (vs ++ ws) (ps ++ qs) := by
  induction h with
  | nil => exact k
  | cons a _ ih => exact .cons a ih
theorem PsA.len (h : PsA H vs ps) : vs.length = ps.length := by
  induction h with
  | nil => rfl
  | cons _ _ ih => exact congrArg (· + 1) ih
theorem PsA.get (h : PsA H vs ps) : ∀ {i : Nat} {v : V}, vs[i]? = some v → ∃ t s b, v = .ref t ∧ ps[i]? = some (s, b) ∧ H t = some (.tup [.str s, .bl b]) := by
  induction h with
  | nil => intro i v e; simp at e
  | @cons t s b _ _ a _ ih =>
    intro i v e
    cases i with
    | zero => exact ⟨t, s, b, (by simpa using e.symm), rfl, a⟩
    | succ j => exact ih (i := j) (by simpa using e)
theorem PsA.put {D : Addr} {xs ys : List V} (h : PsA H vs ps) (e : H D = some (.lst xs)) : PsA (upd H D (.lst ys)) vs ps := by
  induction h with
  | nil => exact .nil
  | @cons t _ _ _ _ a _ ih =>
    refine .cons ?_ ih
    rw [upd_ne fun z => ?_]
    · exact a
    · rw [z, e] at a; cases a
end
theorem sel_at {α : Type} (l : List α) (p : α → Bool) (f : α → V) (d : α) : ((List.range l.length).filter fun i => p (l.getD i d)).map (fun i => f (l.getD i d)) = (l.filter p).map f := by
  induction l with
  | nil => rfl
  | cons a l ih =>
    rw [List.length_cons, List.range_succ_eq_map, List.filter_cons, List.filter_map, List.filter_cons]
    have e : (l.filter p).map f = ((List.range l.length).filter ((fun i => p ((a :: l).getD i d)) ∘ Nat.succ)).map ((fun i => f ((a :: l).getD i d)) ∘ Nat.succ) := ih.symm
    show List.map _ (if p a = true then 0 :: _ else _) = _
    cases h : p a
    · rw [if_neg (by decide), if_neg (by decide), List.map_map, e]
    · rw [if_pos rfl, if_pos rfl, List.map_cons, List.map_cons, List.map_map, e]
      rfl
section
variable {K : PySem.W.Frag} {a D : Addr} {H1 : Hp} {vs : List V} {ps : List (Str × Bool)} {gt : TG} {tt : TT} {te : TE} {sl : List Nat} {σ : L2.St} {Qd : Hp → Prop}
/-- [word for word, is_it in words if is_it] -/
theorem lc_words (h : PsA H1 vs ps) (hq : H1 a = some (.lst vs)) (hn : vs.length ≤ 16000000) (hD : H1 D = none)
    (hs : ∀ t s b H (k : VK) (k0 : Hp → Prop), H t = some (.tup [.str s, .bl b]) → (b = true → k (.str s) H) → (b = false → k0 H) → gt (.ref t) (wipe σ sl) H fun σ2 H2 => wipe σ2 sl = wipe σ sl ∧ tt σ2 H2 fun b H3 => if b = true then te σ2 H3 k else k0 H3)
    (hd : ∀ H, Same H1 H → H D = some (.lst ((ps.filter (·.2)).map fun p => .str p.1)) → Qd H) :
    ∃ W : Nat → Nat → Hp → Prop, (∃ m, W 0 m (upd H1 D (.lst []))) ∧ ∀ i m H, W i m H →
      ((Itl K a).stop i H ∧ Qd H) ∨ ((Itl K a).go i H ∧ ∃ Nx : Hp → Prop, (∀ H', Nx H' → ∃ m', m' < m ∧ W (i + 1) m' H') ∧ ∀ x H', (Itl K a).yld i H x H' → gt x (wipe σ sl) H' fun σ2 H2 => wipe σ2 sl = wipe σ sl ∧ tt σ2 H2 fun b H3 =>
        if b = true then te σ2 H3 fun y H4 => ∃ acc, H4 D = some (.lst acc) ∧ acc.length < sizeLine ∧ Nx (upd H4 D (.lst (acc ++ [y]))) else Nx H3) := by
  refine lc_sel (walk_list (K := K) (a := a) (xs := vs)) (fun i => (ps.getD i (Str.ofString "", false)).2) (fun i => .str (ps.getD i (Str.ofString "", false)).1) hn hD (fun H' s => SqL.of (s _ _ hq)) ?_ fun H2 s2 h2 => hd H2 s2 ?_
  · rintro j y H2 H3 k k0 hi s1 ⟨rfl, hy⟩ hk hk0
    obtain ⟨t, s, b, rfl, e, ea⟩ := h.get hy
    rw [List.getD_eq_getElem?_getD, e] at hk hk0
    exact hs t s b _ k k0 (s1 _ _ ea) (fun z => hk z _ (Same.refl _)) fun z => hk0 z _ (Same.refl _)
  · rw [h2, h.len, sel_at ps (fun p => p.2) (fun p => .str p.1)]
/-- [(word, is_it) for word, is_it in words if is_it] -/
theorem lc_pairs (h : PsA H1 vs ps) (hq : H1 a = some (.lst vs)) (hn : vs.length ≤ 16000000) (hD : H1 D = none)
    (hs : ∀ t s b H (k : VK) (k0 : Hp → Prop), Same H1 H → H t = some (.tup [.str s, .bl b]) → (b = true → ∀ T, H T = none → k (.ref T) (upd H T (.tup [.str s, .bl true]))) → (b = false → k0 H) → gt (.ref t) (wipe σ sl) H fun σ2 H2 => wipe σ2 sl = wipe σ sl ∧ tt σ2 H2 fun b H3 => if b = true then te σ2 H3 k else k0 H3)
    (hd : ∀ H ws, Same H1 H → H D = some (.lst ws) → PsA H ws (ps.filter (·.2)) → Qd H) :
    ∃ W : Nat → Nat → Hp → Prop, (∃ m, W 0 m (upd H1 D (.lst []))) ∧ ∀ i m H, W i m H →
      ((Itl K a).stop i H ∧ Qd H) ∨ ((Itl K a).go i H ∧ ∃ Nx : Hp → Prop, (∀ H', Nx H' → ∃ m', m' < m ∧ W (i + 1) m' H') ∧ ∀ x H', (Itl K a).yld i H x H' → gt x (wipe σ sl) H' fun σ2 H2 => wipe σ2 sl = wipe σ sl ∧ tt σ2 H2 fun b H3 =>
        if b = true then te σ2 H3 fun y H4 => ∃ acc, H4 D = some (.lst acc) ∧ acc.length < sizeLine ∧ Nx (upd H4 D (.lst (acc ++ [y]))) else Nx H3) := by
  have put : ∀ (H : Hp) (o : HO), Same H1 H → Same H1 (upd H D o) := fun H o s b u eb => by
    rw [upd_ne (ne_of_none eb hD)]
    exact s b u eb
  refine lc_it (g := gt) (tt := tt) (te := te) (vs := sl) (σ := σ) (walk_list (K := K) (a := a) (xs := vs)) (fun i H => Same H1 H ∧ ∃ ws, H D = some (.lst ws) ∧ ws.length ≤ i ∧ PsA H ws ((ps.take i).filter (·.2))) ⟨put _ _ (Same.refl _), [], upd_same, Nat.le_refl _, .nil⟩ (fun i H _ p => SqL.of (p.1 _ _ hq)) ?_ ?_
  · rintro i x H H' hi ⟨s1, ws, hw, lw, pw⟩ ⟨rfl, hx⟩
    obtain ⟨t, s, b, rfl, e, ea⟩ := h.get hx
    have tk : ps.take (i + 1) = ps.take i ++ [(s, b)] := by rw [List.take_succ, e]; rfl
    refine hs t s b _ _ _ s1 (s1 _ _ ea) (fun z T hT => ?_) fun z => ⟨s1, ws, hw, Nat.le_succ_of_le lw, ?_⟩
    · have ne : D ≠ T := ne_of_none hw hT
      have hw' : upd H' T (.tup [.str s, .bl true]) D = some (.lst ws) := by rw [upd_ne ne]; exact hw
      refine ⟨ws, hw', by rw [sizeLine_eq]; omega, put _ _ (s1.trans (same_new hT)), ws ++ [.ref T], upd_same, by simp; omega, ?_⟩
      rw [tk, List.filter_append, z]
      exact ((pw.to (same_new hT)).put hw').app (.cons (by rw [upd_ne (Ne.symm ne), upd_same]) .nil)
    · rw [tk, List.filter_append, z]
      simpa using pw
  · rintro H ⟨s1, ws, hw, _, pw⟩
    refine hd H ws s1 hw ?_
    rw [h.len, List.take_length] at pw
    exact pw
end
end Ag

end
/-! ## XH -/
section
set_option linter.all false
set_option maxRecDepth 100000
set_option maxHeartbeats 2000000
namespace Ag
open PySem PySem.Spec PyProof.Rows L2 HotX
/-! ### the end of a walk while an exception is handled -/
section
variable {prog : Program} {w : World} {A : Around} {E : Value → Shared → Prop} {s : Shared} {it x1 : Addr}
/-- no item is left: the iterator lets its thing go, StopIteration is raised and heard -/
theorem stop_hot {α : Type} {oi : Obj} {vi : Array Value} {Q : α → Shared → Prop} {K : Value → Shared → Prop} (hot : HotAt A x1 s.heap) (apart : x1 ≠ it) (hi : s.heap.get? it = some oi) (di : oi.data = .fields vi) (n0 : 0 < vi.size)
    (k : ∀ a h', Heap.ExtBut it s.heap h' → (∃ o, h'.get? a = some o ∧ o.cls = .type "StopIteration") → K (.ref a) { s with heap := h' }) :
    wpAny (model prog w) A (do setField (.ref it) 0 .none; raiseNew (← newExc (.type "StopIteration") []) : Sem α) Q K s := by
  obtain ⟨hh, o1, v1, g1, d1, c1⟩ := hot
  refine wpAny_bind (wpAny_setField hi di n0 ?_)
  have g2 : (s.heap.update it (Obj.mapFields (·.setIfInBounds 0 Value.none))).get? x1 = some o1 := (Heap.get?_update_other _ _ (Ne.symm apart)).trans g1
  have e2 : Heap.ExtBut it s.heap (s.heap.update it (Obj.mapFields (·.setIfInBounds 0 Value.none))) := (Heap.SameBut.update ..).extBut
  generalize s.heap.update it (Obj.mapFields (·.setIfInBounds 0 Value.none)) = h2 at g2 e2 ⊢
  refine wpAny_bind ?_
  simp only [newExc, newTuple]; refine wpAny_bind (wpAny_newObj_type ?_ (by size_fits))
  refine wpAny_bind (m := firstArgMember _ _) (wpAny_of_eq (a := Value.none) (by first | rfl | (simp only [firstArgMember]; rfl)) ?_); refine wpAny_newObj_type ?_ (by size_fits)
  have g3 : ∀ {p q : Obj}, ((h2.push p).push q).get? x1 = some o1 := fun {p q} => Heap.get?_push_of_some _ (Heap.get?_push_of_some _ g2)
  refine raiseNew_hot (oe := _) ⟨hh, o1, v1, g3, d1, c1⟩ (Nat.ne_of_lt (Heap.lt_size (Heap.get?_push_of_some _ g2))) (Heap.get?_push_size _ rfl) rfl (by first | (simp; done) | (simp; omega) | (simp only [Array.size_append]; simp; omega)) (k _ _ (fun b o nb z => ?_) ⟨_, Heap.get?_update_self _ (Heap.get?_push_size _ rfl) rfl, rfl⟩)
  have z2 := e2 b o nb z
  exact (Heap.get?_update_other _ _ (Nat.ne_of_gt (Heap.lt_size (Heap.get?_push_of_some _ z2)))).trans (Heap.get?_push_of_some _ (Heap.get?_push_of_some _ z2))
theorem tup_end_hot {t : Addr} {n : Nat} {xs : Array Value} {Q : Option Value → Shared → Prop} (hot : HotAt A x1 s.heap) (apart : x1 ≠ it) (hit : IsTupIter s.heap it t n) (ht : IsTup s.heap t xs) (hn : xs[n]? = none)
    (k : ∀ h', Heap.ExtBut it s.heap h' → Q none { s with heap := h' }) : wpAny (model prog w) A (pyNext (.ref it)) Q E s := by
  obtain ⟨oi, g1, c1, d1⟩ := id hit
  obtain ⟨ot, g2, _, nt, d2⟩ := ht
  have f0 := fun {Q : Value → Shared → Prop} {E : Value → Shared → Prop} (q : Q (.ref t) s) => wpAny_field (M := model prog w) (A := A.in1) (E := E) (i := 0) g1 d1 (x := .ref t) rfl q
  have f1 := fun {Q : Value → Shared → Prop} {E : Value → Shared → Prop} (q : Q (.int n 0) s) => wpAny_field (M := model prog w) (A := A.in1) (E := E) (i := 1) g1 d1 (x := .int n 0) rfl q
  have f2 := fun {Q : Option (Array Value) → Shared → Prop} {E : Value → Shared → Prop} (q : Q (some xs) s) => wpAny_seqItems (M := model prog w) (A := A.in1) (E := E) g2 d2 q
  unfold pyNext
  refine wpAny_bind (wpAny_attempt (wpAny_callSpecial?_slot (name := Str.ofString "__next__") hit.typeIs slot_tupleiter_next (wpAny_call_entry slot_tupleiter_next hit.typeIs entry_tupleiter_next ?_ (args_tupleiter_next _))))
  show wpAny _ _ (field (.ref it) 0 >>= _) _ _ s; refine wpAny_bind (f0 ?_)
  show wpAny _ _ (if (Value.ref t == Value.none) = true then _ else _) _ _ s; rw [if_neg (show ¬ ((Value.ref t == Value.none) = true) from Bool.false_ne_true)]
  show wpAny _ _ (field (.ref it) 1 >>= _) _ _ s; refine wpAny_bind (f1 ?_)
  show wpAny _ _ (seqItems? (.ref t) >>= _) _ _ s; refine wpAny_bind (f2 ?_)
  simp only [Int.toNat_natCast, hn]; refine wpAny_bind (wpAny_rule ?_)
  refine stop_hot (A := A.in1) ⟨hot.1, hot.2⟩ apart g1 d1 (by simp) fun a h' eb ⟨o, z, c⟩ => ?_
  refine wpAny_bind (wpAny_isInstance (T := "StopIteration") (b := true) ⟨o, z, c⟩ isSubtype_stop (wpAny_pure (k h' eb)))
theorem lst_end_hot {l : Addr} {n : Nat} {xs : Array Value} {Q : Option Value → Shared → Prop} (hot : HotAt A x1 s.heap) (apart : x1 ≠ it) (hit : s.heap.IsListIter it l n) (hl : s.heap.IsList l xs) (hn : xs[n]? = none)
    (k : ∀ h', Heap.ExtBut it s.heap h' → Q none { s with heap := h' }) : wpAny (model prog w) A (pyNext (.ref it)) Q E s := by
  obtain ⟨oi, g1, c1, d1⟩ := id hit
  obtain ⟨ol, g2, _, nl, d2⟩ := hl
  have f0 := fun {Q : Value → Shared → Prop} {E : Value → Shared → Prop} (q : Q (.ref l) s) => wpAny_field (M := model prog w) (A := A.in1) (E := E) (i := 0) g1 d1 (x := .ref l) rfl q
  have f1 := fun {Q : Value → Shared → Prop} {E : Value → Shared → Prop} (q : Q (.int n 0) s) => wpAny_field (M := model prog w) (A := A.in1) (E := E) (i := 1) g1 d1 (x := .int n 0) rfl q
  have f2 := fun {Q : Option (Array Value) → Shared → Prop} {E : Value → Shared → Prop} (q : Q (some xs) s) => wpAny_seqItems (M := model prog w) (A := A.in1) (E := E) g2 d2 q
  unfold pyNext
  refine wpAny_bind (wpAny_attempt (wpAny_callSpecial?_slot (name := Str.ofString "__next__") hit.typeIs slot_listiter_next (wpAny_call_entry slot_listiter_next hit.typeIs entry_listiter_next ?_ (args_listiter_next _))))
  show wpAny _ _ (field (.ref it) 0 >>= _) _ _ s; refine wpAny_bind (f0 ?_)
  show wpAny _ _ (if (Value.ref l == Value.none) = true then _ else _) _ _ s; rw [if_neg (show ¬ ((Value.ref l == Value.none) = true) from Bool.false_ne_true)]
  show wpAny _ _ (field (.ref it) 1 >>= _) _ _ s; refine wpAny_bind (f1 ?_)
  show wpAny _ _ (seqItems? (.ref l) >>= _) _ _ s; refine wpAny_bind (f2 ?_)
  simp only [Int.toNat_natCast, hn]; refine wpAny_bind (wpAny_rule ?_)
  refine stop_hot (A := A.in1) ⟨hot.1, hot.2⟩ apart g1 d1 (by simp) fun a h' eb ⟨o, z, c⟩ => ?_
  refine wpAny_bind (wpAny_isInstance (T := "StopIteration") (b := true) ⟨o, z, c⟩ isSubtype_stop (wpAny_pure (k h' eb)))
end
end Ag

end
/-! ## XH2 -/
section
set_option linter.all false
set_option maxRecDepth 100000
set_option maxHeartbeats 2000000
namespace Ag
open PySem PySem.Spec PyProof.Rows L2 HotX L2H
/-! ### within an except suite: comprehensions over lists and tuples, a tuple taken apart, a, b = x, y -/
/-- the handled exception is held by the context -/
theorem hot_over {X : Cx} {pins : List (Addr × Obj)} {σ : L2.St} {H : Hp} {s : Shared} (c : HotC X) (I : Inv X pins σ H s) : ∃ x, HotAt X.A x s.heap ∧ x ≠ X.env.locals ∧ (∀ b, FpOk X pins H b → x ≠ b) ∧ x ∉ X.fs := by
  obtain ⟨p, ⟨e1, vs, e2, e3⟩, hp⟩ := c
  have hp := List.mem_append_left pins hp
  obtain ⟨a1, _, a3, a4, _⟩ := I.pin p hp
  exact ⟨p.1, ⟨e1, p.2, vs, a1, e2, e3⟩, a3, fun b f => f.2.2.2.2.2 p hp, a4⟩
section
variable {P : Program} {w : World} {K : PySem.W.Frag} {tg : Expr}
theorem trn_list (a it : Addr) : Trn HotC P w K tg (Itl K a) [it] it (fun i h => h.IsListIter it a i) := by
  have t := turn_list (P := P) (w := w) (K := K) (tg := tg) a it
  refine ⟨t.obj, t.keep, ?_, ?_, t.self⟩
  · rintro X n pins s σ H E rfl rfl rfl hc I f st ⟨xs, x, hq, hx⟩
    obtain ⟨its, rv, pl, _⟩ := I.list hq
    obtain ⟨u, hu, ru⟩ := rv.get hx
    obtain ⟨f0, f1, f2, f3, f4, f5⟩ := f it (List.mem_singleton.mpr rfl)
    refine wpAny_pyNext_list_item st pl.isList (x := u) (by rw [List.getElem?_toArray]; exact hu) fun h2 st2 sb => ?_
    have J : Inv X pins σ H { s with heap := h2 } := I.turned (t' := s.toks) (fun b o nb z => (sb.2 b nb).trans z) f0 f1 f3 f4 f5
    obtain ⟨o, e, c, d⟩ := id st2
    refine ⟨u, rfl, go_of (s := { s with heap := h2 }) e c d (by decide) ⟨x, H, J, ru, ⟨rfl, fun ys hy => ?_⟩, st2, fun b hb => (f b hb).1⟩⟩
    rw [I.list_inj hy hq]
    exact hx
  · rintro X n pins s σ H E rfl rfl rfl hc I f st ⟨xs, hq, hx⟩
    obtain ⟨its, rv, pl, _⟩ := I.list hq
    have ff := f it (List.mem_singleton.mpr rfl)
    obtain ⟨f0, f1, f2, f3, f4, f5⟩ := id ff
    obtain ⟨x1, hot, _, ap, _⟩ := hot_over hc I
    have hl := rv.length
    exact lst_end_hot hot (ap it ff) st pl.isList (by rw [List.getElem?_toArray, List.getElem?_eq_none (by omega)]) fun h2 eb => ⟨rfl, I.turned (t' := s.toks) (fun b o nb z => eb b o nb z) f0 f1 f3 f4 f5⟩
theorem trn_tup (a it : Addr) : Trn HotC P w K tg (Itt K a) [it] it (fun i h => h.IsTupleIter it a i) := by
  have t := turn_tuple (P := P) (w := w) (K := K) (tg := tg) a it
  refine ⟨t.obj, t.keep, ?_, ?_, t.self⟩
  · rintro X n pins s σ H E rfl rfl rfl hc I f st ⟨xs, x, hq, hx⟩
    obtain ⟨its, rv, pt, _⟩ := I.tuple hq
    obtain ⟨u, hu, ru⟩ := rv.get hx
    obtain ⟨f0, f1, f2, f3, f4, f5⟩ := f it (List.mem_singleton.mpr rfl)
    refine wpAny_pyNext_tuple_item st (show s.heap.IsTuple a its.toArray from pt) (x := u) (by rw [List.getElem?_toArray]; exact hu) fun h2 st2 sb => ?_
    have J : Inv X pins σ H { s with heap := h2 } := I.turned (t' := s.toks) (fun b o nb z => (sb.2 b nb).trans z) f0 f1 f3 f4 f5
    obtain ⟨o, e, c, d⟩ := id st2
    refine ⟨u, rfl, go_of (s := { s with heap := h2 }) e c d (by decide) ⟨x, H, J, ru, ⟨rfl, fun ys hy => ?_⟩, st2, fun b hb => (f b hb).1⟩⟩
    rw [I.tuple_inj hy hq]
    exact hx
  · rintro X n pins s σ H E rfl rfl rfl hc I f st ⟨xs, hq, hx⟩
    obtain ⟨its, rv, pt, _⟩ := I.tuple hq
    have ff := f it (List.mem_singleton.mpr rfl)
    obtain ⟨f0, f1, f2, f3, f4, f5⟩ := id ff
    obtain ⟨x1, hot, _, ap, _⟩ := hot_over hc I
    have hl := rv.length
    exact tup_end_hot hot (ap it ff) st pt (by rw [List.getElem?_toArray, List.getElem?_eq_none (by omega)]) fun h2 eb => ⟨rfl, I.turned (t' := s.toks) (fun b o nb z => eb b o nb z) f0 f1 f3 f4 f5⟩
end
section
variable {X : Cx} {tg : Expr}
theorem pic_list {l : Expr} {tl : TE} (hl : PE X l tl) : Pic HotC X tg l (iList X.K tl) := by
  intro pins s σ H R I h
  refine thn (hl.run pins s σ H _ I h) fun v s1 ⟨x, H1, I1, r1, a, e, ⟨xs, hq⟩, q⟩ => ?_
  subst e
  cases r1
  obtain ⟨its, rv, pl, _⟩ := I1.list hq
  refine wpAny_pyIter_list pl.isList ⟨s1.heap.objs.size, [s1.heap.objs.size], _, _, H1, rfl, I1.kept (t' := s1.toks) fun b o z => Heap.get?_push_of_some _ z, trn_list a _, ⟨_, Heap.get?_push_size _ rfl, rfl, rfl⟩, fun b hb => ?_, q⟩
  rw [List.mem_singleton.mp hb]
  exact I1.fpOk (Nat.le_refl _) (I1.hok.fresh (Nat.le_refl _))
theorem pic_tup {l : Expr} {tl : TE} (hl : PE X l tl) : Pic HotC X tg l (iTup X.K tl) := by
  intro pins s σ H R I h
  refine thn (hl.run pins s σ H _ I h) fun v s1 ⟨x, H1, I1, r1, a, e, ⟨xs, hq⟩, q⟩ => ?_
  subst e
  cases r1
  obtain ⟨its, rv, pt, _⟩ := I1.tuple hq
  refine wpAny_pyIter_tuple (show s1.heap.IsTuple a its.toArray from pt) ⟨s1.heap.objs.size, [s1.heap.objs.size], _, _, H1, rfl, I1.kept (t' := s1.toks) fun b o z => Heap.get?_push_of_some _ z, trn_tup a _, ⟨_, Heap.get?_push_size _ rfl, rfl, rfl⟩, fun b hb => ?_, q⟩
  rw [List.mem_singleton.mp hb]
  exact I1.fpOk (Nat.le_refl _) (I1.hok.fresh (Nat.le_refl _))
variable {elt iter : Expr} {ifs : List Expr} {scope : Scope} {own : List (Str × Nat)} {pos : Pos} {wi : TI} {g : TG} {tt : TT} {te : TE}
/-- a part of such a comprehension's block: nothing is raised in it, the handled exception is held -/
abbrev InHot (X : Cx) (p : Addr × Obj) (scope : Scope) (R : Cx → Prop) : Prop := ∀ (s : Shared) (H : Hp) (C : Addr) (cl : List (Str × Addr)) (fp : List Addr), R ((X.blk s H scope (compEnvC scope cl C X.env) fp).tr [p] fun _ _ => False)
theorem pe_lcH {p : Addr × Obj} (hp : p ∈ X.pn) (hot : Hot1 X.A p) (hN : X.N.Nodup) (hi : Pic HotC X tg iter wi) (bk : BlkOk X.N X.env.scope scope own) (hg : InHot X p scope fun Y => PG Y tg g) (ht : InHot X p scope fun Y => PTs Y ifs tt) (he : InHot X p scope fun Y => PE Y elt te)
    (hz : ∀ x, foldedSetIterable iter X.env x = pure x := by intro _; rfl) : PE X (.ListComp elt [⟨tg, iter, ifs, 0⟩] scope pos) (tLc wi g tt te (own.map (·.2))) := by
  constructor
  intro pins s σ H Q I h
  rw [eval_ListComp]
  have un : ∀ {Y : Cx} {E : Value → Shared → Prop} {qs : List (Addr × Obj)} {τ : L2.St} {G : Hp} {u : Shared}, Inv (Y.wish E) qs τ G u → Inv Y qs τ G u := fun J => J.unwish
  have to : ∀ {Y : Cx} {E : Value → Shared → Prop} {qs : List (Addr × Obj)} {τ : L2.St} {G : Hp} {u : Shared}, Inv Y qs τ G u → Inv (Y.wish E) qs τ G u := fun J => J.wish _
  refine lc_wide (ok := HotC) (bp := [p]) (use := none) hN I (fun q hq => ?_) (fun _ _ _ _ _ => ⟨p, hot, List.mem_singleton.mpr rfl⟩) hi bk (fun acc s3 H3 C cl fp => ⟨fun qs u τ G v x R J r q => ?_⟩) (fun acc s3 H3 C cl fp _ hC J ok => ⟨fun qs u τ G R J q => ?_⟩) (fun acc s3 H3 C cl fp _ hC J ok => ⟨fun qs u τ G R J q => ?_⟩) hz h ?_
  · rw [List.mem_singleton.mp hq]
    exact List.mem_append_left _ hp
  · exact wpAny_mono ((hg s3 H3 C cl fp).run qs u τ G v x R (to (E := fun _ _ => False) J) r q) (fun _ _ ⟨a, b, c, d⟩ => ⟨a, b, un (E := fun _ _ => False) (Y := blkX X [p] none _ acc s3 H3 scope _ fp) c, d⟩) fun _ _ z => z.elim
  · exact wpAny_mono ((ht s3 H3 C cl fp).run qs u τ G R (to (E := fun _ _ => False) J) q) (fun _ _ ⟨b, c, d⟩ => ⟨b, un (E := fun _ _ => False) (Y := blkX X [p] none _ acc s3 H3 scope _ fp) c, d⟩) fun _ _ z => z.elim
  · exact wpAny_mono ((he s3 H3 C cl fp).run qs u τ G R (to (E := fun _ _ => False) J) q) (fun _ _ ⟨a, b, c, d⟩ => ⟨a, b, un (E := fun _ _ => False) (Y := blkX X [p] none _ acc s3 H3 scope _ fp) c, d⟩) fun _ _ z => z.elim
  · rintro D C s' m H' I' q hn ⟨f0, f1, _, f3, f4, f5⟩
    exact ⟨m, hn, fun h2 sb => ⟨.ref D, H', I'.turned (t' := s'.toks) (fun b o hb z => (sb.2 b hb).trans z) f0 f1 f3 f4 f5, rfl, q⟩⟩
end
end Ag

end
/-! ## TryI -/
section
set_option linter.all false
set_option maxRecDepth 100000
set_option maxHeartbeats 4000000
namespace Ag
open PySem PySem.Spec PyProof.Rows L2
/-! ### isinstance of the exception that the suite holds, with fields of its own -/
/-- isinstance(e, C) -/
def rIsX (K : PySem.W.Frag) (cls : Value) (d : Option Addr) (a : Addr) : List V → Hp → VK → Prop := fun xs H Q => ∃ (D dd : Addr) (fs : List (Str × V)) (c : V) (cv : Value) (b : Bool),
  xs = [.ref a, c] ∧ cls = .ref D ∧ d = some dd ∧ H dd = some (.xd fs) ∧ ExcC K D ∧ (∀ u, RelV c u → u = cv) ∧ PySem.W.kitOne K (.ref D) cv = some b ∧ Q (.bl b) H
theorem call_isX {X : Cx} {a : Addr} {oe : Obj} {cls : Value} {d : Option Addr} {pn : List (Addr × Obj)} (hz : Zc cls d oe) (hf : ∃ vs, oe.data = .fields vs) : CallR (X.suite a ((a, oe) :: pn)) (.builtin "isinstance") (rIsX X.K cls d a) := by
  intro pins s σ H xs us Q I r h
  obtain ⟨D, dd, fs, c, cv, b, rfl, rfl, rfl, ea, C, hcv, e, q⟩ := h
  cases r with
  | cons rx rr =>
    cases rr with
    | cons rt rr =>
      cases rr
      cases rx
      have ec := hcv _ rt
      subst ec
      obtain ⟨hget, _⟩ := I.pin (a, oe) (List.mem_append.mpr (.inl List.mem_cons_self))
      obtain ⟨vs, hv⟩ := hf
      have hx : ObjOk X.prog X.w H s.heap dd (.xd fs) := I.hok dd _ ea
      obtain ⟨mA, hns, _⟩ := hx
      obtain ⟨od, ho, _⟩ := lookIn_ns hns
      have J : PySem.W.InstAt s.heap a oe D (some od) := ⟨hget, hz.1, by unfold PySem.W.notCls; rw [hv] <;> rfl, by rw [hz.2]; exact ho⟩
      obtain ⟨cdD, hcD, _⟩ := PySem.W.any_some C.hd
      exact PySem.W.kia_one (PySem.W.kitx_exc (by rw [hcD] <;> rfl) C.hg C.hk C.hs C.ha C.hn C.ht C.hm) I.kIn J e (fun z => nomatch z) fun tk => ⟨.bl b, H, I.kept (t' := tk) fun _ _ z => z, rfl, q⟩
/-- a class of the module, as a value -/
theorem pe_cls {X : Cx} {x : Str} {C : Addr} {p : Pos} (hg : Gl X x) (hm : X.mg x = some (.ref C)) (hdb : (x == ("__debug__" : Str)) = false := by decide) : PE X (.Name x p) (tC (.ref C)) :=
  ⟨fun pins s σ H Q I h => ld_glob I hg hm ⟨.ref C, H, I, rfl, h⟩ hdb⟩
theorem ref_only {C : Addr} : ∀ u, RelV (.ref C) u → u = .ref C := fun u h => h
end Ag

end
/-! ## XH3 -/
section
set_option linter.all false
set_option maxRecDepth 100000
set_option maxHeartbeats 2000000
namespace Ag
open PySem PySem.Spec PyProof.Rows L2 HotX L2H
section
variable {prog : Program} {w : World} {A : Around} {E : Value → Shared → Prop} {s : Shared} {x1 : Addr}
theorem items_hot {t : Addr} {xs : Array Value} {Q : List Value → Shared → Prop} (hot : HotAt A x1 s.heap) (ht : IsTup s.heap t xs) (k : ∀ h', Heap.ExtBut s.heap.objs.size s.heap h' → Q xs.toList { s with heap := h' }) :
    wpAny (model prog w) A (unpackItems (.ref t) xs.size none) Q E s := by
  obtain ⟨hh, o1, v1, g1, d1, c1⟩ := hot
  have ne : t ≠ s.heap.objs.size := by
    obtain ⟨o, z, _⟩ := ht
    exact Nat.ne_of_lt (Heap.lt_size z)
  unfold unpackItems
  apply wpAny_bind
  unfold notIterableAtAll
  refine wpAny_bind (wpAny_specialOf ht.typeIs slot_tuple_iter.lookup (wpAny_pure ?_))
  simp only [Bool.false_eq_true, if_false]; refine wpAny_bind (wpAny_holding (iter_tuple ht ?_))
  refine wpAny_bind (wpAny_holding (draw_tuple ne xs.size 0 _ _ ⟨_, Heap.get?_push_size _ rfl, rfl, rfl⟩ (ht.push _) (by omega) fun h1 it1 sb => ?_))
  have e : List.take xs.size (List.drop 0 xs.toList) = xs.toList := by rw [List.drop_zero]; exact List.take_of_length_le (by simp)
  rw [e, if_neg (by simp)]
  have lt1 : x1 ≠ s.heap.objs.size := Nat.ne_of_lt (Heap.lt_size g1)
  have at1 : h1.get? x1 = some o1 := (sb.2 x1 lt1).trans (Heap.get?_push_of_some _ g1)
  refine wpAny_bind (wpAny_holding (tup_end_hot (s := { s with heap := h1 }) ⟨hh, o1, v1, at1, d1, c1⟩ lt1 it1 ((ht.push _).extBut sb.extBut ne) (by simp) fun h2 eb => ?_))
  simp only [Option.isSome_none, Bool.false_eq_true, if_false]; exact wpAny_pure (k h2 fun b o nb z => eb b o nb (sb.extBut b o nb (Heap.get?_push_of_some _ z)))
end
section
variable {X : Cx} {pos : Pos}
/-- (a, b, ..) = a tuple of that length -/
theorem pg_tupH {es : List Expr} {k : Nat} {t : TGs} {n : Nat} (c : HotC X) (h : PGs X es t) (hn : (assignEach es X.env).length = n := by rfl) (hst : (assignEach es X.env).findIdx? (·.1) = none := by rfl) : PG X (.Tuple es k pos) (gTup X.K n t) := by
  constructor
  intro pins s σ H v u Q I r ⟨a, xs, e1, hq, hl, q⟩
  subst e1
  cases r
  obtain ⟨its, rv, ht, _⟩ := I.tuple hq
  obtain ⟨x1, hot, _⟩ := hot_over c I
  have len : (assignEach es X.env).length = its.toArray.size := by rw [hn, ← hl, rv.length]; simp
  rw [assign_Tuple]
  refine wpAny_bind (wpAny_standAt ?_)
  unfold unpack
  rw [len, hst]
  refine wpAny_bind (wpAny_holding (items_hot hot ht fun h2 eb => ?_))
  exact h.run pins _ σ H xs _ Q (I.kept (t' := s.toks) fun b o z => eb b o (Nat.ne_of_lt (Heap.lt_size z)) z) (by simpa using rv) q
/-- a, b = x, y -/
theorem ps_parH {i j : Nat} {x y : Str} {a b : Expr} {ta : TA} {px py pt : Pos} {kt k2 pt2} (c : HotC X) (hN : X.N.Nodup) (hi : X.N[i]? = some x) (hj : X.N[j]? = some y) (hij : i ≠ j) (hx : X.env.scope.names.lookup x = some .local) (hy : X.env.scope.names.lookup y = some .local)
    (ha : PA X [a, b] ta) (hw : swappedStores [.Tuple [.Name x px, .Name y py] kt pt] (.Tuple [a, b] k2 pt2) X.env = pure (some [x, y])) (hs : swapsWithSole [.Tuple [.Name x px, .Name y py] kt pt] (.Tuple [a, b] k2 pt2) pos.line X.env = pure false := by rfl) :
    PS X (.Assign [.Tuple [.Name x px, .Name y py] kt pt] (.Tuple [a, b] k2 pt2) pos) (tPar i j ta) := by
  constructor
  intro pins s σ H D I h
  rw [exec_Assign_arm]; refine wpAny_bind (wpAny_standAt ?_)
  rw [hs]; refine wpAny_bind (wpAny_pure ?_)
  rw [if_neg (by decide)]; refine wpAny_bind (Tuple_ (thn (ha.run _ pins s σ H _ I h) fun us s1 ⟨vs, H1, I1, r1, v, w, e1, q1⟩ => ?_))
  subst e1
  obtain ⟨u1, u2, eu, rv, rw'⟩ : ∃ u1 u2, us = [u1, u2] ∧ RelV v u1 ∧ RelV w u2 := by
    cases r1 with
    | cons k1 l1 => cases l1 with
      | cons k2 l2 => cases l2; exact ⟨_, _, rfl, k1, k2⟩
  subst eu
  refine wpAny_newObj_type ?_ (by show 2 ≤ sizeLine; decide)
  have I2 : Inv X pins σ H1 { s1 with heap := s1.heap.push { cls := .type "tuple", data := .seq [u1, u2].toArray } } := I1.kept (t' := s1.toks) fun _ _ z => Heap.get?_push_of_some _ z
  rw [hw]; refine wpAny_bind (wpAny_pure ?_)
  show wpAny (model X.prog X.w) X.A (do rule "assign.swapped-stores"; let items ← unpackItems (.ref s1.heap.objs.size) 2 none; assignInOrder [fun v => bindName X.env y v, fun v => bindName X.env x v] items.reverse; pure Flow.next) (SP X pins D) _ _
  obtain ⟨x1, hot, _⟩ := hot_over c I2
  refine wpAny_bind (wpAny_rule (wpAny_bind (items_hot (s := { s1 with heap := s1.heap.push { cls := .type "tuple", data := .seq [u1, u2].toArray } }) (xs := #[u1, u2]) hot (IsTup.new s1.heap _) fun h2 eb => ?_)))
  have I3 := I2.kept (h' := h2) (t' := s1.toks) fun b o z => eb b o (Nat.ne_of_lt (Heap.lt_size z)) z
  refine wpAny_bind (assignInOrder_cons (wpAny_bindName (store_ok I3 hN hj (.inl hy) rw' (fun s2 I4 => assignInOrder_cons (wpAny_bindName (store_ok I4 hN hi (.inl hx) rv (fun s3 I5 => assignInOrder_nil (wpAny_pure ?_)) (.inr hx)))) (.inr hy))))
  rw [List.set_comm _ _ (Ne.symm hij)] at I5; exact ⟨_, H1, I5, q1⟩
/-- name = [..] on one line -/
theorem ps_setLcH {elt tg iter : Expr} {ifs : List Expr} {scope : Scope} {own : List (Str × Nat)} {wi : TI} {g : TG} {tt : TT} {te : TE} {i : Nat} {y : Str} {py spos : Pos} {p : Addr × Obj} (hp : p ∈ X.pn) (hot : Hot1 X.A p) (hN : X.N.Nodup) (hy : X.N[i]? = some y) (hl : X.env.scope.names.lookup y = some .local)
    (hsw : swapsWith (.ListComp elt [⟨tg, iter, ifs, 0⟩] scope pos) (some (.Name y py)) spos.line X.env = pure true) (hi : Pic HotC X tg iter wi) (bk : BlkOk X.N X.env.scope scope own)
    (hg : InHot X p scope fun Y => PG Y tg g) (ht : InHot X p scope fun Y => PTs Y ifs tt) (he : InHot X p scope fun Y => PE Y elt te) (hz : ∀ x, foldedSetIterable iter X.env x = pure x := by intro _; rfl) :
    PS X (.Assign [.Name y py] (.ListComp elt [⟨tg, iter, ifs, 0⟩] scope pos) spos) (tAsg (tLc wi g tt te (own.map (·.2))) (gName i)) := by
  constructor
  intro pins s σ H D I h
  rw [exec_Assign_Name_used _ _ _ _ hsw]
  apply wpAny_bind
  apply wpAny_standAt
  apply wpAny_bind
  have h : tLc wi g tt te (own.map (·.2)) σ H (fun x G => gName i x σ G D.nx) := h
  show wpAny _ X.A (do let _ ← comprehension (.ListComp elt [⟨tg, iter, ifs, 0⟩] scope pos) scope X.env (firstIterPos [⟨tg, iter, ifs, 0⟩] pos) (newList []) false (eval iter X.env) (some (assign (.Name y py) X.env))) _ _ s; apply wpAny_bind
  have un : ∀ {Y : Cx} {E : Value → Shared → Prop} {qs : List (Addr × Obj)} {τ : L2.St} {G : Hp} {u : Shared}, Inv (Y.wish E) qs τ G u → Inv Y qs τ G u := fun J => J.unwish
  have to : ∀ {Y : Cx} {E : Value → Shared → Prop} {qs : List (Addr × Obj)} {τ : L2.St} {G : Hp} {u : Shared}, Inv Y qs τ G u → Inv (Y.wish E) qs τ G u := fun J => J.wish _
  refine thn (lc_wide (ok := HotC) (bp := [p]) (use := some (assign (.Name y py) X.env)) (Qf := fun _ u => SP X pins D .next u) hN I (fun q hq => ?_) (fun _ _ _ _ _ => ⟨p, hot, List.mem_singleton.mpr rfl⟩) hi bk (fun acc s3 H3 C cl fp => ⟨fun qs u τ G v x R J r q => ?_⟩) (fun acc s3 H3 C cl fp _ hC J ok => ⟨fun qs u τ G R J q => ?_⟩) (fun acc s3 H3 C cl fp _ hC J ok => ⟨fun qs u τ G R J q => ?_⟩) hz h ?_) fun _ s2 q => wpAny_pure (wpAny_pure q)
  · rw [List.mem_singleton.mp hq]
    exact List.mem_append_left _ hp
  · exact wpAny_mono ((hg s3 H3 C cl fp).run qs u τ G v x R (to (E := fun _ _ => False) J) r q) (fun _ _ ⟨a, b, c, d⟩ => ⟨a, b, un (E := fun _ _ => False) (Y := blkX X [p] (some (assign (.Name y py) X.env)) (fun _ u => SP X pins D .next u) acc s3 H3 scope _ fp) c, d⟩) fun _ _ z => z.elim
  · exact wpAny_mono ((ht s3 H3 C cl fp).run qs u τ G R (to (E := fun _ _ => False) J) q) (fun _ _ ⟨b, c, d⟩ => ⟨b, un (E := fun _ _ => False) (Y := blkX X [p] (some (assign (.Name y py) X.env)) (fun _ u => SP X pins D .next u) acc s3 H3 scope _ fp) c, d⟩) fun _ _ z => z.elim
  · exact wpAny_mono ((he s3 H3 C cl fp).run qs u τ G R (to (E := fun _ _ => False) J) q) (fun _ _ ⟨a, b, c, d⟩ => ⟨a, b, un (E := fun _ _ => False) (Y := blkX X [p] (some (assign (.Name y py) X.env)) (fun _ u => SP X pins D .next u) acc s3 H3 scope _ fp) c, d⟩) fun _ _ z => z.elim
  · rintro L C s' m H' I' q hn ⟨f0, f1, _, f3, f4, f5⟩
    show wpAny _ _ (assign (.Name y py) X.env (.ref L)) (fun _ u => ∃ m, u.heap.Ns C m ∧ _) _ _
    refine wpAny_assign_Name (store_ok2 (v := V.ref L) I' hN hy (.inl hl) rfl (fun s3 I3 ⟨a, sb, ha⟩ => ?_) (.inr hl))
    have away : C ≠ a := fun z => by
      rcases ha with q | q
      · exact f1 (z.trans q)
      · exact f4 y a q z.symm
    exact ⟨m, hn.sameBut sb away, fun h4 sb4 => ⟨_, H', I3.turned (t' := s3.toks) (fun b o hb z => (sb4.2 b hb).trans z) f0 f1 f3 f4 f5, q⟩⟩
end
/-! ### isinstance of the handled exception, its fields, wherever the context holds it -/
theorem call_isH {X : Cx} {a : Addr} {oe : Obj} {cls : Value} {d : Option Addr} (hp : (a, oe) ∈ X.pn) (hz : Zc cls d oe) (hf : ∃ vs, oe.data = .fields vs) : CallR X (.builtin "isinstance") (rIsX X.K cls d a) := by
  rintro pins s σ H xs us Q I r ⟨D, dd, fs, c, cv, b, rfl, rfl, rfl, ea, C, hcv, e, q⟩
  match us, r with
  | [u1, u2], .cons rx (.cons rt .nil) =>
    cases rx
    have ec := hcv _ rt
    subst ec
    obtain ⟨hget, _⟩ := I.pin (a, oe) (List.mem_append_left _ hp)
    obtain ⟨vs, hv⟩ := hf
    have hx : ObjOk X.prog X.w H s.heap dd (.xd fs) := I.hok dd _ ea
    obtain ⟨mA, hns, _⟩ := hx
    obtain ⟨od, ho, _⟩ := lookIn_ns hns
    obtain ⟨cdD, hcD, _⟩ := PySem.W.any_some C.hd
    exact PySem.W.kia_one (PySem.W.kitx_exc (by rw [hcD] <;> rfl) C.hg C.hk C.hs C.ha C.hn C.ht C.hm) I.kIn (show PySem.W.InstAt s.heap a oe D (some od) from ⟨hget, hz.1, by unfold PySem.W.notCls; rw [hv] <;> rfl, by rw [hz.2]; exact ho⟩) e (fun z => nomatch z) fun tk => ⟨.bl b, H, I.kept (t' := tk) fun _ _ z => z, rfl, q⟩
end Ag

end
/-! ## XT -/
section
set_option linter.all false
set_option maxRecDepth 100000
namespace Ag
open PySem PySem.Spec PyProof.Rows L2
/-! ### which clause an exception meets, where a clause names several classes -/
theorem go_through {M : Model} {h : Heap} {α : Type} {f : α → PUnit → Sem (ForInStep PUnit)} : ∀ {l : List α}, (∀ c ∈ l, PySem.W.Looks M h (f c PUnit.unit) (.yield PUnit.unit)) → PySem.W.Looks M h (forIn l PUnit.unit f) PUnit.unit
  | [], _ => by
    rw [List.forIn_nil]
    exact .now
  | c :: l, hf => by
    rw [List.forIn_cons]
    exact (hf c List.mem_cons_self).andThen (go_through fun d hd => hf d (List.mem_cons_of_mem _ hd))
theorem go_until {M : Model} {h : Heap} {α : Type} {f : α → Option Bool × Unit → Sem (ForInStep (Option Bool × Unit))} {t : α → Bool} : ∀ {l : List α}, (∀ c ∈ l, PySem.W.Looks M h (f c (none, ())) (if t c = true then .done (some true, ()) else .yield (none, ()))) →
    PySem.W.Looks M h (forIn l (none, ()) f) (if l.any t = true then (some true, ()) else (none, ()))
  | [], _ => by
    rw [List.forIn_nil]
    exact .now
  | c :: l, hf => by
    rw [List.forIn_cons, List.any_cons]
    have h1 := hf c List.mem_cons_self
    cases ht : t c with
    | true =>
      rw [ht] at h1
      exact h1.andThen .now
    | false =>
      rw [ht] at h1
      exact h1.andThen (go_until fun d hd => hf d (List.mem_cons_of_mem _ hd))
/-- what is known of each class that is named -/
theorem each_named {K : PySem.W.Frag} {cls : Value} : ∀ {cs : List Value} {b : Bool}, PySem.W.exmAny K cls cs = some b → ∃ t : Value → Bool, (∀ c ∈ cs, PySem.W.exmOne K cls c = some (t c)) ∧ cs.any t = b
  | [], b, h => ⟨(fun _ => false), ⟨(fun _ z => nomatch z), Option.some.inj h⟩⟩
  | c :: cs, b, h => by
    obtain ⟨b1, d1, h1, h2, rfl⟩ := PySem.W.exmAny_cons h
    obtain ⟨t, ht, ha⟩ := each_named h2
    refine ⟨fun v => (PySem.W.exmOne K cls v).getD false, fun v hv => ?_, ?_⟩
    · rcases List.mem_cons.mp hv with rfl | hv
      · dsimp only; rw [h1]; rfl
      · dsimp only; rw [ht v hv]; rfl
    · have e : cs.any (fun v => (PySem.W.exmOne K cls v).getD false) = cs.any t := by
        rw [Bool.eq_iff_iff, List.any_eq_true, List.any_eq_true]
        constructor
        · rintro ⟨v, hv, e⟩
          rw [ht v hv] at e
          exact ⟨v, hv, e⟩
        · rintro ⟨v, hv, e⟩
          exact ⟨v, hv, by rw [ht v hv]; exact e⟩
      rw [List.any_cons, e, ha, h1]
      rfl
theorem exm_row {M : Model} {K : PySem.W.Frag} {h : Heap} {cls : Value} {tp e : Addr} {cs : List Value} {b : Bool} (X : K.In h) (LT : PySem.W.Looks M h (typeOf (.ref e)) cls)
    (hp : h.get? tp = some { cls := .type "tuple", data := .seq cs.toArray }) (hx : PySem.W.exmAny K cls cs = some b) : PySem.W.Looks M h (excMatches (.ref e) (.ref tp)) b := by
  obtain ⟨t, ht, rfl⟩ := each_named hx
  have one := fun c hc => PySem.W.exm_cls (M := M) X (ht c hc)
  have tup : PySem.W.Looks M h (isInstance (.ref tp) (.type "tuple")) true := ((PySem.W.Looks.ld hp).andThen .now).andThen (.of_pure isSubtype_tuple_tuple)
  intro A Q E s k q
  unfold excMatches
  refine wpAny_bind ((tup.keeps k).here ?_)
  rw [if_pos rfl]
  have hp2 := k _ _ hp
  have l1 : PySem.W.Looks M s.heap (forIn cs PUnit.unit fun (c : Value) (_ : PUnit) => (do
      let is ← isExcClass c
      if (!is) = true then do
        rule "try.except-non-exception-class"
        raiseErrorWords "TypeError" "catching classes that do not inherit from BaseException is not allowed"
        pure (ForInStep.yield PUnit.unit)
      else pure (ForInStep.yield PUnit.unit) : Sem (ForInStep PUnit))) PUnit.unit := go_through fun c hc => ((one c hc).1.keeps k).andThen .now
  have l2 : PySem.W.Looks M s.heap (forIn cs ((none, ()) : Option Bool × Unit) fun (c : Value) (_ : Option Bool × Unit) => (do
      let is ← isSubtype cls c
      if is = true then pure (ForInStep.done (some true, ())) else pure (ForInStep.yield (none, ())) : Sem (ForInStep (Option Bool × Unit)))) (if cs.any t = true then (some true, ()) else (none, ())) :=
    go_until fun c hc => ((one c hc).2.keeps k).andThen (by cases t c <;> exact .now)
  have items := fun {Q : Option (Array Value) → Shared → Prop} (z : Q (some cs.toArray) s) => wpAny_seqItems (M := M) (A := A) (E := E) hp2 rfl z
  refine wpAny_bind (items ?_)
  refine wpAny_bind (wpAny_pure ?_)
  show wpAny M A _ Q E s
  dsimp only [Option.getD_some]
  refine wpAny_bind (l1.here ?_)
  refine wpAny_bind ((LT.keeps k).here ?_)
  refine wpAny_bind (l2.here ?_)
  cases ha : cs.any t with
  | true => rw [ha] at q; exact wpAny_pure q
  | false => rw [ha] at q; exact wpAny_pure q
end Ag

end
/-! ## XU -/
section
set_option linter.all false
set_option maxRecDepth 100000
namespace Ag
open PySem PySem.Spec PyProof.Rows L2
/-! ### except clauses that name classes, one or several each, as n -/
/-- an exception in the hand of a frame that looks for its clause -/
structure Hand (X : Cx) (pins : List (Addr × Obj)) (σ : L2.St) (H : Hp) (B : Heap) (a : Addr) (cls : Value) (d : Option Addr) (s0 s : Shared) : Prop where
  inv : Inv X pins σ H s0
  low : ∀ b o, s0.heap.get? b = some o → b ∉ frs X.stack → B.get? b = some o
  up : s0.heap.UpToSlots s.heap
  fly : HandSPX.FlyingZ B (X.env :: X.outer) a (Zc cls d) s.heap
  free : H a = none
  os : s.os = s0.os
  bare : AllBare s.gens
section
variable {X : Cx} {pins : List (Addr × Obj)} {σ : L2.St} {H : Hp} {B : Heap} {a : Addr} {cls : Value} {d : Option Addr} {s0 s : Shared}
theorem Hand.now (h : Hand X pins σ H B a cls d s0 s) : Inv X pins σ H s := h.inv.landed h.low h.fly.1 h.up h.os h.bare
/-- things that were made meanwhile take nothing out of the hand -/
theorem Hand.more (h : Hand X pins σ H B a cls d s0 s) {h' : Heap} (k : ∀ b o, s.heap.get? b = some o → h'.get? b = some o) : Hand X pins σ H B a cls d s0 { s with heap := h' } := by
  obtain ⟨f1, f2, f3, oe, vs, T, oT, ts, z1, z2, z3, z4, z5, z6, z7, z8, z9⟩ := h.fly
  exact ⟨h.inv, h.low, h.up.trans (Heap.UpToSlots.of_keeps k), ⟨fun b o e => k b o (f1 b o e), f2, f3.of_keeps (fun b o e _ => ⟨o, k b o e, rfl⟩), oe, vs, T, oT, ts, k _ _ z1, z2, z3, z4, z5, z6, k _ _ z7, z8, z9⟩, h.free, h.os, h.bare⟩
/-- the exception itself, and that it is none of the frames -/
theorem Hand.obj (hs : X.stack = X.env :: X.outer) (hf : X.env.frame = some X.env.locals) (h : Hand X pins σ H B a cls d s0 s) :
    ∃ oe vs, s.heap.get? a = some oe ∧ Zc cls d oe ∧ oe.data = .fields vs ∧ Inv (X.suite a ((a, oe) :: (X.pn ++ pins))) [] σ H s := by
  obtain ⟨oe, vs, e, z, dd⟩ := h.fly.there
  have out : a ∉ frs (X.env :: X.outer) := fun m => by
    obtain ⟨_, u, eu, hu⟩ := h.fly.2.2.1.mem m
    have := Option.some.inj (e.symm.trans eu)
    subst this
    exact hu vs dd
  refine ⟨oe, vs, e, z, dd, h.now.suite e dd h.free (fun q => out ?_) (fun m => out ?_)⟩
  · rw [q]
    exact List.mem_filterMap.mpr ⟨X.env, List.mem_cons_self, hf⟩
  · obtain ⟨v, hv, ev⟩ := List.mem_filterMap.mp m
    exact List.mem_filterMap.mpr ⟨v, List.mem_cons_of_mem _ hv, ev⟩
/-- what a test tells: the classes cs, in any state of the hand -/
def TestsFor (X : Cx) (t : Expr) (cs : List Value) : Prop := ∀ {a : Addr} {pn : List (Addr × Obj)} {σ : L2.St} {H : Hp} {s : Shared} {cls : Value} {b : Bool} {Q : Bool → Shared → Prop} {E : Value → Shared → Prop},
  Inv (X.suite a pn) [] σ H s → PySem.W.Looks (model X.prog X.w) s.heap (typeOf (.ref a)) cls → PySem.W.exmAny X.K cls cs = some b → (∀ h', (∀ b o, s.heap.get? b = some o → h'.get? b = some o) → Q b { s with heap := h' }) →
  wpAny (model X.prog X.w) (X.A.mark (some (.ref a))) (eval t X.env) (fun c s1 => wpAny (model X.prog X.w) (X.A.mark (some (.ref a))) (excMatches (.ref a) c) Q E s1) E s
theorem name_in {a : Addr} {pn : List (Addr × Obj)} {x : Str} {c : Value} {np : Pos} {Q : Value → Shared → Prop} {E : Value → Shared → Prop} (I : Inv (X.suite a pn) [] σ H s) (hc : Names X x c) (q : Q c s) :
    wpAny (model X.prog X.w) (X.A.mark (some (.ref a))) (eval (.Name x np) X.env) Q E s := by
  rcases hc with ⟨g, nd, m | ⟨m, v, nn⟩⟩
  · exact ld_glob (X := X.suite a pn) I g m q nd
  · exact ld_blt (X := X.suite a pn) I g m v q nn nd
theorem tests_one {x : Str} {c : Value} {np : Pos} (hc : Names X x c) : TestsFor X (.Name x np) [c] := by
  intro a pn σ H s cls b Q E I LT e q
  obtain ⟨b1, d1, e1, e2, rfl⟩ := PySem.W.exmAny_cons e
  have : d1 = false := (Option.some.inj e2).symm
  subst this
  rw [Bool.or_false] at q
  exact name_in I hc ((PySem.W.exm_one I.kIn LT e1).here (q s.heap fun _ _ z => z))
/-- names of classes, in a row -/
inductive Named (X : Cx) : List Expr → List Value → Prop
  | nil : Named X [] []
  | cons {x : Str} {c : Value} {np : Pos} {es : List Expr} {cs : List Value} (hc : Names X x c) (r : Named X es cs) : Named X (.Name x np :: es) (c :: cs)
theorem Named.len {es : List Expr} {cs : List Value} (n : Named X es cs) : cs.length = es.length := by
  induction n with
  | nil => rfl
  | cons _ _ ih => rw [List.length_cons, List.length_cons, ih]
theorem Named.run {es : List Expr} {cs : List Value} (n : Named X es cs) {a : Addr} {pn : List (Addr × Obj)} {pos : Pos} {E : Value → Shared → Prop} (I : Inv (X.suite a pn) [] σ H s) : ∀ {Q : List Value → Shared → Prop}, Q cs s →
    wpAny (model X.prog X.w) (X.A.mark (some (.ref a))) (spliced (backTo pos (starEach es X.env))) Q E s := by
  induction n with
  | nil => exact fun q => wpAny_items_nil q
  | cons hc _ ih => exact fun {Q} q => wpAny_items_cons (name_in I hc (ih (Q := fun vs s2 => Q (_ :: vs) s2) q))
theorem tests_row {es : List Expr} {cs : List Value} {k : Nat} {p : Pos} (n : Named X es cs) (hl : es.length ≤ 1000) : TestsFor X (.Tuple es k p) cs := by
  intro a pn σ H s cls b Q E I LT e q
  have fits : cs.length ≤ sizeLine := by rw [n.len, sizeLine_eq]; omega
  have grow : ∀ b o, s.heap.get? b = some o → (s.heap.push { cls := .type "tuple", data := .seq cs.toArray }).get? b = some o := fun _ _ z => Heap.get?_push_of_some _ z
  exact wpAny_Tuple (n.run I ⟨fits, (exm_row (I.kIn.keeps grow) (LT.keeps grow) (Heap.get?_push_size s.heap rfl) e).here (q _ grow)⟩)
end
end Ag

end
/-! ## XV -/
section
set_option linter.all false
set_option maxRecDepth 100000
namespace Ag
open PySem PySem.Spec PyProof.Rows L2
abbrev Clause := List Value × Nat × (Addr → Value → Option Addr → TS)
/-- behind a clause its name is gone -/
def Ends.less (D : Ends) (i : Nat) : Ends := { nx := fun σ H => D.nx (σ.set i none) H, rt := D.rt, bk := fun σ H => D.bk (σ.set i none) H, ct := fun σ H => D.ct (σ.set i none) H }
def wCl (K : PySem.W.Frag) (Wout : WX) (D : Ends) : List Clause → WX
  | [] => Wout
  | c :: l => fun cls d σ H => ∃ b, PySem.W.exmAny K cls c.1 = some b ∧ (b = true → ∀ a, H a = none → c.2.2 a cls d (Ends.less D c.2.1) (σ.set c.2.1 (some (.ref a))) H) ∧ (b = false → wCl K Wout D l cls d σ H)
inductive Clauses (X : Cx) : List ExceptHandler → List Clause → Prop
  | nil : Clauses X [] []
  | cons {t : Expr} {n : Str} {cs : List Value} {i : Nat} {ts : Addr → Value → Option Addr → TS} {b₀ : Stmt} {suite : List Stmt} {p : Pos} {hds : List ExceptHandler} {l : List Clause} (test : TestsFor X t cs) (hi : X.N[i]? = some n) (hl : X.env.kindOf n = some .local)
      (hsu : ∀ (a : Addr) (oe : Obj) (cls : Value) (d : Option Addr) (pn : List (Addr × Obj)), Zc cls d oe → (∃ vs, oe.data = .fields vs) → PSs (X.suite a ((a, oe) :: pn)) (b₀ :: suite) (ts a cls d)) (r : Clauses X hds l) :
      Clauses X (.ExceptHandler (some t) (some n) (b₀ :: suite) p :: hds) ((cs, i, ts) :: l)
section
variable {X : Cx} {pins : List (Addr × Obj)} {σ : L2.St} {H : Hp} {B : Heap} {a : Addr} {cls : Value} {d : Option Addr} {s0 s : Shared} {Wout : WX} {D : Ends}
theorem Hand.ty (h : Hand X pins σ H B a cls d s0 s) : PySem.W.Looks (model X.prog X.w) s.heap (typeOf (.ref a)) cls := by
  obtain ⟨oe, vs, e, z, _⟩ := h.fly.there
  exact fun A Q E s2 k q => wpAny_typeOf_ref (k _ _ e) (by rw [z.1]; exact q)
/-- no clause is left: on it flies -/
theorem Hand.passes (hs : X.stack = X.env :: X.outer) (hf : X.env.frame = some X.env.locals) (tk : Takes X Wout) (h : Hand X pins σ H B a cls d s0 s) (q : Wout cls d σ H) {Q : Flow → Shared → Prop} :
    wpAny (model X.prog X.w) X.A (handleBy (.ref a) X.env []) Q X.xe s := by
  obtain ⟨_, _, _, oe, vs, T, oT, ts, z1, z2, z3, z4, z5, z6, z7, z8, z9⟩ := id h.fly
  have gone : wpAny (model X.prog X.w) X.A (setFlight (.ref a) X.env.frame) (fun _ s4 => wpAny (model X.prog X.w) X.A (throw (.ref a) : Sem Flow) Q X.xe s4) X.xe s := by
    rw [hf]
    exact HandSPX.setFlight_upZ h.fly fun h4 held up4 => wpAny_throw (tk _ _ ⟨a, B, s0, pins, σ, H, cls, d, rfl, h.inv, h.low, h.up.trans up4, .inr (.inr (by rw [hs]; exact held)), h.free, h.os, h.bare, q⟩)
  refine wpAny_handleBy_nil ?_
  unfold PySem.passOn
  refine wpAny_bind (wpAny_field z1 z3 z4 ?_)
  rw [if_neg (by simp)]
  first
    | exact wpAny_bind gone
    | exact wpAny_bind (wpAny_pure (wpAny_bind gone))
/-- the suite of the clause that it meets -/
theorem Hand.meets (hs : X.stack = X.env :: X.outer) (hf : X.env.frame = some X.env.locals) (hN : X.N.Nodup) {n : Str} {i : Nat} {ts : Addr → Value → Option Addr → TS} {b₀ : Stmt} {suite : List Stmt} {p p2 : Pos} (hi : X.N[i]? = some n) (hl : X.env.kindOf n = some .local)
    (hsu : ∀ (a : Addr) (oe : Obj) (cls : Value) (d : Option Addr) (pn : List (Addr × Obj)), Zc cls d oe → (∃ vs, oe.data = .fields vs) → PSs (X.suite a ((a, oe) :: pn)) (b₀ :: suite) (ts a cls d))
    (h : Hand X pins σ H B a cls d s0 s) (q : ts a cls d (Ends.less D i) (σ.set i (some (.ref a))) H) {R : Result → Shared → Prop}
    (hR : ∀ f s2, (wpAny (model X.prog X.w) X.A (do bindName X.env n .none; unbindBehindTheSuite X.env n p2) (fun _ s3 => SP X pins D f s3) X.xe s2) → R (.ok f) s2) :
    codeAny (model X.prog X.w) (X.A.mark (some (.ref a))) (.handlers (.ref a) [.ExceptHandler none (some n) (b₀ :: suite) p] X.env) R s := by
  refine codeAny_handlers_suite_as (HandSPX.lands_againZ h.fly fun h4 fl4 up4 => ?_)
  have h2 : Hand X pins σ H B a cls d s0 { s with heap := h4 } := ⟨h.inv, h.low, h.up.trans up4, fl4, h.free, h.os, h.bare⟩
  obtain ⟨oe, vs, e, z, dd, I⟩ := h2.obj hs hf
  refine store_ok (X := X.suite a ((a, oe) :: (X.pn ++ pins))) (v := .ref a) I hN hi (.inl hl) rfl (fun s5 I5 => ?_) (.inr hl)
  refine wpAny_mono ((hsu a oe cls d (X.pn ++ pins) z ⟨vs, dd⟩).run [] s5 _ H _ I5 q) (fun f s6 hf6 => hR f s6 ?_) fun _ _ x => x.elim
  have wipe : ∀ {σ6 : L2.St} {H6 : Hp} {Q : Shared → Prop}, Inv (X.suite a ((a, oe) :: (X.pn ++ pins))) [] σ6 H6 s6 → (∀ s7, Inv X pins (σ6.set i none) H6 s7 → Q s7) →
      wpAny (model X.prog X.w) X.A (do bindName X.env n .none; unbindBehindTheSuite X.env n p2) (fun _ s7 => Q s7) X.xe s6 := fun J k => gone_ok (J.unsuite h.inv.ok) hN hi hl k
  match f, hf6 with
  | .next, ⟨_, _, J, q6⟩ => exact wipe J fun s7 J7 => ⟨_, _, J7, q6⟩
  | .brk, ⟨_, _, J, q6⟩ => exact wipe J fun s7 J7 => ⟨_, _, J7, q6⟩
  | .cont, ⟨_, _, J, q6⟩ => exact wipe J fun s7 J7 => ⟨_, _, J7, q6⟩
  | .ret u, ⟨_, _, _, J, rv, q6⟩ => exact wipe J fun s7 J7 => ⟨_, _, _, J7, rv, q6⟩
theorem Hand.goes (hs : X.stack = X.env :: X.outer) (hf : X.env.frame = some X.env.locals) (hN : X.N.Nodup) (tk : Takes X Wout) {hds : List ExceptHandler} {l : List Clause} (C : Clauses X hds l) :
    ∀ {s : Shared}, Hand X pins σ H B a cls d s0 s → wCl X.K Wout D l cls d σ H → wpAny (model X.prog X.w) X.A (handleBy (.ref a) X.env hds) (SP X pins D) X.xe s := by
  induction C with
  | nil => exact fun h q => h.passes hs hf tk q
  | cons test hi hl hsu _ ih =>
    rintro s h ⟨b, e, yes, no⟩
    obtain ⟨oe, vs, _, _, _, I⟩ := h.obj hs hf
    refine wpAny_handleBy_cons (codeAny_handlers_test (test I h.ty e fun h' k => ?_)) fun z => nomatch z
    have h2 := h.more k
    cases b with
    | false => exact ih h2 (no rfl)
    | true => exact h2.meets hs hf hN hi hl hsu (yes rfl a h.free) fun f s2 z => z
variable {body : List Stmt} {h₀ : ExceptHandler} {hds : List ExceptHandler} {l : List Clause} {p : Pos} {tb : WX → TS}
/-- what is raised in the body, as it comes to the clauses -/
abbrev comes (X : Cx) (hds : List ExceptHandler) (pins : List (Addr × Obj)) (D : Ends) (u : Value) (s1 : Shared) : Prop :=
  wpAny (model X.prog X.w) X.A (noteFrame u X.env) (fun _ s2 => wpAny (model X.prog X.w) X.A (setFlight u none) (fun _ s3 => wpAny (model X.prog X.w) X.A (handleBy u X.env hds) (SP X pins D) X.xe s3) X.xe s2) X.xe s1
theorem ps_try_cl (hs : X.stack = X.env :: X.outer) (hf : X.env.frame = some X.env.locals) (hN : X.N.Nodup) (tk : Takes X Wout)
    (hb : ∀ (W : WX) (pn : List (Addr × Obj)) (xe : Value → Shared → Prop), Takes (X.tr pn xe) W → PassesOwn (model X.prog X.w) X.A X.env xe → PSs (X.tr pn xe) body (tb W)) (C : Clauses X (h₀ :: hds) l) :
    PS X (.Try body (h₀ :: hds) [] [] p) (fun D σ H => tb (wCl X.K Wout D l) D σ H) := by
  constructor
  intro pins s σ H D I q
  have fr : X.A.frames = some (X.env :: X.outer) := I.ok.frames.trans (congrArg some hs)
  apply wpAny_Try_except
  have caught : Takes (X.tr (X.pn ++ pins) (comes X (h₀ :: hds) pins D)) (wCl X.K Wout D l) := fun u s1 x => ?_
  · have bodyOk := hb (wCl X.K Wout D l) (X.pn ++ pins) (comes X (h₀ :: hds) pins D) caught PassesOwn.looking
    refine wpAny_mono (bodyOk.run [] s σ H D (I.toTry _) q) (fun f s1 x => ?_) fun _ _ x => x
    match f, x with
    | .next, ⟨_, _, J, q1⟩ => exact wpAny_execs_nil ⟨_, _, J.ofTry I.ok, q1⟩
    | .brk, ⟨_, _, J, q1⟩ => exact ⟨_, _, J.ofTry I.ok, q1⟩
    | .cont, ⟨_, _, J, q1⟩ => exact ⟨_, _, J.ofTry I.ok, q1⟩
    | .ret u, ⟨_, _, _, J, rv, q1⟩ => exact ⟨_, _, _, J.ofTry I.ok, rv, q1⟩
  · obtain ⟨a, B, s0, pins', σ1, H1, cls, d, rfl, J, low, up, sky, na, os, ag, w⟩ := x
    exact Sky.land Zc.steady fr hf (by rw [← hs]; exact sky) fun h3 fl up3 => Hand.goes hs hf hN tk C ⟨J.ofTry I.ok, low, up.trans up3, fl, na, os, ag⟩ w
end
end Ag

end
/-! ## XVN -/
section
set_option linter.all false
set_option maxRecDepth 100000
namespace Ag
open PySem PySem.Spec PyProof.Rows L2
/-! ### except clauses that name classes, for exceptions whose context is None -/
/-! ### an except clause's name goes: a local name, or one that a block within reads too -/
/-- names of the def's own -/
def Own (X : Cx) (n : Str) : Prop := X.env.scope.names.lookup n = some .local ∨ (X.env.scope.names.lookup n = some .cell ∧ X.fn n = true)
theorem Own.loc {X : Cx} {n : Str} (h : Own X n) : Loc X.env.scope n := h.imp id (·.1)
theorem Own.fn {X : Cx} {n : Str} (h : Own X n) : X.fn n = true ∨ X.env.scope.names.lookup n = some .local := h.elim .inr fun z => .inl z.2
section
variable {X : Cx} {pins : List (Addr × Obj)} {σ : L2.St} {H : Hp} {s : Shared}
/-- a cell of the def's is emptied -/
theorem cell_out {i : Nat} {n : Str} {c : Addr} {h' : Heap} {t' : Nat} {v : Option Value} (I : Inv X pins σ H s) (hN : X.N.Nodup) (hi : X.N[i]? = some n) (hf : X.fn n = true) (hc : X.env.cells.lookup n = some c) (hv : h'.IsCell c v) (sb : Heap.SameBut c s.heap h') :
    Inv X pins (σ.set i none) H { s with heap := h', toks := t' } := by
  obtain ⟨m, hn, look⟩ := id I.loc
  obtain ⟨w0, oc, hoc, dc⟩ := I.cell n c hc
  have low := I.ok.cab n c hf hc
  have apart : ∀ {b : Addr} {o : Obj}, X.s_0.heap.get? b = some o → b ≠ c := fun e => Nat.ne_of_lt (Nat.lt_of_lt_of_le (Heap.lt_size e) low)
  refine ⟨I.ok, I.os, I.bare, ⟨fun b o e a1 a2 a3 => (sb.2 b (apart e)).trans (I.base.keep b o e a1 a2 a3), fun b o e a1 a2 a3 => ?_, I.base.free, fun b o e a => ?_, I.base.tups, I.base.frzs, I.base.tbls⟩,
    ⟨m, hn.sameBut sb (Ne.symm (I.cne n c hc)), fun j y u e1 e2 e3 => ?_⟩, fun y d e => ?_, I.free, I.freeC, fun p hp => ?_, fun b o e => ?_, by simpa using I.len⟩
  · obtain ⟨sl, z⟩ := I.base.slot b o e a1 a2 a3
    exact ⟨sl, (sb.2 b (apart e)).trans z⟩
  · obtain ⟨o', z⟩ := I.base.there b o e a
    exact ⟨o', (sb.2 b (apart e)).trans z⟩
  · have ne : j ≠ i := fun z => by
      rw [z] at e2
      by_cases lt : i < σ.length
      · rw [List.getElem?_set_self lt] at e2; cases e2
      · rw [List.getElem?_eq_none (by simpa using lt)] at e2; cases e2
    rw [List.getElem?_set_ne (Ne.symm ne)] at e2
    obtain ⟨w, r, q⟩ := look j y u e1 e2 e3
    refine ⟨w, r, q.imp id fun ⟨k, d, e, z⟩ => ⟨k, d, e, z.sameBut sb fun q => ?_⟩⟩
    rw [q] at e
    exact ne (nodup_ix hN e1 (I.ok.inj _ _ _ e hc ▸ hi))
  · by_cases z : d = c
    · rw [z]; exact ⟨v, hv⟩
    · obtain ⟨w, q⟩ := I.cell y d e
      exact ⟨w, q.sameBut sb z⟩
  · obtain ⟨a1, a2, a3, a4, a5⟩ := I.pin p hp
    refine ⟨(sb.2 p.1 fun z => ?_).trans a1, a2, a3, a4, a5⟩
    rw [z, hoc] at a1
    exact a5 w0 ((congrArg Obj.data (Option.some.inj a1)).symm.trans dc)
  · refine (I.hok b o e).stay (fun d w hd q => (sb.2 d fun z => ?_).trans q) (fun _ q => q) fun _ _ q => q
    have fr := I.freeC n c hc
    rw [z] at hd
    rcases hd with rfl | hd
    · rw [fr] at e; cases e
    · rw [fr] at hd; cases hd
theorem gone_own {M : Model} {A : Around} {E : Value → Shared → Prop} {i : Nat} {n : Str} {pos : Pos} {Q : Unit → Shared → Prop} (I : Inv X pins σ H s) (hN : X.N.Nodup) (hi : X.N[i]? = some n) (ho : Own X n) (h : ∀ s', Inv X pins (σ.set i none) H s' → Q () s') :
    wpAny M A (do bindName X.env n .none; unbindBehindTheSuite X.env n pos) Q E s := by
  rcases ho with hl | ⟨hk, hf⟩
  · exact gone_ok I hN hi hl h
  obtain ⟨c, hc⟩ := I.ok.has n (.inl hk)
  obtain ⟨w0, hw⟩ := I.cell n c hc
  refine wpAny_bind (wpAny_bindName (wpAny_storeName_cell I.ok.kind hk hc hw fun h1 v1 sb1 => ?_))
  unfold unbindBehindTheSuite
  refine wpAny_onRaise ?_
  unfold unbindName
  refine wpAny_bind (wpAny_point (wpAny_bind ?_))
  have kk : X.env.kindOf n = some .cell := hk
  unfold deleteName
  simp only [kk]
  refine wpAny_bind (wpAny_cellOf hc (wpAny_bind (wpAny_cellGet (v := some Value.none) v1 ?_)))
  rw [if_pos (by rfl)]
  refine wpAny_cellSet (v := none) v1 fun h2 v2 sb2 => wpAny_point (h _ ?_)
  exact cell_out (s := s) (t' := s.toks) I hN hi hf hc v2 (sb1.trans sb2)
end
/-- an exception in the hand of a frame that looks for its clause -/
structure HandN (X : Cx) (pins : List (Addr × Obj)) (σ : L2.St) (H : Hp) (B : Heap) (a : Addr) (cls : Value) (d : Option Addr) (s0 s : Shared) : Prop where
  inv : Inv X pins σ H s0
  low : ∀ b o, s0.heap.get? b = some o → b ∉ frs X.stack → B.get? b = some o
  up : s0.heap.UpToSlots s.heap
  fly : HandSPX.FlyingZ B (X.env :: X.outer) a (L2N.Zn cls d) s.heap
  free : H a = none
  os : s.os = s0.os
  bare : AllBare s.gens
section
variable {X : Cx} {pins : List (Addr × Obj)} {σ : L2.St} {H : Hp} {B : Heap} {a : Addr} {cls : Value} {d : Option Addr} {s0 s : Shared}
theorem HandN.now (h : HandN X pins σ H B a cls d s0 s) : Inv X pins σ H s := h.inv.landed h.low h.fly.1 h.up h.os h.bare
/-- things that were made meanwhile take nothing out of the hand -/
theorem HandN.more (h : HandN X pins σ H B a cls d s0 s) {h' : Heap} (k : ∀ b o, s.heap.get? b = some o → h'.get? b = some o) : HandN X pins σ H B a cls d s0 { s with heap := h' } := by
  obtain ⟨f1, f2, f3, oe, vs, T, oT, ts, z1, z2, z3, z4, z5, z6, z7, z8, z9⟩ := h.fly
  exact ⟨h.inv, h.low, h.up.trans (Heap.UpToSlots.of_keeps k), ⟨fun b o e => k b o (f1 b o e), f2, f3.of_keeps (fun b o e _ => ⟨o, k b o e, rfl⟩), oe, vs, T, oT, ts, k _ _ z1, z2, z3, z4, z5, z6, k _ _ z7, z8, z9⟩, h.free, h.os, h.bare⟩
/-- the exception itself, and that it is none of the frames -/
theorem HandN.obj (hs : X.stack = X.env :: X.outer) (hf : X.env.frame = some X.env.locals) (h : HandN X pins σ H B a cls d s0 s) :
    ∃ oe vs, s.heap.get? a = some oe ∧ L2N.Zn cls d oe ∧ oe.data = .fields vs ∧ Inv (X.suite a ((a, oe) :: (X.pn ++ pins))) [] σ H s := by
  obtain ⟨oe, vs, e, z, dd⟩ := h.fly.there
  have out : a ∉ frs (X.env :: X.outer) := fun m => by
    obtain ⟨_, u, eu, hu⟩ := h.fly.2.2.1.mem m
    have := Option.some.inj (e.symm.trans eu)
    subst this
    exact hu vs dd
  refine ⟨oe, vs, e, z, dd, h.now.suite e dd h.free (fun q => out ?_) (fun m => out ?_)⟩
  · rw [q]
    exact List.mem_filterMap.mpr ⟨X.env, List.mem_cons_self, hf⟩
  · obtain ⟨v, hv, ev⟩ := List.mem_filterMap.mp m
    exact List.mem_filterMap.mpr ⟨v, List.mem_cons_of_mem _ hv, ev⟩
end
inductive ClausesN (X : Cx) : List ExceptHandler → List Clause → Prop
  | nil : ClausesN X [] []
  | cons {t : Expr} {n : Str} {cs : List Value} {i : Nat} {ts : Addr → Value → Option Addr → TS} {b₀ : Stmt} {suite : List Stmt} {p : Pos} {hds : List ExceptHandler} {l : List Clause} (test : TestsFor X t cs) (hi : X.N[i]? = some n) (hl : Own X n)
      (hsu : ∀ (a : Addr) (oe : Obj) (cls : Value) (d : Option Addr) (pn : List (Addr × Obj)), L2N.Zn cls d oe → (∃ vs, oe.data = .fields vs) → PSs (X.suite a ((a, oe) :: pn)) (b₀ :: suite) (ts a cls d)) (r : ClausesN X hds l) :
      ClausesN X (.ExceptHandler (some t) (some n) (b₀ :: suite) p :: hds) ((cs, i, ts) :: l)
section
variable {X : Cx} {pins : List (Addr × Obj)} {σ : L2.St} {H : Hp} {B : Heap} {a : Addr} {cls : Value} {d : Option Addr} {s0 s : Shared} {Wout : WX} {D : Ends}
theorem HandN.ty (h : HandN X pins σ H B a cls d s0 s) : PySem.W.Looks (model X.prog X.w) s.heap (typeOf (.ref a)) cls := by
  obtain ⟨oe, vs, e, z, _⟩ := h.fly.there
  exact fun A Q E s2 k q => wpAny_typeOf_ref (k _ _ e) (by rw [z.1]; exact q)
/-- no clause is left: on it flies -/
theorem HandN.passes (hs : X.stack = X.env :: X.outer) (hf : X.env.frame = some X.env.locals) (tk : L2N.Takes X Wout) (h : HandN X pins σ H B a cls d s0 s) (q : Wout cls d σ H) {Q : Flow → Shared → Prop} :
    wpAny (model X.prog X.w) X.A (handleBy (.ref a) X.env []) Q X.xe s := by
  obtain ⟨_, _, _, oe, vs, T, oT, ts, z1, z2, z3, z4, z5, z6, z7, z8, z9⟩ := id h.fly
  have gone : wpAny (model X.prog X.w) X.A (setFlight (.ref a) X.env.frame) (fun _ s4 => wpAny (model X.prog X.w) X.A (throw (.ref a) : Sem Flow) Q X.xe s4) X.xe s := by
    rw [hf]
    exact HandSPX.setFlight_upZ h.fly fun h4 held up4 => wpAny_throw (tk _ _ ⟨a, B, s0, pins, σ, H, cls, d, rfl, h.inv, h.low, h.up.trans up4, .inr (.inr (by rw [hs]; exact held)), h.free, h.os, h.bare, q⟩)
  refine wpAny_handleBy_nil ?_
  unfold PySem.passOn
  refine wpAny_bind (wpAny_field z1 z3 z4 ?_)
  rw [if_neg (by simp)]
  first
    | exact wpAny_bind gone
    | exact wpAny_bind (wpAny_pure (wpAny_bind gone))
/-- the suite of the clause that it meets -/
theorem HandN.meets (hs : X.stack = X.env :: X.outer) (hf : X.env.frame = some X.env.locals) (hN : X.N.Nodup) {n : Str} {i : Nat} {ts : Addr → Value → Option Addr → TS} {b₀ : Stmt} {suite : List Stmt} {p p2 : Pos} (hi : X.N[i]? = some n) (hl : Own X n)
    (hsu : ∀ (a : Addr) (oe : Obj) (cls : Value) (d : Option Addr) (pn : List (Addr × Obj)), L2N.Zn cls d oe → (∃ vs, oe.data = .fields vs) → PSs (X.suite a ((a, oe) :: pn)) (b₀ :: suite) (ts a cls d))
    (h : HandN X pins σ H B a cls d s0 s) (q : ts a cls d (Ends.less D i) (σ.set i (some (.ref a))) H) {R : Result → Shared → Prop}
    (hR : ∀ f s2, (wpAny (model X.prog X.w) X.A (do bindName X.env n .none; unbindBehindTheSuite X.env n p2) (fun _ s3 => SP X pins D f s3) X.xe s2) → R (.ok f) s2) :
    codeAny (model X.prog X.w) (X.A.mark (some (.ref a))) (.handlers (.ref a) [.ExceptHandler none (some n) (b₀ :: suite) p] X.env) R s := by
  refine codeAny_handlers_suite_as (HandSPX.lands_againZ h.fly fun h4 fl4 up4 => ?_)
  have h2 : HandN X pins σ H B a cls d s0 { s with heap := h4 } := ⟨h.inv, h.low, h.up.trans up4, fl4, h.free, h.os, h.bare⟩
  obtain ⟨oe, vs, e, z, dd, I⟩ := h2.obj hs hf
  refine store_ok (X := X.suite a ((a, oe) :: (X.pn ++ pins))) (v := .ref a) I hN hi hl.loc rfl (fun s5 I5 => ?_) hl.fn
  refine wpAny_mono ((hsu a oe cls d (X.pn ++ pins) z ⟨vs, dd⟩).run [] s5 _ H _ I5 q) (fun f s6 hf6 => hR f s6 ?_) fun _ _ x => x.elim
  have wipe : ∀ {σ6 : L2.St} {H6 : Hp} {Q : Shared → Prop}, Inv (X.suite a ((a, oe) :: (X.pn ++ pins))) [] σ6 H6 s6 → (∀ s7, Inv X pins (σ6.set i none) H6 s7 → Q s7) →
      wpAny (model X.prog X.w) X.A (do bindName X.env n .none; unbindBehindTheSuite X.env n p2) (fun _ s7 => Q s7) X.xe s6 := fun J k => gone_own (J.unsuite h.inv.ok) hN hi hl k
  match f, hf6 with
  | .next, ⟨_, _, J, q6⟩ => exact wipe J fun s7 J7 => ⟨_, _, J7, q6⟩
  | .brk, ⟨_, _, J, q6⟩ => exact wipe J fun s7 J7 => ⟨_, _, J7, q6⟩
  | .cont, ⟨_, _, J, q6⟩ => exact wipe J fun s7 J7 => ⟨_, _, J7, q6⟩
  | .ret u, ⟨_, _, _, J, rv, q6⟩ => exact wipe J fun s7 J7 => ⟨_, _, _, J7, rv, q6⟩
theorem HandN.goes (hs : X.stack = X.env :: X.outer) (hf : X.env.frame = some X.env.locals) (hN : X.N.Nodup) (tk : L2N.Takes X Wout) {hds : List ExceptHandler} {l : List Clause} (C : ClausesN X hds l) :
    ∀ {s : Shared}, HandN X pins σ H B a cls d s0 s → wCl X.K Wout D l cls d σ H → wpAny (model X.prog X.w) X.A (handleBy (.ref a) X.env hds) (SP X pins D) X.xe s := by
  induction C with
  | nil => exact fun h q => h.passes hs hf tk q
  | cons test hi hl hsu _ ih =>
    rintro s h ⟨b, e, yes, no⟩
    obtain ⟨oe, vs, _, _, _, I⟩ := h.obj hs hf
    refine wpAny_handleBy_cons (codeAny_handlers_test (test I h.ty e fun h' k => ?_)) fun z => nomatch z
    have h2 := h.more k
    cases b with
    | false => exact ih h2 (no rfl)
    | true => exact h2.meets hs hf hN hi hl hsu (yes rfl a h.free) fun f s2 z => z
variable {body : List Stmt} {h₀ : ExceptHandler} {hds : List ExceptHandler} {l : List Clause} {p : Pos} {tb : WX → TS}
theorem ps_try_clN (hs : X.stack = X.env :: X.outer) (hf : X.env.frame = some X.env.locals) (hN : X.N.Nodup) (tk : L2N.Takes X Wout)
    (hb : ∀ (W : WX) (pn : List (Addr × Obj)) (xe : Value → Shared → Prop), L2N.Takes (X.tr pn xe) W → PassesOwn (model X.prog X.w) X.A X.env xe → PSs (X.tr pn xe) body (tb W)) (C : ClausesN X (h₀ :: hds) l) :
    PS X (.Try body (h₀ :: hds) [] [] p) (fun D σ H => tb (wCl X.K Wout D l) D σ H) := by
  constructor
  intro pins s σ H D I q
  have fr : X.A.frames = some (X.env :: X.outer) := I.ok.frames.trans (congrArg some hs)
  apply wpAny_Try_except
  have caught : L2N.Takes (X.tr (X.pn ++ pins) (comes X (h₀ :: hds) pins D)) (wCl X.K Wout D l) := fun u s1 x => ?_
  · have bodyOk := hb (wCl X.K Wout D l) (X.pn ++ pins) (comes X (h₀ :: hds) pins D) caught PassesOwn.looking
    refine wpAny_mono (bodyOk.run [] s σ H D (I.toTry _) q) (fun f s1 x => ?_) fun _ _ x => x
    match f, x with
    | .next, ⟨_, _, J, q1⟩ => exact wpAny_execs_nil ⟨_, _, J.ofTry I.ok, q1⟩
    | .brk, ⟨_, _, J, q1⟩ => exact ⟨_, _, J.ofTry I.ok, q1⟩
    | .cont, ⟨_, _, J, q1⟩ => exact ⟨_, _, J.ofTry I.ok, q1⟩
    | .ret u, ⟨_, _, _, J, rv, q1⟩ => exact ⟨_, _, _, J.ofTry I.ok, rv, q1⟩
  · obtain ⟨a, B, s0, pins', σ1, H1, cls, d, rfl, J, low, up, sky, na, os, ag, w⟩ := x
    exact L2N.Sky.land L2N.Zn.steady fr hf (by rw [← hs]; exact sky) fun h3 fl up3 => HandN.goes hs hf hN tk C ⟨J.ofTry I.ok, low, up.trans up3, fl, na, os, ag⟩ w
end
end Ag

end
/-! ## LN -/
section
set_option linter.all false
set_option maxRecDepth 100000
set_option maxHeartbeats 1000000
namespace Ag
open PySem PySem.Spec PyProof.Rows L2 LamX
/-! ### a lambda handed to a def that catches what it lets out (exceptions without a context) -/
abbrev lamN (X : Cx) (A : Around) (outer : List Env) (s : Shared) (H : Hp) (E : XK) (scope : Scope) (f c : Addr) : Cx := (lamCx X A outer s H E scope f c).wish fun e u =>
  wpAny (model X.prog X.w) (A.deeper (lamEnv X scope s.heap.objs.size f c)) (leaving (lamEnv X scope s.heap.objs.size f c) e) (fun _ v => L2N.CX X.prog X.w outer H s E e v) (fun e' v => L2N.CX X.prog X.w outer H s E e' v) u
/-- the context of the def that got it -/
abbrev gotC (X : Cx) (Ng : List Str) (q : Str) (sg : Scope) (g : Addr) (cd : Value) (s : Shared) (H : Hp) : Cx := cxOf C8.CX0 X.prog X.w X.K X.mg X.base Ng q sg g cd X.A X.stack s H C8.E0
section
variable {X : Cx} {pins : List (Addr × Obj)} {σ : L2.St} {H HZ : Hp} {s s1 : Shared}
theorem act_N {Ng : List Str} {qg : Str} {sg : Scope} {g f c' : Addr} {cdg pm ctv : Value} {params : Arguments} {body : Expr} {scope : Scope} {k : Nat} {a : Str} {pn : List (Addr × Obj)} {xe : Value → Shared → Prop} {W : WX} {E : XK} {tb : TE} {p1 p2 : Pos}
    (I : Inv X pins σ H s) (L : LamS X.env.scope scope) (hf : s.heap.get? f = some (PySem.W.kla_obj "<lambda>" (X.env.qual ++ "<lambda>") params body scope (cloFrom X.env.cells scope.names []) pm c' ctv)) (hfn : H f = none) (hfr : f ∉ frs X.stack)
    (hbind : bindArgs (PySem.W.kla_fn "<lambda>" (X.env.qual ++ "<lambda>") params body scope (cloFrom X.env.cells scope.names []) pm (.ref c') ctv) ⟨[], []⟩ = pure []) (tk : L2N.Takes ((gotC X Ng qg sg g cdg s H).tr pn xe) W) (hW : ∀ cls d τ G, E cls d G → W cls d τ G)
    (hr : Room (k + 1) (X.A.deeper (envOfC qg sg s.heap.objs.size g cdg))) (hbody : ∀ (A : Around) (outer : List Env) (s : Shared) (H : Hp), Room k (A.deeper (lamEnv X scope s.heap.objs.size f c')) → PE (lamN X A outer s H E scope f c') body tb) (hN : Ng[0]? = some a) (hv : Vis sg a)
    (hd : (a == ("__debug__" : Str)) = false) (hcd : (a == ("__classdict__" : Str)) = false) :
    PE ((gotC X Ng qg sg g cdg s H).tr pn xe) (.Call (.Name a p1) [] [] p2) (fun τ G Q => τ[0]? = some (some (.ref f)) ∧ G c' = some (CodeO c' (X.env.qual ++ "<lambda>")) ∧ tb σ G Q) := by
  constructor
  intro pz sz τ G Q IZ ⟨h1, h2, h3⟩
  refine wpAny_Call_Name_kw (thn ((pe_var (pos := p1) (i := 0) hN hv hd hcd).run pz sz τ G (fun v F => v = .ref f ∧ F = G) IZ ⟨.ref f, h1, rfl, rfl⟩) fun u s1 ⟨v, G1, I1, r1, e1, e2⟩ => ?_)
  subst e1
  rw [e2] at I1
  cases (show u = Value.ref f from r1)
  have lamb := I1.base.keep f _ hf hfn hfr fun z => nomatch (show f ∈ ([] : List Addr) from z)
  refine PySem.W.callWith_F0 ⟨_, _, _, _, lamb⟩ ?_
  obtain ⟨⟨oc, vs, t, k1, k2, k3⟩, _, _⟩ := I1.hok c' _ h2
  have go : codeAny (model X.prog X.w) (X.A.deeper (envOfC qg sg s.heap.objs.size g cdg)) (.call (.ref f) ⟨[], []⟩) (CR (L2N.CX X.prog X.w) (envOfC qg sg s.heap.objs.size g cdg :: X.stack) X.prog X.w G s1 Q E) s1 := by
    refine PySem.W.kla_callFunE hr.depth lamb rfl L.co L.gen rfl ⟨c', oc, vs, t, rfl, k1, k2, k3⟩ ?_
    rw [hbind]; refine wpAny_pure (wpAny_newFunctionEnv (fun y hy => (L.own y hy).2) (fun y hy => absurd hy (by simp)) (fun h2 hns hsb => ⟨I1.nolimit.fresh _ hsb, ?_⟩) L.kind)
    show codeAny _ _ (.expr body (lamEnv X scope s1.heap.objs.size f c')) (CR (L2N.CX X.prog X.w) _ _ _ _ _ _ _) _
    have J := lam_start2 (A := X.A.deeper (envOfC qg sg s.heap.objs.size g cdg)) (outer := envOfC qg sg s.heap.objs.size g cdg :: X.stack) (E := E) (f := f) (c' := c') (tk := s1.toks + ([] : List (Str × Value)).length) I L I1.env0 hr.hd I1.base hns fun b o z => hsb.extBut b o (Nat.ne_of_lt (Heap.lt_size z)) (Heap.get?_push_of_some _ z)
    exact PySem.W.kla_codeExpr (wpAny_mono ((hbody _ _ s1 G (hr.deeper _)).run [] _ _ G Q (J.wish _) h3) (fun v s' ⟨w', G', J', rv, q⟩ => ⟨w', G', J'.os, J'.bare, J'.base, J'.hok, rv, q⟩) fun _ _ z => z)
  have out : Passes (L2N.CX X.prog X.w) ((gotC X Ng qg sg g cdg s H).tr pn xe) E := L2N.passes_call tk hW
  refine wpAny_call (codeAny_mono go ?_)
  rintro (er | fl) s' hq
  · exact out pz τ G s1 er s' I1 hq
  cases fl with
  | ret u => exact I1.after hq
  | _ => exact hq.elim
/-- what the def makes of the lambda's reading -/
def GivesN (X : Cx) (Ng : List Str) (x : Str) (sg : Scope) (g : Addr) (cdg : Value) (bg : List Stmt) (a : Str) (q : Str) (TT : (XK → Hp → VK → Prop) → Hp → VK → Prop) : Prop :=
  ∀ (f c : Addr) (s : Shared) (H : Hp) (Q : VK) (tl : XK → Hp → VK → Prop),
    (∀ (W : WX) (pn : List (Addr × Obj)) (xe : Value → Shared → Prop) (E : XK) (p1 p2 : Pos), L2N.Takes ((gotC X Ng x sg g cdg s H).tr pn xe) W → (∀ cls d τ G, E cls d G → W cls d τ G) →
      PE ((gotC X Ng x sg g cdg s H).tr pn xe) (.Call (.Name a p1) [] [] p2) (fun τ G Q => τ[0]? = some (some (.ref f)) ∧ G c = some (CodeO c q) ∧ tl E G Q)) →
    H c = some (CodeO c q) → TT tl H Q → ∃ t, PSs (gotC X Ng x sg g cdg s H).nox bg t ∧ t { nx := fun _ G => Q .non G, rt := Q } (L2.start Ng [.ref f]) H
theorem pe_lamN {T : List (Addr × Str)} {TT : (XK → Hp → VK → Prop) → Hp → VK → Prop} {x a : Str} {g c P : Addr} {k : Nat} {pg : Arguments} {bg : List Stmt} {sg : Scope} {dV kV doc pm cdv ct oc : Value} {an od : Option Addr} {osl : Array (Option Value)} {Ng : List Str}
    {params : Arguments} {body : Expr} {scope : Scope} {t : XK → TE} {p lpos pos : Pos} (hg : Gl X x) (hm : X.mg x = some (.ref g)) (hk : PySem.W.keepIn X.K (.ref g) = true) (lk : X.K.lookup g = some ⟨oc, od, .func (PySem.W.fnOf x x pg bg sg dV kV doc pm an cdv ct), osl⟩)
    (hcg : PySem.W.codeIn X.K cdv x = true) (hb : L2.Binds X.K (PySem.W.fnOf x x pg bg sg dV kV doc pm an cdv ct) [a] []) (Sg : FnScope Ng [a] sg) (hNg : Ng[0]? = some a) (hva : Vis sg a) (hG : GivesN X Ng x sg g cdv bg a (X.env.qual ++ "<lambda>") TT) (TB : TabB X.base X.mg c P) (hcode : X.env.code = .ref c)
    (hmT : (P, X.env.qual ++ "<lambda>") ∈ T) (hu : ∀ p ∈ T, p.1 = P → p.2 = X.env.qual ++ "<lambda>") (hr : Room (k + 2) X.A) (L : LamS X.env.scope scope) (hdef : defaultsOf params X.env = ([], [])) (hbind : ∀ (q : Str) (cl : List (Str × Addr)) (pm cv ctv : Value), bindArgs (PySem.W.kla_fn "<lambda>" q params body scope cl pm cv ctv) ⟨[], []⟩ = pure [])
    (hbody : ∀ (A : Around) (outer : List Env) (s : Shared) (H : Hp) (E : XK) (f c' : Addr), Room k (A.deeper (lamEnv X scope s.heap.objs.size f c')) → PE (lamN X A outer s H E scope f c') body (t E))
    (hdb : (x == ("__debug__" : Str)) = false := by decide) (hd : (a == ("__debug__" : Str)) = false := by decide) (hcd : (a == ("__classdict__" : Str)) = false := by decide) : PE X (.Call (.Name x p) [.Lambda params body scope lpos] [] pos) (tLam T TT t) := by
  constructor
  intro pins s σ H Q I ⟨hT, h⟩
  refine wpAny_Call_Name_kw (ld_glob I hg hm (PySem.W.callWith_K (h₀ := X.base) I.ok.mod.kin hk ?_ (by rfl) (by rfl)) hdb)
  show wpAny _ _ (spliced ((false, eval (.Lambda params body scope lpos) X.env) :: backTo pos (starEach [] X.env))) (fun us v => _) _ s
  refine Calls.spliced_cons (lam_make2 I TB hcode hmT hu hT hdef (L.has I.ok) fun f c' pm' ctv H1 s' I1 eN T1 hf hfn hfr hco => Calls.spliced_nil ⟨I1.kIn, ?_⟩)
  refine wpAny_call (codeAny_mono (run_ofS (CX := C8.CX0) (E := C8.E0) (Q := Q) (N := Ng) (ps := [a]) (us := [.ref f]) (vs := [.ref f]) lk hcg Sg hr I1.env0 (hb s' [.ref f] I1.kIn rfl) (.cons rfl .nil) rfl fun hr2 => ?_) ?_)
  · obtain ⟨t', h1, h2⟩ := hG f c' s' H1 Q (fun E G Q' => t E σ G Q') (fun W pn xe E p1 p2 tk hW => act_N I1 L hf hfn hfr (hbind _ _ _ _ _) tk hW hr2 (fun A outer s H hr3 => hbody A outer s H E f c' hr3) hNg hva hd hcd) hco (h H1 eN T1)
    exact ⟨t', h1.nox, h2⟩
  · rintro (er | fl) s2 hq
    · exact (show False from hq).elim
    cases fl with
    | ret u => exact I1.after hq
    | _ => exact hq.elim
end
end Ag

end
/-! ## XW -/
section
set_option linter.all false
set_option maxRecDepth 100000
namespace Ag
open PySem PySem.Spec PyProof.Rows L2 HotX L2H
/-! ### a suite for some own classes, each with the same field -/
def tXv (K : PySem.W.Frag) (a : Addr) (cls : Value) (d : Option Addr) (f : Str) (i : Nat) : TE := fun σ H Q => σ[i]? = some (some (.ref a)) ∧ ∃ (C dd : Addr) (fs : List (Str × V)) (v : V), XfC K C ∧ PySem.W.findIn K (.ref C) f = some none ∧ cls = .ref C ∧ d = some dd ∧ H dd = some (.xd fs) ∧ fs.lookup f = some v ∧ Q v H
theorem pe_xv {X : Cx} {a : Addr} {oe : Obj} {cls : Value} {d : Option Addr} {pn : List (Addr × Obj)} {p pos : Pos} {n f : Str} {i : Nat} (hz : Zc cls d oe) (hf : ∃ vs, oe.data = .fields vs) (he : PE (X.suite a ((a, oe) :: pn)) (.Name n p) (tVar i))
    (hb : attributeBase (.Name n p) f X.env (eval (.Name n p) X.env) = eval (.Name n p) X.env := by rfl) : PE (X.suite a ((a, oe) :: pn)) (.Attribute (.Name n p) f pos) (tXv X.K a cls d f i) := by
  constructor
  rintro pins s σ H Q I ⟨h1, C, dd, fs, v, T, no, rfl, rfl, h2, h3, q⟩
  exact (pe_xf (X := X) (pos := pos) T no hz hf he hb).run pins s σ H Q I ⟨.ref a, h1, rfl, rfl, dd, fs, v, rfl, h2, h3, q⟩
/-- isinstance(e, C), e the handled exception, C a class of the module -/
def tIsH (K : PySem.W.Frag) (a : Addr) (cls : Value) (d : Option Addr) (i : Nat) (C : Addr) : TE := fun σ H Q => σ[i]? = some (some (.ref a)) ∧ ∃ (D dd : Addr) (fs : List (Str × V)) (b : Bool), cls = .ref D ∧ d = some dd ∧ H dd = some (.xd fs) ∧ ExcC K D ∧ PySem.W.kitOne K (.ref D) (.ref C) = some b ∧ Q (.bl b) H
theorem pe_isH {X : Cx} {K : PySem.W.Frag} {a C : Addr} {oe : Obj} {cls : Value} {d : Option Addr} {i : Nat} {n x : Str} {p0 p1 p2 p3 : Pos} (hK : X.K = K) (hp : (a, oe) ∈ X.pn) (hz : Zc cls d oe) (hf : ∃ vs, oe.data = .fields vs) (hg : Gl X "isinstance") (hn : X.mg "isinstance" = none) (hv : PE X (.Name n p1) (tVar i)) (hgc : Gl X x)
    (hmc : X.mg x = some (.ref C)) (hdb : (x == ("__debug__" : Str)) = false) : PE X (.Call (.Name "isinstance" p0) [.Name n p1, .Name x p2] [] p3) (tIsH K a cls d i C) := by
  subst hK
  constructor
  rintro pins s σ H Q I ⟨h1, D, dd, fs, b, e1, e2, h2, h3, h4, q⟩
  exact (pe_callB (call_isH hp hz hf) hg hn PyProof.Rows.boot_isinstance (pa_cons hv (pa_cons (pe_cls hgc hmc hdb) pa_nil))).run pins s σ H Q I ⟨.ref a, h1, D, dd, fs, .ref C, .ref C, b, rfl, e1, e2, h2, h3, ref_only, h4, q⟩
/-- the handled exception of a suite -/
theorem hot_zn {X : Cx} {a : Addr} {oe : Obj} {cls : Value} {d : Option Addr} (pn : List (Addr × Obj)) (hz : L2N.Zn cls d oe) (hf : ∃ vs, oe.data = .fields vs) : Hot1 (X.suite a ((a, oe) :: pn)).A (a, oe) := by
  obtain ⟨vs, e⟩ := hf
  exact ⟨rfl, vs, e, hz.2.2 vs e⟩
/-- two names, of a pair -/
theorem pg_twoH {X : Cx} {K : PySem.W.Frag} {i j k : Nat} {x y : Str} {p1 p2 pos : Pos} (hK : X.K = K) (c : HotC X) (nd : X.N.Nodup) (hi : X.N[i]? = some x) (hj : X.N[j]? = some y) (lx : X.env.scope.names.lookup x = some .local) (ly : X.env.scope.names.lookup y = some .local) :
    PG X (.Tuple [.Name x p1, .Name y p2] k pos) (gTup K 2 (gCons (gName i) (gCons (gName j) gNil))) := by
  subst hK
  exact pg_tupH c (pgs_cons (pg_name nd hi (.inl lx) (.inr lx)) (pgs_cons (pg_name nd hj (.inl ly) (.inr ly)) pgs_nil))
theorem pic_listK {X : Cx} {K : PySem.W.Frag} {tg l : Expr} {tl : TE} (hK : X.K = K) (hl : PE X l tl) : Pic HotC X tg l (iList K tl) := by
  subst hK
  exact pic_list hl
theorem pic_tupK {X : Cx} {K : PySem.W.Frag} {tg l : Expr} {tl : TE} (hK : X.K = K) (hl : PE X l tl) : Pic HotC X tg l (iTup K tl) := by
  subst hK
  exact pic_tup hl
theorem takesN_len {X : Cx} {W : WX} (tk : L2N.Takes X W) : L2N.Takes X (fun cls d σ H => σ.length = X.N.length → W cls d σ H) := by
  rintro u s' ⟨a, B, sI, pins, σ, H, cls, d, e, J, nb, up, sky, na, os, ag, z⟩
  exact tk u s' ⟨a, B, sI, pins, σ, H, cls, d, e, J, nb, up, sky, na, os, ag, z J.len⟩
theorem takesN0 {X : Cx} : L2N.Takes X (fun _ _ _ _ => False) := by
  rintro u s' ⟨a, B, sI, pins, σ, H, cls, d, e, J, nb, up, sky, na, os, ag, z⟩
  exact z.elim
theorem six {σ : L2.St} (h : σ.length = 6) : ∃ a b c d e f, σ = [a, b, c, d, e, f] := by
  match σ, h with
  | [a, b, c, d, e, f], _ => exact ⟨a, b, c, d, e, f, rfl⟩
/-- some own exception classes, and the one above them -/
structure Exs (K : PySem.W.Frag) (n : Nat) (cl : Nat → Addr) (G : Addr) : Prop where
  x : ∀ k, k < n → XfC K (cl k)
  c : ∀ k, k < n → ExcC K (cl k)
  no : ∀ k, k < n → PySem.W.findIn K (.ref (cl k)) "thing" = some none
  ex : ∀ k, k < n → PySem.W.exmAny K (.ref (cl k)) ((List.range n).map fun i => .ref (cl i)) = some true
  is : ∀ k, k < n → ∀ j, j < n → PySem.W.kitOne K (.ref (cl k)) (.ref (cl j)) = some (decide (j = k))
  isG : ∀ k, k < n → PySem.W.kitOne K (.ref (cl k)) (.ref G) = some true
end Ag

end
/-! ## S10 -/
section
set_option linter.all false
set_option maxRecDepth 100000
set_option maxHeartbeats 4000000
namespace Ag
open PySem PySem.Spec PyProof.Rows L2
/-! ### a call tried: what it returns, or which exception it raises -/
def nmS (k : Nat) : Str := Str.ofString (nm5 k)
abbrev gtS : Str := Str.ofString "of the gate"
def wd5 (k : Nat) : List (Str × Bool) := [(Str.ofString "BadCounts", decide (0 = k)), (Str.ofString "BadLot", decide (1 = k)), (Str.ofString "BadNumber", decide (2 = k)), (Str.ofString "BadPool", decide (3 = k)), (Str.ofString "BadWord", decide (4 = k)), (gtS, true)]
theorem wd5_one {k : Nat} (h : k < 5) : ((wd5 k).filter (·.2)).map (fun p => V.str p.1) = [.str (nmS k), .str gtS] := by
  match k, h with
  | 0, _ => rfl
  | 1, _ => rfl
  | 2, _ => rfl
  | 3, _ => rfl
  | 4, _ => rfl
def TTried (cl : Nat → Addr) : (XK → Hp → VK → Prop) → Hp → VK → Prop := fun tl H Q => ∀ (H1 : Hp) (E : XK) (R : VK), Same H H1 →
  (∀ cls d G, Same H1 G → (∃ k dd v, k < 5 ∧ cls = .ref (cl k) ∧ d = some dd ∧ G dd = some (.xd [("thing", v)]) ∧ ∀ t G', Same G G' → G t = none → G' t = some (.tup [.str (nmS k), .str gtS, v]) → Q (.ref t) G') → E cls d G) →
  (∀ v G, Same H1 G → (∀ t G', Same G G' → G t = none → G' t = some (.tup [.str (Str.ofString "returned"), v]) → Q (.ref t) G') → R v G) → tl E H1 R
/-- return tuple([word for word, is_it in words if is_it]) + (told,) -/
theorem ret_tried {K : PySem.W.Frag} {Q : VK} (x0 : Option V) (L : Addr) (x3 x4 x5 : Option V) (w : V) (ks : List V) (vs : List V) (ps : List (Str × Bool)) (G : Hp) (hL : G L = some (.lst vs)) (pv : PsA G vs ps) (hn : vs.length ≤ 1000) (hk : (ps.filter (·.2)).map (fun p => V.str p.1) = ks) (hne : ks ≠ []) (hkl : ks.length ≤ 1000) (q : ∀ t G', Same G G' → G t = none → G' t = some (.tup (ks ++ [w])) → Q (.ref t) G') :
    tOp (rCatA K) (tCB (fun xs H Q => ∃ p ys, xs = [.ref p] ∧ ((SqL K H p ys ∧ ∀ l, H l = none → Q (.ref l) (upd H l (.tup ys))) ∨ (SqT K H p ys ∧ Q (.ref p) H))) (tCons (tLc (iList K (tVar 2)) (gTup K 2 (gCons (gName 4) (gCons (gName 5) gNil))) (tB (tVar 5)) (tVar 4) [4, 5]) tNil)) (tTup (tCons (tVar 1) tNil)) [x0, some w, some (.ref L), x3, x4, x5] G Q := by
  refine ⟨_, rfl, L, rfl, ⟨_, SqL.of hL⟩, fun D hD => ?_⟩
  refine lc_words (K := K) pv hL (by omega) hD (fun t s b H k k0 ht hk hk0 => ?_) fun H2 s2 h2 => ?_
  · refine ⟨t, _, rfl, SqT.of ht, rfl, _, _, rfl, _, _, rfl, rfl, rfl, _, rfl, b, rfl, ?_⟩
    cases b with
    | true => exact iteT ⟨_, rfl, hk rfl⟩
    | false => exact iteF (hk0 rfl)
  · rw [hk] at h2
    refine ⟨D, _, rfl, .inl ⟨SqL.of h2, fun l hl => ?_⟩⟩
    have s3 := same_new (o := .tup ks) hl
    have h3 : upd H2 l (.tup ks) l = some (.tup ks) := upd_same
    generalize upd H2 l (.tup ks) = H3 at s3 h3 ⊢
    refine ⟨_, rfl, sz (Nat.le_of_ble_eq_true rfl), fun u hu => ?_⟩
    have s4 := same_new (o := .tup [w]) hu
    have h4 : upd H3 u (.tup [w]) u = some (.tup [w]) := upd_same
    generalize upd H3 u (.tup [w]) = H4 at s4 h4 ⊢
    have s24 := (s2.trans s3).trans s4
    exact ⟨l, u, _, _, rfl, rfl, SqT.of (s4 _ _ h3), SqT.of h4, sz (by show ks.length + 1 ≤ _; omega), (fun z => absurd z hne), (fun _ z => by cases z), fun _ _ t ht => q t _ (s24.trans (same_new ht)) (s24.free ht) upd_same⟩
abbrev YT (X : Cx) (x : Str) (g : Addr) (cdg : Value) (s : Shared) (H : Hp) : Cx := (gotC X N__law_tried x (defScope s__law_tried) g cdg s H).nox
section
variable {X : Cx} {x q : Str} {g G : Addr} {cdg : Value} {cl : Nat → Addr}
theorem ok_tried (B : Blt X.mg) (E : Exs X.K 5 cl G) (g0 : X.mg "BadCounts" = some (.ref (cl 0))) (g1 : X.mg "BadLot" = some (.ref (cl 1))) (g2 : X.mg "BadNumber" = some (.ref (cl 2))) (g3 : X.mg "BadPool" = some (.ref (cl 3))) (g4 : X.mg "BadWord" = some (.ref (cl 4))) (gG : X.mg "GateError" = some (.ref G)) :
    GivesN X N__law_tried x (defScope s__law_tried) g cdg (defBody s__law_tried) "_law_call" q (TTried cl) := by
  intro f c s H Q tl act hc h
  refine ⟨_, pss_cons (ps_par (i := 1) (j := 2) (by rfl) sc__law_tried.nd rfl rfl (by decide) rfl rfl (pa_cons pe_non (pa_cons (pe_lst (pa_cons (pe_tup (pa_cons pe_str (pa_cons pe_bl pa_nil))) pa_nil)) pa_nil)) (by rfl))
    (pss_cons (ps_try_clN (X := YT X x g cdg s H)
      (tb := fun W D σ H => ∃ Ex : XK, (∀ cls d τ G, Ex cls d G → τ.length = 6 → W cls d τ G) ∧ σ[0]? = some (some (.ref f)) ∧ H c = some (LamX.CodeO c q) ∧ tl Ex H fun v G => D.nx (σ.set 1 (some v)) G)
      rfl rfl sc__law_tried.nd takesN0 (fun W pn xe tk _ => ⟨fun pins s' σ H' D I h' => ?_⟩)
      (ClausesN.cons (X := YT X x g cdg s H) (tests_row (X := YT X x g cdg s H) (.cons ⟨by rfl, by decide, .inl g0⟩ (.cons ⟨by rfl, by decide, .inl g1⟩ (.cons ⟨by rfl, by decide, .inl g2⟩ (.cons ⟨by rfl, by decide, .inl g3⟩ (.cons ⟨by rfl, by decide, .inl g4⟩ .nil))))) (by decide)) (i := 3) rfl (.inl rfl) (fun a oe cls d pn hz hf =>
        pss_cons (ps_set (i := 2) sc__law_tried.nd rfl (.inl rfl) (pe_lst (pa_cons (pe_tup (pa_cons pe_str (pa_cons (pe_isH (K := X.K) rfl List.mem_cons_self hz.zc hf (by rfl) B.n_isinstance (pv 3) (by rfl) g0 (by decide)) pa_nil))) (pa_cons (pe_tup (pa_cons pe_str (pa_cons (pe_isH (K := X.K) rfl List.mem_cons_self hz.zc hf (by rfl) B.n_isinstance (pv 3) (by rfl) g1 (by decide)) pa_nil))) pa_nil))))
        (pss_cons (ps_set (i := 2) sc__law_tried.nd rfl (.inl rfl) (pe_op op_cat (pv 2) (pe_lst (pa_cons (pe_tup (pa_cons pe_str (pa_cons (pe_isH (K := X.K) rfl List.mem_cons_self hz.zc hf (by rfl) B.n_isinstance (pv 3) (by rfl) g2 (by decide)) pa_nil))) (pa_cons (pe_tup (pa_cons pe_str (pa_cons (pe_isH (K := X.K) rfl List.mem_cons_self hz.zc hf (by rfl) B.n_isinstance (pv 3) (by rfl) g3 (by decide)) pa_nil))) pa_nil)))))
        (pss_one (ps_parH (i := 2) (j := 1) ⟨(a, oe), hot_zn pn hz hf, List.mem_cons_self⟩ sc__law_tried.nd rfl rfl (by decide) rfl rfl (pa_cons (pe_op op_cat (pv 2) (pe_lst (pa_cons (pe_tup (pa_cons pe_str (pa_cons (pe_isH (K := X.K) rfl List.mem_cons_self hz.zc hf (by rfl) B.n_isinstance (pv 3) (by rfl) g4 (by decide)) pa_nil))) (pa_cons (pe_tup (pa_cons pe_str (pa_cons (pe_isH (K := X.K) rfl List.mem_cons_self hz.zc hf (by rfl) B.n_isinstance (pv 3) (by rfl) gG (by decide)) pa_nil))) pa_nil)))) (pa_cons (pe_xv hz.zc hf (pv 3)) pa_nil)) (by rfl))))) .nil))
    (pss_one (ps_ret (pe_op op_catA (pe_callTy call_tuple_of (by rfl) B.n_tuple (by decide +kernel) (pa_cons (pe_lc (own := [("_law_word_here", 4), ("_law_is_it", 5)]) rfl sc__law_tried.nd (pi_list (pv 2)) (blkOk_by (N := N__law_tried) (sc := defScope s__law_tried) (by decide +kernel)) (fun _ _ _ _ _ => pg_two (i := 4) (j := 5) X.K rfl sc__law_tried.nd rfl rfl rfl rfl rfl) (fun _ _ _ _ _ => (pts_one (pt_val (pv 5)))) (fun _ _ _ _ _ => (pv 4))) pa_nil)) (pe_tup (pa_cons (pv 1) pa_nil)))))), ?_⟩
  · obtain ⟨Ex, hW, h1, h2, h3⟩ := h'
    exact (pss_one (ps_set (i := 1) sc__law_tried.nd rfl (.inl rfl) (act _ pn xe Ex _ _ (takesN_len tk) fun cls d σ' H' e l => hW cls d σ' H' e l))).run pins s' σ H' D I ⟨h1, h2, h3⟩
  · refine ⟨sz (Nat.le_of_ble_eq_true rfl), fun t0 ht0 => ⟨sz (Nat.le_of_ble_eq_true rfl), fun L0 hL0 => ⟨_, _, rfl, ?_⟩⟩⟩
    have s0 := (same_new (o := .tup [.str (Str.ofString "returned"), .bl true]) ht0).trans (same_new (o := .lst [.ref t0]) hL0)
    have at0 : upd (upd H t0 (.tup [.str (Str.ofString "returned"), .bl true])) L0 (.lst [.ref t0]) t0 = some (.tup [.str (Str.ofString "returned"), .bl true]) := same_new hL0 _ _ upd_same
    have atL : upd (upd H t0 (.tup [.str (Str.ofString "returned"), .bl true])) L0 (.lst [.ref t0]) L0 = some (.lst [.ref t0]) := upd_same
    generalize upd (upd H t0 (.tup [.str (Str.ofString "returned"), .bl true])) L0 (.lst [.ref t0]) = H1 at s0 at0 atL ⊢
    refine ⟨fun cls d G => ∀ τ : L2.St, τ.length = 6 → wCl X.K (fun _ _ _ _ => False) _ _ cls d τ G, fun cls d τ G hE l6 => hE τ l6, rfl, s0 _ _ hc, h H1 _ _ s0 ?_ ?_⟩
    · rintro cls d G sG ⟨k, dd, v, k5, rfl, rfl, hdd, q'⟩ τ l6
      obtain ⟨x0, x1, x2, x3, x4, x5, rfl⟩ := six l6
      refine ⟨true, E.ex k k5, fun _ a ha => ?_, fun z => by cases z⟩
      refine ⟨rfl, _, dd, _, _, rfl, rfl, (Same.refl G) _ _ hdd, E.c k k5, E.is k k5 0 (by omega), sz (Nat.le_of_ble_eq_true rfl), fun t1 ht1 => ?_⟩
      have e1 := same_new (o := (.tup [.str (Str.ofString "BadCounts"), .bl (decide (0 = k))])) ht1
      have a1 : upd G t1 (.tup [.str (Str.ofString "BadCounts"), .bl (decide (0 = k))]) t1 = some (.tup [.str (Str.ofString "BadCounts"), .bl (decide (0 = k))]) := upd_same
      have c1 := (Same.refl G).trans e1
      generalize upd G t1 (.tup [.str (Str.ofString "BadCounts"), .bl (decide (0 = k))]) = G1 at c1 a1 ⊢
      refine ⟨rfl, _, dd, _, _, rfl, rfl, c1 _ _ hdd, E.c k k5, E.is k k5 1 (by omega), sz (Nat.le_of_ble_eq_true rfl), fun t2 ht2 => ?_⟩
      have e2 := same_new (o := (.tup [.str (Str.ofString "BadLot"), .bl (decide (1 = k))])) ht2
      have a2 : upd G1 t2 (.tup [.str (Str.ofString "BadLot"), .bl (decide (1 = k))]) t2 = some (.tup [.str (Str.ofString "BadLot"), .bl (decide (1 = k))]) := upd_same
      have a1 := e2 _ _ a1
      have c2 := c1.trans e2
      generalize upd G1 t2 (.tup [.str (Str.ofString "BadLot"), .bl (decide (1 = k))]) = G2 at c2 a1 a2 ⊢
      refine ⟨sz (Nat.le_of_ble_eq_true rfl), fun M0 hM0 => ?_⟩
      have e3 := same_new (o := (.lst [.ref t1, .ref t2])) hM0
      have np : PsA (upd G2 M0 (.lst [.ref t1, .ref t2])) [.ref t1, .ref t2] [(Str.ofString "BadCounts", decide (0 = k)), (Str.ofString "BadLot", decide (1 = k))] := PsA.to (.cons a1 (.cons a2 .nil)) e3
      have nl : upd G2 M0 (.lst [.ref t1, .ref t2]) M0 = some (.lst [.ref t1, .ref t2]) := upd_same
      have c3 := c2.trans e3
      generalize upd G2 M0 (.lst [.ref t1, .ref t2]) = G3 at c3 np nl ⊢
      have pl := np
      have hl := nl
      refine ⟨_, rfl, rfl, _, dd, _, _, rfl, rfl, c3 _ _ hdd, E.c k k5, E.is k k5 2 (by omega), sz (Nat.le_of_ble_eq_true rfl), fun t3 ht3 => ?_⟩
      have e4 := same_new (o := (.tup [.str (Str.ofString "BadNumber"), .bl (decide (2 = k))])) ht3
      have a3 : upd G3 t3 (.tup [.str (Str.ofString "BadNumber"), .bl (decide (2 = k))]) t3 = some (.tup [.str (Str.ofString "BadNumber"), .bl (decide (2 = k))]) := upd_same
      have pl := pl.to e4
      have hl := e4 _ _ hl
      have c4 := c3.trans e4
      generalize upd G3 t3 (.tup [.str (Str.ofString "BadNumber"), .bl (decide (2 = k))]) = G4 at c4 a3 pl hl ⊢
      refine ⟨rfl, _, dd, _, _, rfl, rfl, c4 _ _ hdd, E.c k k5, E.is k k5 3 (by omega), sz (Nat.le_of_ble_eq_true rfl), fun t4 ht4 => ?_⟩
      have e5 := same_new (o := (.tup [.str (Str.ofString "BadPool"), .bl (decide (3 = k))])) ht4
      have a4 : upd G4 t4 (.tup [.str (Str.ofString "BadPool"), .bl (decide (3 = k))]) t4 = some (.tup [.str (Str.ofString "BadPool"), .bl (decide (3 = k))]) := upd_same
      have a3 := e5 _ _ a3
      have pl := pl.to e5
      have hl := e5 _ _ hl
      have c5 := c4.trans e5
      generalize upd G4 t4 (.tup [.str (Str.ofString "BadPool"), .bl (decide (3 = k))]) = G5 at c5 a3 a4 pl hl ⊢
      refine ⟨sz (Nat.le_of_ble_eq_true rfl), fun M1 hM1 => ?_⟩
      have e6 := same_new (o := (.lst [.ref t3, .ref t4])) hM1
      have np : PsA (upd G5 M1 (.lst [.ref t3, .ref t4])) [.ref t3, .ref t4] [(Str.ofString "BadNumber", decide (2 = k)), (Str.ofString "BadPool", decide (3 = k))] := PsA.to (.cons a3 (.cons a4 .nil)) e6
      have nl : upd G5 M1 (.lst [.ref t3, .ref t4]) M1 = some (.lst [.ref t3, .ref t4]) := upd_same
      have pl := pl.to e6
      have hl := e6 _ _ hl
      have c6 := c5.trans e6
      generalize upd G5 M1 (.lst [.ref t3, .ref t4]) = G6 at c6 np nl pl hl ⊢
      refine ⟨M0, M1, _, _, rfl, rfl, hl, nl, sz (Nat.le_of_ble_eq_true rfl), fun J1 hJ1 => ?_⟩
      have e7 := same_new (o := .lst ([.ref t1, .ref t2] ++ [.ref t3, .ref t4])) hJ1
      have pl := (pl.app np).to e7
      have hl : upd G6 J1 (.lst ([.ref t1, .ref t2] ++ [.ref t3, .ref t4])) J1 = some (.lst ([.ref t1, .ref t2] ++ [.ref t3, .ref t4])) := upd_same
      have c7 := c6.trans e7
      generalize upd G6 J1 (.lst ([.ref t1, .ref t2] ++ [.ref t3, .ref t4])) = G7 at c7 pl hl ⊢
      refine ⟨_, rfl, rfl, _, dd, _, _, rfl, rfl, c7 _ _ hdd, E.c k k5, E.is k k5 4 (by omega), sz (Nat.le_of_ble_eq_true rfl), fun t5 ht5 => ?_⟩
      have e8 := same_new (o := (.tup [.str (Str.ofString "BadWord"), .bl (decide (4 = k))])) ht5
      have a5 : upd G7 t5 (.tup [.str (Str.ofString "BadWord"), .bl (decide (4 = k))]) t5 = some (.tup [.str (Str.ofString "BadWord"), .bl (decide (4 = k))]) := upd_same
      have pl := pl.to e8
      have hl := e8 _ _ hl
      have c8 := c7.trans e8
      generalize upd G7 t5 (.tup [.str (Str.ofString "BadWord"), .bl (decide (4 = k))]) = G8 at c8 a5 pl hl ⊢
      refine ⟨rfl, _, dd, _, _, rfl, rfl, c8 _ _ hdd, E.c k k5, E.isG k k5, sz (Nat.le_of_ble_eq_true rfl), fun t6 ht6 => ?_⟩
      have e9 := same_new (o := (.tup [.str (Str.ofString "of the gate"), .bl (true)])) ht6
      have a6 : upd G8 t6 (.tup [.str (Str.ofString "of the gate"), .bl (true)]) t6 = some (.tup [.str (Str.ofString "of the gate"), .bl (true)]) := upd_same
      have a5 := e9 _ _ a5
      have pl := pl.to e9
      have hl := e9 _ _ hl
      have c9 := c8.trans e9
      generalize upd G8 t6 (.tup [.str (Str.ofString "of the gate"), .bl (true)]) = G9 at c9 a5 a6 pl hl ⊢
      refine ⟨sz (Nat.le_of_ble_eq_true rfl), fun M2 hM2 => ?_⟩
      have e10 := same_new (o := (.lst [.ref t5, .ref t6])) hM2
      have np : PsA (upd G9 M2 (.lst [.ref t5, .ref t6])) [.ref t5, .ref t6] [(Str.ofString "BadWord", decide (4 = k)), (gtS, true)] := PsA.to (.cons a5 (.cons a6 .nil)) e10
      have nl : upd G9 M2 (.lst [.ref t5, .ref t6]) M2 = some (.lst [.ref t5, .ref t6]) := upd_same
      have pl := pl.to e10
      have hl := e10 _ _ hl
      have c10 := c9.trans e10
      generalize upd G9 M2 (.lst [.ref t5, .ref t6]) = G10 at c10 np nl pl hl ⊢
      refine ⟨J1, M2, _, _, rfl, rfl, hl, nl, sz (Nat.le_of_ble_eq_true rfl), fun J2 hJ2 => ?_⟩
      have e11 := same_new (o := .lst (([.ref t1, .ref t2] ++ [.ref t3, .ref t4]) ++ [.ref t5, .ref t6])) hJ2
      have pl := (pl.app np).to e11
      have hl : upd G10 J2 (.lst (([.ref t1, .ref t2] ++ [.ref t3, .ref t4]) ++ [.ref t5, .ref t6])) J2 = some (.lst (([.ref t1, .ref t2] ++ [.ref t3, .ref t4]) ++ [.ref t5, .ref t6])) := upd_same
      have c11 := c10.trans e11
      generalize upd G10 J2 (.lst (([.ref t1, .ref t2] ++ [.ref t3, .ref t4]) ++ [.ref t5, .ref t6])) = G11 at c11 pl hl ⊢
      refine ⟨rfl, cl k, dd, _, v, E.x k k5, E.no k k5, rfl, rfl, c11 _ _ hdd, rfl, _, _, rfl, ?_⟩
      have pl : PsA G11 _ (wd5 k) := pl
      refine ret_tried (x0 := x0) (L := J2) (x3 := none) (x4 := x4) (x5 := x5) v _ _ (wd5 k) G11 hl pl (Nat.le_of_ble_eq_true rfl) (wd5_one k5) (by simp) (Nat.le_of_ble_eq_true rfl) fun t G' s' ht h' => ?_
      exact q' t G' (c11.trans s') (c11.free ht) h'
    · intro v G sG q'
      exact ret_tried _ L0 _ _ _ v [.str (Str.ofString "returned")] [.ref t0] [(Str.ofString "returned", true)] G (sG _ _ atL) (.cons (sG _ _ at0) .nil) (Nat.le_of_ble_eq_true rfl) rfl (by simp) (Nat.le_of_ble_eq_true rfl) q'
end
end Ag

end
/-! ## Dt -/
section
set_option linter.all false
set_option maxRecDepth 100000
namespace Ag
open PySem PySem.Spec PyProof.Rows L2
/-! ### data, where tables may be written too -/
def Kt (p c : Addr) (H H' : Hp) : Prop := ∀ b o, b ≠ p → b ≠ c → (∀ ps, o ≠ .tbl ps) → H b = some o → H' b = some o
section
variable {p c : Addr} {H H1 H' : Hp}
theorem Kt.refl : Kt p c H H := fun _ _ _ _ _ e => e
theorem Kt.trans (a : Kt p c H H1) (b : Kt p c H1 H') : Kt p c H H' := fun x o h1 h2 n e => b x o h1 h2 n (a x o h1 h2 n e)
theorem Kt.of (g : Kp p c H H') : Kt p c H H' := fun b o h1 h2 _ e => g b o h1 h2 e
theorem Kt.ext (g : LamX.ExtN H H') : Kt p c H H' := fun b o _ _ n e => g b o e n
theorem At.kt {a : Addr} {o : HO} (g : Kt p c H H') (h : At p c H a o) (n : ∀ ps, o ≠ .tbl ps) : At p c H' a o := ⟨h.1, h.2.1, g a o h.1 h.2.1 n h.2.2⟩
mutual
theorem Dg.ktr (g : Kt p c H H') : ∀ (d : PyData) (v : V), Dg p c H v d → Dg p c H' v d
  | .none, _, h => by cases h; exact .non
  | .bool _, _, h => by cases h; exact .bl _
  | .int _, _, h => by cases h; exact .int _
  | .str _, _, h => by cases h; exact .str _
  | .list ds, _, h => by
    cases h with
    | lst a b => exact .lst (a.kt g fun _ z => by cases z) (DgA.ktr g ds _ b)
  | .tuple ds, _, h => by
    cases h with
    | tup a b => exact .tup (a.kt g fun _ z => by cases z) (DgA.ktr g ds _ b)
  | .dict ds, _, h => by
    cases h with
    | dic a b => exact .dic (a.kt g fun _ z => by cases z) (DgK.ktr g ds _ b)
theorem DgA.ktr (g : Kt p c H H') : ∀ (ds : List PyData) (vs : List V), DgA p c H vs ds → DgA p c H' vs ds
  | [], _, h => by cases h; exact .nil
  | d :: ds, _, h => by
    cases h with
    | cons a b => exact .cons (Dg.ktr g d _ a) (DgA.ktr g ds _ b)
theorem DgK.ktr (g : Kt p c H H') : ∀ (ds : List (PyData × PyData)) (vs : List (Key × V)), DgK p c H vs ds → DgK p c H' vs ds
  | [], _, h => by cases h; exact .nil
  | (_, d) :: ds, _, h => by
    cases h with
    | cons a b => exact .cons (Dg.ktr g d _ a) (DgK.ktr g ds _ b)
end
theorem Dg.kt {v : V} {d : PyData} (h : Dg p c H v d) (g : Kt p c H H') : Dg p c H' v d := Dg.ktr g d v h
end
end Ag

end
/-! ## MG -/
section
set_option linter.all false
set_option maxRecDepth 100000
namespace Ag
open PySem PySem.Spec PyProof.Rows L2
open SX (S S_len S_cat S_inj)
/-! ### expressions that make data, drawing on the way -/
theorem Dk.hp {p c : Addr} {H : Hp} (d : Dk p c H) : H p ≠ none := by
  obtain ⟨m, t, cs, h1, h2, _⟩ := d
  rw [h1]; simp
theorem Dk.hc {p c : Addr} {H : Hp} (d : Dk p c H) : H c ≠ none := by
  obtain ⟨m, t, cs, h1, h2, _⟩ := d
  rw [h2]; simp
theorem Gx.kp {p c : Addr} {H H' : Hp} (g : Gx p c H H') : Kp p c H H' := g.1
theorem Gx.sm {p c : Addr} {H H1 H' : Hp} (g : Gx p c H H1) (s : Same H1 H') : Gx p c H1 H' := Gx.same g.2 s
def MG (p c : Addr) (P : PyData → Prop) (t : TE) (σ : L2.St) (H : Hp) : Prop := ∀ H1, Gx p c H H1 → ∀ Q : VK, (∀ v d H', Gx p c H1 H' → Dg p c H' v d → P d → Q v H') → t σ H1 Q
def MGA (p c : Addr) (P : PyData → Prop) (n : Nat) (t : TA) (σ : L2.St) (H : Hp) : Prop := ∀ H1, Gx p c H H1 → ∀ Q : List V → Hp → Prop, (∀ vs ds H', Gx p c H1 H' → DgA p c H' vs ds → (∀ d ∈ ds, P d) → ds.length = n → Q vs H') → t σ H1 Q
def MGT (p c : Addr) (P : List PyData → Prop) (t : TE) (σ : L2.St) (H : Hp) : Prop := ∀ H1, Gx p c H H1 → ∀ Q : VK, (∀ a ys es H', Gx p c H1 H' → At p c H' a (.tup ys) → DgA p c H' ys es → P es → Q (.ref a) H') → t σ H1 Q
theorem cutV_but (xs : List V) : cutV xs none (some (-1)) = xs.take (xs.length - 1) := by
  unfold cutV
  rw [HT.sIx_none, List.drop_zero, Nat.sub_zero]
  congr 1
  show (if ((-1 : Int)) < 0 then ((-1 : Int) + (xs.length : Int)).toNat else min ((-1 : Int)).toNat xs.length) = _
  rw [if_pos (by decide)]
  omega
section
variable {p c : Addr} {P P' : PyData → Prop} {A A' B : List PyData → Prop} {σ : L2.St} {H : Hp} {t te : TE} {ta : TA} {n i : Nat} {v : V} {d : PyData} {a : Addr} {xs : List V} {ds : List PyData} {K : PySem.W.Frag}
theorem MG.mono (m : MG p c P t σ H) (h : ∀ d, P d → P' d) : MG p c P' t σ H := fun H1 s1 Q q => m H1 s1 Q fun v d H' s hd hP => q v d H' s hd (h d hP)
theorem MG.cst (h : Dg p c H v d) (hP : P d) : MG p c P (tC v) σ H := fun H1 s1 _ q => q v d H1 (Gx.refl s1.2) (h.to s1.1) hP
theorem MG.var (e : σ[i]? = some (some v)) (h : Dg p c H v d) (hP : P d) : MG p c P (tVar i) σ H := fun H1 s1 _ q => ⟨v, e, q v d H1 (Gx.refl s1.2) (h.to s1.1) hP⟩
theorem MGA.nil : MGA p c P 0 tNil σ H := fun H1 s1 _ q => q [] [] H1 (Gx.refl s1.2) .nil (fun _ h => by cases h) rfl
theorem MGA.cons (m : MG p c P te σ H) (r : MGA p c P n ta σ H) : MGA p c P (n + 1) (tCons te ta) σ H := fun H0 s0 Q q => m H0 s0 _ fun v d H1 s1 hd hP => r H1 (s0.trans s1) _ fun vs ds H2 s2 ha hA hl =>
  q (v :: vs) (d :: ds) H2 (s1.trans s2) (.cons (hd.to s2.1) ha) (fun x hx => (List.mem_cons.mp hx).elim (fun z => z ▸ hP) (hA x)) (congrArg (· + 1) hl)
theorem MGT.mono (m : MGT p c A t σ H) (h : ∀ d, A d → A' d) : MGT p c A' t σ H := fun H1 s1 Q q => m H1 s1 Q fun a ys es H' s ha hA hP => q a ys es H' s ha hA (h es hP)
theorem MGT.var (e : σ[i]? = some (some (.ref a))) (ha : At p c H a (.tup xs)) (hA : DgA p c H xs ds) (hP : A ds) : MGT p c A (tVar i) σ H := fun H1 s1 _ q => ⟨_, e, q a xs ds H1 (Gx.refl s1.2) (ha.gx s1) (hA.to s1.1) hP⟩
theorem MGT.tup (m : MGA p c P n ta σ H) (hn : n ≤ 16000000) (h : ∀ ds : List PyData, ds.length = n → (∀ d ∈ ds, P d) → A ds) : MGT p c A (tTup ta) σ H := fun H0 s0 Q q => m H0 s0 _ fun vs ds H1 s1 ha hA hl =>
  ⟨sz (by rw [ha.len]; omega), fun a hf => q _ _ _ _ (s1.trans (Gx.new s1.2 hf)) (.new s1.2 hf) (ha.to (Kp.same (same_new hf))) (h ds hl hA)⟩
theorem MGT.mk (m : MGT p c A t σ H) (h : ∀ es, A es → P (.tuple es)) : MG p c P t σ H := fun H1 s1 Q q => m H1 s1 Q fun a ys es H' s ha hA hP => q _ _ _ s (.tup ha hA) (h es hP)
theorem MGT.off (k : Nat) (m : MGT p c A t σ H) (h : ∀ es, A es → A' (es.drop k)) : MGT p c A' (tSl (rSlA K) t (tPart (tC (.int (k : Int)))) tNoPart) σ H := fun H1 s1 Q q => m H1 s1 _ fun a ys es H2 s2 ha hA hP =>
  ⟨_, rfl, sl_g s2.2.hp s2.2.hc ha fun a' H3 s3 h3 => q _ _ _ _ (s2.trans (s2.sm s3)) h3 (by rw [cutV_off]; exact (hA.to (Kp.same s3)).drop k) (h es hP)⟩
theorem MGT.up (k : Nat) (m : MGT p c A t σ H) (h : ∀ es, A es → A' (es.take k)) : MGT p c A' (tSl (rSlA K) t tNoPart (tPart (tC (.int (k : Int))))) σ H := fun H1 s1 Q q => m H1 s1 _ fun a ys es H2 s2 ha hA hP =>
  ⟨_, rfl, sl_g s2.2.hp s2.2.hc ha fun a' H3 s3 h3 => q _ _ _ _ (s2.trans (s2.sm s3)) h3 (by rw [cutV_up]; exact (hA.to (Kp.same s3)).take k) (h es hP)⟩
theorem MGT.but (m : MGT p c A t σ H) (h : ∀ es n, A es → A' (es.take n)) : MGT p c A' (tSl (rSlA K) t tNoPart (tPart (tUn (rU fun i => .int (-i)) (tC (.int 1))))) σ H := fun H1 s1 Q q => m H1 s1 _ fun a ys es H2 s2 ha hA hP =>
  ⟨1, rfl, -1, rfl, sl_g s2.2.hp s2.2.hc ha fun a' H3 s3 h3 => q _ _ _ _ (s2.trans (s2.sm s3)) h3 (by rw [cutV_but]; exact (hA.to (Kp.same s3)).take _) (h es _ hP)⟩
theorem MGT.cat {t1 t2 : TE} (m1 : MGT p c A t1 σ H) (m2 : MGT p c B t2 σ H) (h : ∀ es fs, A es → B fs → es.length + fs.length ≤ 1000000 ∧ A' (es ++ fs)) : MGT p c A' (tOp (rCatA K) t1 t2) σ H := fun H1 s1 Q q => m1 H1 s1 _ fun a ys es H2 s2 ha hA hP => m2 H2 (s1.trans s2) _ fun b zs fs H3 s3 hb hB hP2 =>
  cat_g s3.2.hp s3.2.hc (ha.gx s3) hb (by rw [hA.len, hB.len]; exact (h es fs hP hP2).1) fun r H4 s4 h4 => q _ _ _ _ ((s2.trans s3).trans (s3.sm s4)) h4 (((hA.to s3.1).to (Kp.same s4)).app (hB.to (Kp.same s4))) (h es fs hP hP2).2
theorem MGT.rev (m : MGT p c A t σ H) (h : ∀ es, A es → A' es.reverse) : MGT p c A' (tRevT K t) σ H := fun H1 s1 Q q => m H1 s1 _ fun a ys es H2 s2 ha hA hP =>
  ⟨a, ys, rfl, SqT.of ha.2.2, fun q1 hq => q _ _ _ _ (s2.trans (Gx.new s2.2 hq)) (.new s2.2 hq) (hA.to (Kp.same (same_new hq))).rev (h es hP)⟩
theorem MG.lst (m : MGA p c P n ta σ H) (hn : n ≤ 16000000) (h : ∀ ds : List PyData, ds.length = n → (∀ d ∈ ds, P d) → P' (.list ds)) : MG p c P' (tLst ta) σ H := fun H0 s0 Q q => m H0 s0 _ fun vs ds H1 s1 ha hA hl =>
  ⟨sz (by rw [ha.len]; omega), fun a hf => q _ _ _ (s1.trans (Gx.new s1.2 hf)) (.lst (.new s1.2 hf) (ha.to (Kp.same (same_new hf)))) (h ds hl hA)⟩
theorem MG.dic (h : P (.dict [])) : MG p c P tDNewK σ H := fun H0 s0 Q q a hf => q _ _ _ (Gx.new s0.2 hf) (.dic (.new s0.2 hf) .nil) h
/-- a list of such data -/
def LP (p c : Addr) (P : PyData → Prop) (N : Nat) (H : Hp) (L : Addr) : Prop := ∃ vs es, At p c H L (.lst vs) ∧ DgA p c H vs es ∧ (∀ e ∈ es, P e) ∧ vs.length = N
theorem LP.to {N : Nat} {H' : Hp} {L : Addr} (h : LP p c P N H L) (g : Gx p c H H') : LP p c P N H' L := by
  obtain ⟨vs, es, h1, h2, h3, h4⟩ := h
  exact ⟨vs, es, h1.gx g, h2.to g.1, h3, h4⟩
theorem mg_list {Q : VK} (dk : Dk p c H) (m : MGA p c P n ta σ H) (hn : n ≤ 16000000) (q : ∀ l H', Gx p c H H' → LP p c P n H' l → Q (.ref l) H') : tLst ta σ H Q := m H (Gx.refl dk) _ fun vs ds H1 s1 ha hA hl =>
  ⟨sz (by rw [ha.len]; omega), fun l hf => q l _ (s1.trans (Gx.new s1.2 hf)) ⟨vs, ds, .new s1.2 hf, ha.to (Kp.same (same_new hf)), hA, ha.len.trans hl⟩⟩
theorem mem_flat2 {l : List PyData} (h : ∀ e ∈ l, P e) : ∀ n, ∀ e ∈ (List.replicate n l).flatten, P e := by
  intro n e he
  obtain ⟨x, hx, he⟩ := List.mem_flatten.mp he
  rw [List.eq_of_mem_replicate hx] at he
  exact h e he
theorem DgA.rep {vs : List V} {es : List PyData} (h : DgA p c H vs es) : ∀ n, DgA p c H (List.replicate n vs).flatten (List.replicate n es).flatten
  | 0 => .nil
  | n + 1 => by
    rw [List.replicate_succ, List.replicate_succ, List.flatten_cons, List.flatten_cons]
    exact h.app (DgA.rep h n)
theorem mg_cat {Q : VK} {N : Nat} {L : Addr} (e : σ[i]? = some (some (.ref L))) (hL : LP p c P N H L) (dk : Dk p c H) (m : MGA p c P n ta σ H) (hn : N + n ≤ 1000000) (q : ∀ l H', Gx p c H H' → LP p c P (N + n) H' l → Q (.ref l) H') : tOp rCat (tVar i) (tLst ta) σ H Q := by
  refine ⟨_, e, mg_list dk m (by omega) fun l H1 g1 h1 => ?_⟩
  obtain ⟨vs, es, a1, a2, a3, a4⟩ := hL.to g1
  obtain ⟨ws, fs, b1, b2, b3, b4⟩ := h1
  refine ⟨L, l, vs, ws, rfl, rfl, a1.2.2, b1.2.2, sz (by omega), fun r hr => q r _ (g1.trans (Gx.new g1.2 hr)) ⟨_, es ++ fs, .new g1.2 hr, (a2.to (Kp.same (same_new hr))).app (b2.to (Kp.same (same_new hr))), fun x hx => (List.mem_append.mp hx).elim (a3 x) (b3 x), by rw [List.length_append]; omega⟩⟩
theorem mg_cat2 {Q : VK} {N k : Nat} {L : Addr} (e : σ[i]? = some (some (.ref L))) (hL : LP p c P N H L) (dk : Dk p c H) (m : MGA p c P n ta σ H) (hk : k ≤ 100) (hn : N + n ≤ 10000) (q : ∀ l H', Gx p c H H' → LP p c P (N + k * n) H' l → Q (.ref l) H') : tOp rCat (tVar i) (tOp rRep (tLst ta) (tC (.int (k : Int)))) σ H Q := by
  refine ⟨_, e, mg_list dk m (by omega) fun l H1 g1 h1 => ?_⟩
  obtain ⟨ws, fs, b1, b2, b3, b4⟩ := h1
  have hz : k * n ≤ 1000000 := Nat.le_trans (Nat.mul_le_mul hk (show n ≤ 10000 by omega)) (by decide)
  refine ⟨l, _, ws, rfl, rfl, b1.2.2, by omega, by omega, sz (by rw [Int.toNat_natCast, b4, Nat.mul_comm]; omega), fun r hr => ?_⟩
  have g2 := g1.trans (Gx.new (o := .lst (List.replicate ((k : Int)).toNat ws).flatten) g1.2 hr)
  obtain ⟨vs, es, a1, a2, a3, a4⟩ := hL.to g2
  have c1 : At p c (upd H1 r (.lst (List.replicate ((k : Int)).toNat ws).flatten)) r _ := .new g1.2 hr
  have c2 := (b2.rep ((k : Int)).toNat).to (Kp.same (same_new (o := .lst (List.replicate ((k : Int)).toNat ws).flatten) hr))
  have c4 : (List.replicate ((k : Int)).toNat ws).flatten.length = k * n := by rw [List.length_flatten, List.map_replicate, List.sum_replicate_nat, Int.toNat_natCast, b4]
  refine ⟨L, r, vs, _, rfl, rfl, a1.2.2, c1.2.2, sz (by omega), fun u hu => q u _ (g2.trans (Gx.new g2.2 hu)) ⟨_, es ++ _, .new g2.2 hu, (a2.to (Kp.same (same_new hu))).app (c2.to (Kp.same (same_new hu))), fun x hx => (List.mem_append.mp hx).elim (a3 x) (mem_flat2 b3 _ x), by rw [List.length_append]; omega⟩⟩
end
section
variable {p c : Addr} {P : PyData → Prop} {σ : L2.St} {H : Hp} {ta : TA} {n i j N k : Nat} {L : Addr} {u : TS} {D : Ends}
theorem seq_list (dk : Dk p c H) (m : MGA p c P n ta σ H) (hn : n ≤ 16000000) (q : ∀ l H', Gx p c H H' → LP p c P n H' l → u D (σ.set j (some (.ref l))) H') : tSeq (tAsg (tLst ta) (gName j)) u D σ H := mg_list (Q := fun x H1 => u D (σ.set j (some x)) H1) dk m hn q
theorem seq_cat (e : σ[i]? = some (some (.ref L))) (hL : LP p c P N H L) (dk : Dk p c H) (m : MGA p c P n ta σ H) (hn : N + n ≤ 1000000) (q : ∀ l H', Gx p c H H' → LP p c P (N + n) H' l → u D (σ.set j (some (.ref l))) H') : tSeq (tAsg (tOp rCat (tVar i) (tLst ta)) (gName j)) u D σ H := mg_cat (Q := fun x H1 => u D (σ.set j (some x)) H1) e hL dk m hn q
theorem seq_cat2 (e : σ[i]? = some (some (.ref L))) (hL : LP p c P N H L) (dk : Dk p c H) (m : MGA p c P n ta σ H) (hk : k ≤ 100) (hn : N + n ≤ 10000) (q : ∀ l H', Gx p c H H' → LP p c P (N + k * n) H' l → u D (σ.set j (some (.ref l))) H') : tSeq (tAsg (tOp rCat (tVar i) (tOp rRep (tLst ta) (tC (.int (k : Int))))) (gName j)) u D σ H := mg_cat2 (Q := fun x H1 => u D (σ.set j (some x)) H1) e hL dk m hk hn q
theorem one_cat (e : σ[i]? = some (some (.ref L))) (hL : LP p c P N H L) (dk : Dk p c H) (m : MGA p c P n ta σ H) (hn : N + n ≤ 1000000) (q : ∀ l H', Gx p c H H' → LP p c P (N + n) H' l → D.nx (σ.set j (some (.ref l))) H') : tAsg (tOp rCat (tVar i) (tLst ta)) (gName j) D σ H := mg_cat (Q := fun x H1 => D.nx (σ.set j (some x)) H1) e hL dk m hn q
theorem one_cat2 (e : σ[i]? = some (some (.ref L))) (hL : LP p c P N H L) (dk : Dk p c H) (m : MGA p c P n ta σ H) (hk : k ≤ 100) (hn : N + n ≤ 10000) (q : ∀ l H', Gx p c H H' → LP p c P (N + k * n) H' l → D.nx (σ.set j (some (.ref l))) H') : tAsg (tOp rCat (tVar i) (tOp rRep (tLst ta) (tC (.int (k : Int))))) (gName j) D σ H := mg_cat2 (Q := fun x H1 => D.nx (σ.set j (some x)) H1) e hL dk m hk hn q
end
/-! ### small data -/
def SmG (q : Bool) (n b : Nat) (d : PyData) : Prop := Gd q d n b ∧ ∀ i : Int, d = .int i → i ≤ 10 ^ 39
def NtG (q : Bool) (n b m : Nat) (es : List PyData) : Prop := GdA q es n b ∧ es.length ≤ m ∧ ∀ i : Int, PyData.int i ∈ es → i ≤ 10 ^ 39
section
variable {q : Bool} {n b m n2 b2 m2 k : Nat} {es fs ds : List PyData} {d : PyData}
theorem gd_all : ∀ {ds : List PyData}, (∀ d ∈ ds, Gd q d n b) → GdA q ds n (ds.length * (b + 1))
  | [], _ => .nil
  | d :: ds, h => .cons (h d List.mem_cons_self) (gd_all fun x hx => h x (List.mem_cons_of_mem _ hx)) (by rw [List.length_cons, Nat.succ_mul]; omega)
theorem NtG.of (hl : ds.length = k) (h : ∀ d ∈ ds, SmG q n b d) : NtG q n (k * (b + 1)) k ds := ⟨by rw [← hl]; exact gd_all fun d hd => (h d hd).1, Nat.le_of_eq hl, fun i hi => (h _ hi).2 i rfl⟩
theorem NtG.take (h : NtG q n b m es) (k : Nat) : NtG q n b m (es.take k) := ⟨h.1.take k, by rw [List.length_take]; exact Nat.le_trans (Nat.min_le_right _ _) h.2.1, fun i hi => h.2.2 i (List.mem_of_mem_take hi)⟩
theorem NtG.drop (h : NtG q n b m es) (k : Nat) : NtG q n b m (es.drop k) := ⟨h.1.drop k, by rw [List.length_drop]; exact Nat.le_trans (Nat.sub_le _ _) h.2.1, fun i hi => h.2.2 i (List.mem_of_mem_drop hi)⟩
theorem NtG.rev (h : NtG q n b m es) : NtG q n b m es.reverse := ⟨h.1.rev, by rw [List.length_reverse]; exact h.2.1, fun i hi => h.2.2 i (List.mem_reverse.mp hi)⟩
theorem NtG.app (h : NtG q n b m es) (h2 : NtG q n b2 m2 fs) : NtG q n (b + b2) (m + m2) (es ++ fs) := ⟨h.1.app h2.1 (Nat.le_refl _), by rw [List.length_append]; exact Nat.add_le_add h.2.1 h2.2.1, fun i hi => (List.mem_append.mp hi).elim (h.2.2 i) (h2.2.2 i)⟩
theorem NtG.sm (h : NtG q n b m es) (hm : m ≤ 60) : SmG q (n + 1) b (.tuple es) := ⟨.tup h.1 (Nat.le_trans h.2.1 hm), fun i z => nomatch z⟩
theorem NtG.mono (h : NtG q n b m es) (hn : n ≤ n2) (hb : b ≤ b2) (hm : m ≤ m2) : NtG q n2 b2 m2 es := ⟨h.1.mono hn hb, Nat.le_trans h.2.1 hm, h.2.2⟩
theorem SmG.mono (h : SmG q n b d) (hn : n ≤ n2) (hb : b ≤ b2) : SmG q n2 b2 d := ⟨h.1.mono hn hb, h.2⟩
theorem NtG.ok (h : NtG q n b m es) (hn : n ≤ 7) (hb : b ≤ 6000) (hm : m ≤ 60) : OkD (.tuple es) := ⟨⟨q, Gd.mono (Gd.tup h.1 (Nat.le_trans h.2.1 hm)) (by omega) hb⟩, fun i hi => h.2.2 i hi⟩
theorem SmG.okl (hl : ds.length = k) (h : ∀ d ∈ ds, SmG false n b d) (hn : n ≤ 7) (hb : k * (b + 1) ≤ 6000) : OkD (.list ds) := ⟨⟨false, Gd.mono (Gd.lst (NtG.of hl h).1) (by omega) hb⟩, trivial⟩
end
section
variable {p c : Addr} {q : Bool} {n b m n2 b2 m2 k : Nat} {t t1 t2 : TE} {ta : TA} {σ : L2.St} {H : Hp} {K : PySem.W.Frag} {i : Nat} {d : PyData} {v : V}
theorem nt_tup (h : MGA p c (SmG q n b) k ta σ H) (hk : k ≤ 60) : MGT p c (NtG q n (k * (b + 1)) k) (tTup ta) σ H := MGT.tup h (by omega) fun ds hl hd => NtG.of hl hd
theorem nt_off (k : Nat) (h : MGT p c (NtG q n b m) t σ H) : MGT p c (NtG q n b m) (tSl (rSlA K) t (tPart (tC (.int (k : Int)))) tNoPart) σ H := h.off k fun _ z => z.drop k
theorem nt_up (k : Nat) (h : MGT p c (NtG q n b m) t σ H) : MGT p c (NtG q n b m) (tSl (rSlA K) t tNoPart (tPart (tC (.int (k : Int))))) σ H := h.up k fun _ z => z.take k
theorem nt_but (h : MGT p c (NtG q n b m) t σ H) : MGT p c (NtG q n b m) (tSl (rSlA K) t tNoPart (tPart (tUn (rU fun i => .int (-i)) (tC (.int 1))))) σ H := h.but fun _ k z => z.take k
theorem nt_rev (h : MGT p c (NtG q n b m) t σ H) : MGT p c (NtG q n b m) (tRevT K t) σ H := h.rev fun _ z => z.rev
theorem nt_cat (h : MGT p c (NtG q n b m) t1 σ H) (h2 : MGT p c (NtG q n b2 m2) t2 σ H) (hm : m + m2 ≤ 60) : MGT p c (NtG q n (b + b2) (m + m2)) (tOp (rCatA K) t1 t2) σ H := h.cat h2 fun _ _ x y => ⟨by have := x.2.1; have := y.2.1; omega, x.app y⟩
theorem nt_sm (h : MGT p c (NtG q n b m) t σ H) (hm : m ≤ 60) : MG p c (SmG q (n + 1) b) t σ H := h.mk fun _ z => z.sm hm
theorem nt_ok (h : MGT p c (NtG q n b m) t σ H) (hn : n ≤ 7) (hb : b ≤ 6000) (hm : m ≤ 60) : MG p c OkD t σ H := h.mk fun _ z => z.ok hn hb hm
theorem lst_sm (h : MGA p c (SmG false n b) k ta σ H) (hk : k ≤ 60) : MG p c (SmG false (n + 1) (k * (b + 1))) (tLst ta) σ H := MG.lst h (by omega) fun _ hl hd => ⟨Gd.lst (NtG.of hl hd).1, fun i z => nomatch z⟩
theorem lst_ok (h : MGA p c (SmG false n b) k ta σ H) (hk : k ≤ 60) (hn : n ≤ 7) (hb : k * (b + 1) ≤ 6000) : MG p c OkD (tLst ta) σ H := MG.lst h (by omega) fun _ hl hd => SmG.okl hl hd hn hb
theorem dic_sm : MG p c (SmG true (n + 1) b) tDNewK σ H := MG.dic ⟨⟨by simp [okV, okVK], by simp [PyData.depth, PyData.depthKv], by simp [PyData.bulk, PyData.bulkKv]⟩, fun i z => nomatch z⟩
theorem dic_ok : MG p c OkD tDNewK σ H := MG.dic ⟨⟨true, by simp [okV, okVK], by simp [PyData.depth, PyData.depthKv], by simp [PyData.bulk, PyData.bulkKv]⟩, trivial⟩
theorem int_sm {i : Int} (h0 : -1 ≤ i) (h1 : i ≤ 10 ^ 39) : SmG q n b (.int i) := ⟨.int (by simp only [intOk, Bool.and_eq_true, decide_eq_true_eq]; omega), fun j z => by cases z; exact h1⟩
theorem int_okd {i : Int} (h0 : -1 ≤ i) (h1 : i ≤ 10 ^ 39) : OkD (.int i) := ⟨⟨false, .int (by simp only [intOk, Bool.and_eq_true, decide_eq_true_eq]; omega)⟩, h1⟩
theorem non_sm : SmG q n b .none := ⟨.non, fun i z => nomatch z⟩
theorem bl_sm {x : Bool} : SmG q n b (.bool x) := ⟨.bl, fun i z => nomatch z⟩
theorem str_sm {x : Str} (h : strOkB x = true) (hb : x.cps.size ≤ b) : SmG q n b (.str x) := ⟨.str h hb, fun i z => nomatch z⟩
theorem str_okd {x : Str} (h : strOkB x = true) (hb : x.cps.size ≤ 6000) : OkD (.str x) := ⟨⟨false, .str h hb⟩, trivial⟩
theorem non_okd : OkD .none := ⟨⟨false, .non⟩, trivial⟩
theorem bl_okd {x : Bool} : OkD (.bool x) := ⟨⟨false, .bl⟩, trivial⟩
end
end Ag

end
/-! ## GT -/
section
set_option linter.all false
set_option maxRecDepth 100000
set_option maxHeartbeats 1000000
namespace Ag
open PySem PySem.Spec PyProof.Rows L2
abbrev qLam : Str := (Str.ofString "law" ++ Str.ofString ".<locals>.") ++ Str.ofString "<lambda>"
/-- all but the deck and the table stays -/
def Gt (p c Pt : Addr) (H H' : Hp) : Prop := Kt p c H H' ∧ Dk p c H' ∧ LamX.Tabs [(Pt, qLam)] H'
section
variable {p c Pt : Addr} {H H1 H2 G G' : Hp}
theorem Gt.refl (d : Dk p c H) (t : LamX.Tabs [(Pt, qLam)] H) : Gt p c Pt H H := ⟨Kt.refl, d, t⟩
theorem Gt.trans (a : Gt p c Pt H H1) (b : Gt p c Pt H1 H2) : Gt p c Pt H H2 := ⟨a.1.trans b.1, b.2⟩
theorem Gt.same (a : Gt p c Pt H H1) (s : Same H1 H2) : Gt p c Pt H H2 := ⟨a.1.trans (.of (Kp.same s)), a.2.1.same s, a.2.2.ext s⟩
theorem Gt.ext (a : Gt p c Pt H H1) (e : LamX.ExtN H1 H2) (t : LamX.Tabs [(Pt, qLam)] H2) : Gt p c Pt H H2 := by
  refine ⟨a.1.trans (.ext e), ?_, t⟩
  obtain ⟨m, n, cs, h1, h2, h3⟩ := a.2.1
  exact ⟨m, n, cs, e _ _ h1 (fun _ z => by cases z), e _ _ h2 (fun _ z => by cases z), h3⟩
theorem tabs_gx (d : Dk p c H) (t : LamX.Tabs [(Pt, qLam)] H) (g : Gx p c H H1) : LamX.Tabs [(Pt, qLam)] H1 := by
  obtain ⟨m, n, cs, e1, e2, _⟩ := d
  intro y hy
  obtain ⟨ps, h1, h2, h3⟩ := t y hy
  refine ⟨ps, g.1 _ _ (fun z => ?_) (fun z => ?_) h1, h2, fun pos cv hc => ?_⟩
  · rw [z, e1] at h1; cases h1
  · rw [z, e2] at h1; cases h1
  · obtain ⟨cc, ec, hcc⟩ := h3 pos cv hc
    refine ⟨cc, ec, g.1 _ _ (fun z => ?_) (fun z => ?_) hcc⟩
    · rw [z, e1] at hcc; cases hcc
    · rw [z, e2] at hcc; cases hcc
theorem Gt.gx (a : Gt p c Pt H H1) (g : Gx p c H1 H2) : Gt p c Pt H H2 := ⟨a.1.trans (.of g.1), g.2, tabs_gx a.2.1 a.2.2 g⟩
end
end Ag

end
/-! ## S13a -/
section
set_option linter.all false
set_option maxRecDepth 100000
set_option maxHeartbeats 1000000
namespace Ag
open PySem PySem.Spec PyProof.Rows L2
theorem DueD.uniq {p c : Addr} {H : Hp} {xs : List V} {n : Nat} {ds : List PyData} {D D' : PyData} (hA : DgA p c H xs ds) (hs : ShF n ds) (h : DueD n ds D) (h' : DueD n ds D') : D = D' := by
  by_cases n4 : n = 4
  · subst n4
    match ds, hs with
    | [d], _ => exact (show D = _ from h).trans (show D' = _ from h').symm
  by_cases n6 : n = 6
  · subst n6
    match ds, hs with
    | [d, e], _ => exact ScoreD.uniq h h'
  obtain ⟨d, r, rfl, _, _, _, e⟩ := shf_rest hs n4 n6
  rcases (e D).mp h with ⟨a1, rfl⟩ | ⟨ps, e1, b1, hr⟩
  · rcases (e D').mp h' with ⟨a2, rfl⟩ | ⟨ps2, e2, b2, hr2⟩
    · rfl
    · rw [a1] at b2; cases b2
  · rcases (e D').mp h' with ⟨a2, rfl⟩ | ⟨ps2, e2, b2, hr2⟩
    · rw [a2] at b1; cases b1
    · have := poolD_inj (e1.symm.trans e2)
      subst this
      cases hA with
      | cons hd _ =>
        obtain ⟨a, ts, ps', _, po, e3⟩ := pool_of hd b1
        have := poolD_inj (e1.symm.trans e3)
        subst this
        exact hr.uniq po.ok hr2
theorem DueD.sh {p c : Addr} {H : Hp} {xs : List V} {n : Nat} {ds : List PyData} {D : PyData} (hA : DgA p c H xs ds) (hs : ShF n ds) (ok : ∀ d ∈ ds, OkD d) (h : DueD n ds D) : ShD D := by
  by_cases n4 : n = 4
  · subst n4
    match ds, hs with
    | [d], _ =>
      rw [show D = _ from h]
      exact ret_sh (q := false) (n := 0) (b := 0) .bl (by decide) (by decide)
  by_cases n6 : n = 6
  · subst n6
    match ds, hs with
    | [d, e], _ => exact score_sh h (ok _ List.mem_cons_self) (ok _ (List.mem_cons_of_mem _ List.mem_cons_self))
  obtain ⟨d, r, rfl, _, _, _, e⟩ := shf_rest hs n4 n6
  rcases (e D).mp h with ⟨a1, rfl⟩ | ⟨ps, e1, b1, hr⟩
  · exact bad3_sh (ok _ List.mem_cons_self) (by decide +kernel) (by decide +kernel)
  · cases hA with
    | cons hd _ =>
      obtain ⟨a, ts, ps', _, po, e3⟩ := pool_of hd b1
      have := poolD_inj (e1.symm.trans e3)
      subst this
      exact hr.sh po.ok fun x hx => ok x (List.mem_cons_of_mem _ hx)
section
variable {p c Pt : Addr} {H H1 H2 G G' : Hp} {cl : Nat → Addr} {E : XK} {Q : VK} {R : VK} {σ : L2.St}
theorem lam_called {i j n : Nat} {r : Addr} {xs : List V} {ds : List PyData} (g : Gt p c Pt H H1) (e1 : σ[i]? = some (some (.str (wayS n)))) (e2 : σ[j]? = some (some (.ref r))) (ar : At p c H1 r (.tup xs)) (hA : DgA p c H1 xs ds) (ok : ∀ d ∈ ds, OkD d) (hs : ShF n ds) (q : ∀ v D G, Gt p c Pt H G → Dg p c G v D → DueD n ds D → Q v G) :
    LamX.tLam [(Pt, qLam)] (TTried cl) (fun E => tCall (spCalled cl) [] E (tCons (tVar i) (tCons (tVar j) tNil))) σ H1 Q := by
  refine ⟨g.2.2, fun G1 x1 T1 G2 E R s2 hE hR => ?_⟩
  have g2 := (g.ext x1 T1).same s2
  have k2 := (Kt.ext x1).trans (Kt.of (Kp.same s2) : Kt p c G1 G2)
  refine ⟨_, e1, _, e2, p, c, r, xs, ds, n, rfl, At.kt k2 ar (fun _ z => by cases z), DgA.ktr k2 ds xs hA, ok, hs, fun k v d k5 hd hdue => ?_, fun v d H3 s3 hv hdue => ?_⟩
  · intro dx H3 s3 _ hx
    refine hE _ _ _ s3 ⟨k, dx, v, k5, rfl, rfl, hx, fun t G' sG nT hT => ?_⟩
    have g3 := g2.same s3
    have nt := g3.2.1.ne nT
    refine q _ _ G' (g3.same sG) ?_ hdue
    unfold bad3
    exact .tup ⟨nt.1, nt.2, hT⟩ (.cons (.str _) (.cons (.str _) (.cons (hd.to (Kp.same (s3.trans sG))) .nil)))
  · refine hR _ _ s3 fun t G' sG nT hT => ?_
    have g3 := g2.same s3
    have nt := g3.2.1.ne nT
    refine q _ _ G' (g3.same sG) ?_ hdue
    have hv' : Dg p c G' v d := by
      rcases hv with ⟨i, rfl, rfl⟩ | ⟨b, rfl, rfl⟩ | ⟨t', cs, rfl, ht', rfl⟩
      · exact .int _
      · exact .bl _
      · obtain ⟨m, k, cs', hp3, hc3, _⟩ := g3.2.1
        refine ct_dg ⟨fun e => ?_, fun e => ?_, sG _ _ ht'⟩
        · rw [e, hp3] at ht'; cases ht'
        · rw [e, hc3] at ht'; cases ht'
    exact .tup ⟨nt.1, nt.2, hT⟩ (.cons (.str _) (.cons hv' .nil))
end
end Ag

end
/-! ## ShA -/
section
set_option linter.all false
set_option maxRecDepth 100000
namespace Ag
open PySem PySem.Spec PyProof.Rows L2 Builtin Builtin.Str
/-! ### str of any data -/
theorem call_str_any {X : Cx} (hu : X.A.units + 70 < cLine) (hG : X.A.guards = some []) : CallR X (.type "str") (fun xs H Q => ∃ x d p c, xs = [x] ∧ Dg p c H x d ∧ d.showable = true ∧ (d.hasDict = true → noL d = true) ∧ d.depth ≤ 64 ∧ d.shown.length ≤ sizeLine ∧ Q (.str (match d with | .str z => z | d => d.shown)) H) := by
  rintro pins s σ H vs us Q I r ⟨x, d, p, c, rfl, hd, h1, hk, h3, h4, q⟩
  obtain ⟨u, rfl, ru⟩ := vals1 r
  cases x with
  | ref a =>
    obtain ⟨as, rd, na⟩ := Dg.reads I d (.ref a) u hd ru
    obtain rfl : u = Value.ref a := ru
    refine str_of_reads rd h1 (fun z => na (hk z)) hG (by omega) (fun _ _ e => e) (fun h' u tk kp => ⟨.str d.shown, H, I.kept kp, ⟨_, rfl⟩, ?_⟩) h4
    cases hd <;> exact q
  | non =>
    cases hd
    obtain rfl : u = Value.none := ru
    exact PySem.P.str_of_none ⟨.str _, H, I.tok _, ⟨_, rfl⟩, by have q : Q (.str (PyData.none).shown) H := q; rw [PyData.shown_none] at q; exact q⟩
  | bl b =>
    cases hd
    obtain rfl : u = Value.bool b := ru
    exact PySem.P.str_of_bool ⟨.str _, H, I.tok _, ⟨_, rfl⟩, by have q : Q (.str (PyData.bool b).shown) H := q; rw [PyData.shown_bool] at q; exact q⟩
  | int i =>
    cases hd
    obtain ⟨t, rfl⟩ := ru
    exact PySem.P.str_of_int (by simpa [PyData.showable] using h1) ⟨.str _, H, I.tok _, ⟨_, rfl⟩, by have q : Q (.str (PyData.int i).shown) H := q; rw [PyData.shown_int] at q; exact q⟩
  | str z =>
    cases hd
    obtain ⟨t, rfl⟩ := ru
    exact PySem.P.str_of_str ⟨.str z, H, I, ⟨_, rfl⟩, q⟩
  | byt b => cases hd
  | flt b => cases hd
  | ty n => cases hd
/-! ### what is shown is ascii -/
def Asc (x : Str) : Prop := ∀ c ∈ x.cps.toList, c < 128
theorem fold_mem_repr {q : Nat} : ∀ (l : List Nat) (acc : Array Nat) (c : Nat), c ∈ (l.foldl (fun out c => out ++ (reprChar q c).toArray) acc).toList → c ∈ acc.toList ∨ ∃ b ∈ l, c ∈ reprChar q b
  | [], _, _, h => .inl h
  | b :: l, acc, c, h => by
    rcases fold_mem_repr l _ c h with h | ⟨d, hd, h⟩
    · rw [Array.toList_append, List.mem_append] at h
      exact h.imp id fun h => ⟨b, List.mem_cons_self, by simpa using h⟩
    · exact .inr ⟨d, List.mem_cons_of_mem _ hd, h⟩
theorem quote_or (x : Str) : reprQuote x = 39 ∨ reprQuote x = 34 := by
  unfold reprQuote
  split <;> simp
theorem repr_asc {x : Str} (h : ∀ c ∈ x.cps.toList, 97 ≤ c ∧ c ≤ 122) : Asc (reprText x) := by
  intro c hc
  unfold reprText at hc
  have hc : c ∈ ((x.cps.foldl (fun out c => out ++ (reprChar (reprQuote x) c).toArray) #[reprQuote x]).push (reprQuote x)).toList := hc
  rw [Array.toList_push, List.mem_append, ← Array.foldl_toList] at hc
  have hq : reprQuote x < 128 := by
    rcases quote_or x with e | e <;> rw [e] <;> decide
  rcases hc with hc | hc
  · rcases fold_mem_repr _ _ c hc with hc | ⟨b, hb, hc⟩
    · have : c = reprQuote x := by simpa using hc
      omega
    · obtain ⟨h1, h2⟩ := h b hb
      have key : ∀ q ∈ [39, 34], ∀ b < 123, 97 ≤ b → ∀ c ∈ reprChar q b, c < 128 := by decide +kernel
      rcases quote_or x with e | e
      · rw [e] at hc
        exact key 39 (by simp) b (by omega) h1 c hc
      · rw [e] at hc
        exact key 34 (by simp) b (by omega) h1 c hc
  · have : c = reprQuote x := by simpa using hc
    omega
theorem tuple_asc {xs : List PyData} (h : ∀ d ∈ xs, Asc d.shown) : Asc (PyData.tuple xs).shown := by
  intro c hc
  rw [PyData.shown_tuple, mem_cps_append, mem_cps_append, signs_lparen, mem_join, signs_tuple_end, signs_sep] at hc
  rcases hc with (hc | (⟨t, ht, hc⟩ | ⟨_, hc⟩)) | hc
  · have : c = 40 := by simpa using hc
    omega
  · rw [shownAll_eq_map] at ht
    obtain ⟨d, hd, rfl⟩ := List.mem_map.mp ht
    exact h d hd c hc
  · have : c = 44 ∨ c = 32 := by simpa using hc
    omega
  · split at hc
    · have : c = 44 ∨ c = 41 := by simpa using hc
      omega
    · have : c = 41 := by simpa using hc
      omega
theorem int_asc (i : Int) : Asc (PyData.int i).shown := by
  intro c hc
  by_cases h : c < 128
  · exact h
  · exact absurd hc (shown_int_free' ⟨by omega, .inr (by omega)⟩ i)
end Ag

end
/-! ## S11a -/
section
set_option linter.all false
set_option maxRecDepth 100000
namespace Ag
open PySem PySem.Spec PyProof.Rows L2
open SX (S S_len S_cat S_inj)
/-! ### what the law has before it changes it: pools, lots and counts, numbers, words -/
inductive Near : PyData → Prop
  | pool (ps : List (List Nat × Nat)) : 1 ≤ ps.length → ps.length ≤ 5 → (∀ e ∈ ps, wordL e.1 = true ∧ e.2 ≤ 1000) → Near (poolD ps)
  | nums (cs : List Nat) : cs.length ≤ 8 → (∀ k ∈ cs, k ≤ 1000000) → Near (.tuple (ctD cs))
  | int (k : Nat) : k ≤ 1000000 → Near (.int (k : Int))
  | word (l : List Nat) : wordL l = true → Near (.str (S l))
theorem wordL_len {l : List Nat} (h : wordL l = true) : 1 ≤ l.length ∧ l.length ≤ 10 := by
  simp only [wordL, Bool.and_eq_true, decide_eq_true_eq] at h
  omega
theorem wordL_low {l : List Nat} (h : wordL l = true) : ∀ c ∈ l, 97 ≤ c ∧ c ≤ 122 := by
  simp only [wordL, Bool.and_eq_true, decide_eq_true_eq, List.all_eq_true] at h
  intro c hc
  have := h.2 c hc
  simpa only [azC, Bool.and_eq_true, decide_eq_true_eq] using this
theorem wordL_ok {l : List Nat} (h : wordL l = true) : strOkB (S l) = true := by
  have := wordL_len h
  have h2 := wordL_low h
  unfold strOkB
  rw [Bool.and_eq_true, List.all_eq_true, decide_eq_true_eq]
  refine ⟨fun c hc => decide_eq_true ?_, ?_⟩
  · have := h2 c hc
    omega
  · show l.length ≤ 9000
    omega
theorem ctD_mem {cs : List Nat} {d : PyData} (h : d ∈ ctD cs) : ∃ k ∈ cs, d = .int ((k : Nat) : Int) := by
  unfold ctD at h
  obtain ⟨k, hk, rfl⟩ := List.mem_map.mp h
  exact ⟨k, hk, rfl⟩
theorem ctD_length (cs : List Nat) : (ctD cs).length = cs.length := by
  unfold ctD
  rw [List.length_map]
/-- the items of a pool or of a row of numbers -/
theorem near_ints {cs : List Nat} (h1 : cs.length ≤ 8) (h2 : ∀ k ∈ cs, k ≤ 1000000) (q : Bool) : NtG q 1 80 8 (ctD cs) := by
  have := NtG.of (q := q) (n := 0) (b := 0) (k := cs.length) (ds := ctD cs) (ctD_length cs) fun d hd => by
    obtain ⟨k, hk, rfl⟩ := ctD_mem hd
    have := h2 k hk
    exact int_sm (by omega) (by omega)
  exact this.mono (by decide) (by omega) h1
def pairD (e : List Nat × Nat) : PyData := .tuple [.str (S e.1), .int ((e.2 : Nat) : Int)]
theorem pairD_sm {e : List Nat × Nat} (h : wordL e.1 = true ∧ e.2 ≤ 1000) (q : Bool) : SmG q 1 12 (pairD e) := by
  have hl := wordL_len h.1
  refine ⟨.tup (n := 0) (.cons (b1 := 10) (b2 := 1) (.str (wordL_ok h.1) (by show e.1.length ≤ 10; omega)) (.cons (b1 := 0) (b2 := 0) (.int ?_) .nil (by decide)) (by decide)) (Nat.le_of_ble_eq_true rfl), fun i z => nomatch z⟩
  simp only [intOk, Bool.and_eq_true, decide_eq_true_eq]
  omega
theorem near_pool {ps : List (List Nat × Nat)} (h1 : ps.length ≤ 5) (h2 : ∀ e ∈ ps, wordL e.1 = true ∧ e.2 ≤ 1000) (q : Bool) : NtG q 1 80 8 (ps.map pairD) := by
  have := NtG.of (q := q) (n := 1) (b := 12) (k := ps.length) (ds := ps.map pairD) (List.length_map _) fun d hd => by
    obtain ⟨e, he, rfl⟩ := List.mem_map.mp hd
    exact pairD_sm (h2 e he) q
  exact this.mono (by decide) (by omega) (by omega)
theorem Near.sm {d : PyData} (h : Near d) (q : Bool) : SmG q 2 80 d := by
  cases h with
  | pool ps h0 h1 h2 => exact (near_pool h1 h2 q).sm (by decide)
  | nums cs h1 h2 => exact (near_ints h1 h2 q).sm (by decide)
  | int k h => exact int_sm (by omega) (by omega)
  | word l h => exact str_sm (wordL_ok h) (by have := wordL_len h; show l.length ≤ 80; omega)
theorem Near.ok {d : PyData} (h : Near d) : OkD d := by
  refine ⟨⟨false, (h.sm false).1.mono (by decide) (by decide)⟩, ?_⟩
  cases h with
  | pool ps h0 h1 h2 => exact (near_pool h1 h2 false).2.2
  | nums cs h1 h2 => exact (near_ints h1 h2 false).2.2
  | int k h => show ((k : Nat) : Int) ≤ 10 ^ 39; omega
  | word l h => trivial
theorem asc_okB {x : Str} (h : Asc x) (hl : x.cps.size ≤ 9000) : strOkB x = true := by
  unfold strOkB
  rw [Bool.and_eq_true, List.all_eq_true, decide_eq_true_eq]
  exact ⟨fun c hc => decide_eq_true (h c hc), hl⟩
theorem str_shown (x : Str) : (PyData.str x).shown = reprText x := by simp [PyData.shown]
theorem Near.asc {d : PyData} (h : Near d) : Asc d.shown := by
  cases h with
  | pool ps h0 h1 h2 =>
    refine tuple_asc fun d hd => ?_
    obtain ⟨e, he, rfl⟩ := List.mem_map.mp hd
    refine tuple_asc fun d hd => ?_
    rcases List.mem_cons.mp hd with rfl | hd
    · rw [str_shown]
      exact repr_asc (wordL_low (h2 e he).1)
    · rw [List.mem_singleton.mp hd]
      exact int_asc _
  | nums cs h1 h2 =>
    refine tuple_asc fun d hd => ?_
    obtain ⟨k, _, rfl⟩ := ctD_mem hd
    exact int_asc _
  | int k h => exact int_asc _
  | word l h =>
    rw [str_shown]
    exact repr_asc (wordL_low h)
/-- its text is good data -/
theorem Near.txt {d : PyData} (h : Near d) : OkD (.str (match (generalizing := false) d with | .str z => z | d => d.shown)) := by
  have hs : d.shown.cps.size ≤ 5020 := by
    have h1 := (okV_show d (h.sm false).1.ok).2.1
    have h2 := PyData.shown_le_bulk 60 (by decide) d h1
    have h3 := (h.sm false).1.bk
    have h4 : (60 + 2) * d.bulk ≤ (60 + 2) * 80 := Nat.mul_le_mul_left _ h3
    have : d.shown.length = d.shown.cps.size := rfl
    omega
  have key : OkD (.str d.shown) := str_okd (asc_okB h.asc (by omega)) (by omega)
  cases h with
  | word l h => exact str_okd (wordL_ok h) (by have := wordL_len h; show l.length ≤ 6000; omega)
  | _ => exact key
end Ag

end
/-! ## S11 -/
section
set_option linter.all false
set_option maxRecDepth 100000
set_option maxHeartbeats 4000000
namespace Ag
open PySem PySem.Spec PyProof.Rows L2
open SX (S S_len S_cat S_inj)
theorem u64 {k : Nat} {A : Around} (hr : Room k A) : A.units + 64 < cLine := by have := hr.un; omega
theorem u70 {k : Nat} {A : Around} (hr : Room k A) : A.units + 70 < cLine := by have := hr.un; omega
theorem DgA.ex {p c : Addr} {H : Hp} {P : PyData → Prop} : ∀ {xs : List V}, (∀ y ∈ xs, ∃ d, Dg p c H y d ∧ P d) → ∃ es, DgA p c H xs es ∧ ∀ e ∈ es, P e
  | [], _ => ⟨[], .nil, fun e h => by cases h⟩
  | x :: xs, h => by
    obtain ⟨d, hd, hP⟩ := h x List.mem_cons_self
    obtain ⟨es, he, hPs⟩ := DgA.ex (xs := xs) fun y hy => h y (List.mem_cons_of_mem _ hy)
    exact ⟨d :: es, .cons hd he, fun e h => (List.mem_cons.mp h).elim (fun z => z ▸ hP) (hPs e)⟩
def spLAny : Sp := fun vs H Q _ => ∃ p c v d, vs = [.ref p, v] ∧ Dk p c H ∧ Dg p c H v d ∧ Near d ∧ ∀ v' d' H', Gx p c H H' → Dg p c H' v' d' → OkD d' → Q v' H'
section
variable {p c : Addr} {P : PyData → Prop} {σ : L2.St} {H : Hp}
theorem eqv0 (x : PyData) (xs : List PyData) : PyData.eqv (.tuple (x :: xs)) (.tuple []) = false := by simp [PyData.eqv, PyData.eqvAll]
theorem eqv1 : PyData.eqv (.tuple []) (.tuple []) = true := by simp [PyData.eqv, PyData.eqvAll]
theorem mg_m1 (h : P (.int (-1))) : MG p c P (tUn (rU fun i => .int (-i)) (tC (.int 1))) σ H := fun H1 s1 Q q => ⟨1, rfl, q _ _ _ (Gx.refl s1.2) (.int _) h⟩
end
section
variable {P : Program} {w : World} {K : PySem.W.Frag} {mg : Str → Option Value} {base : Heap}
theorem ok_lany {f f1 : Addr} {fd fd1 : FuncData} (F : Fn K mg "_law_any" s__law_any ["_law_deck_here", "_law_near"] f fd) (B : Blt mg) (F__law_pick : Fn K mg "_law_pick" s__law_pick ["_law_deck_here", "_law_some"] f1 fd1) (G__law_pick : FnOk P w K mg base CX0 2 f1 fd1 ["_law_deck_here", "_law_some"] spPick) :
    FnG P w K mg base 3 f fd ["_law_deck_here", "_law_near"] spLAny := by
  refine okG F.F sc__law_any (fun vs H Q E h => ?_) (fun cdv A outer s H vs Q E hr hG h => ?_)
  · obtain ⟨p, c, v, d, rfl, _⟩ := h
    rfl
  · obtain ⟨p, c, v, d, rfl, dk, hd, hn, q⟩ := h
    refine ⟨_, (pss_cons (ps_set (i := 2) sc__law_any.nd rfl (.inl rfl) (pe_lst (pa_cons pe_non (pa_cons pe_bl (pa_cons pe_bl (pa_cons pe_int (pa_cons (pe_un un_neg pe_int) (pa_cons pe_int (pa_cons (pe_op op_pow pe_int pe_int) (pa_cons pe_str (pa_cons pe_str (pa_cons pe_str (pa_cons pe_str (pa_cons pe_str (pa_cons (pe_tup pa_nil) (pa_cons (pe_lst pa_nil) (pa_cons pe_dnewK (pa_cons (pe_tup (pa_cons pe_int pa_nil)) (pa_cons (pe_tup (pa_cons pe_int (pa_cons pe_int pa_nil))) (pa_cons (pe_tup (pa_cons pe_int (pa_cons pe_int pa_nil))) (pa_cons (pe_tup (pa_cons pe_bl pa_nil)) pa_nil)))))))))))))))))))))
      (pss_cons (ps_set (i := 2) sc__law_any.nd rfl (.inl rfl) (pe_op op_cat (pv 2) (pe_lst (pa_cons (pe_tup (pa_cons (pe_lst (pa_cons pe_int pa_nil)) pa_nil)) (pa_cons (pe_tup (pa_cons pe_dnewK pa_nil)) (pa_cons pe_str (pa_cons (pe_callTy call_tuple_of (by rfl) B.n_tuple (by decide +kernel) (pa_cons (pe_lc (own := [("_law_letter", 6)]) rfl sc__law_any.nd (pi_str (pe_slice sl_str pe_str po_none (po_some (pe_call G__law_pick (hr.mono (by decide)) (by rfl) F__law_pick.g F__law_pick.F.kp F__law_pick.b .nil pass0 (pa_cons (pv 0) (pa_cons (pe_lst (pa_cons pe_int (pa_cons pe_int (pa_cons pe_int pa_nil)))) pa_nil)))))) (blkOk_by (N := N__law_any) (sc := defScope s__law_any) (by decide +kernel)) (fun _ _ _ _ _ => (pg_name (i := 6) sc__law_any.nd rfl (Or.inl rfl))) (fun _ _ _ _ _ => pts_nil) (fun _ _ _ _ _ => (pe_tup (pa_cons (pv 6) (pa_cons (pe_op op_sub (pe_op op_add pe_int (pe_callB call_ord (by rfl) B.n_ord (by decide +kernel) (pa_cons (pv 6) pa_nil))) pe_int) pa_nil))))) pa_nil)) pa_nil)))))))
      (pss_cons (ps_set (i := 3) sc__law_any.nd rfl (.inl rfl) (pe_lst (pa_cons (pe_tup (pa_cons (pv 1) pa_nil)) (pa_cons (pe_lst (pa_cons (pv 1) pa_nil)) (pa_cons (pv 1) (pa_cons (pe_callTy (call_str_any (u70 hr) hG) (by rfl) B.n_str (by decide +kernel) (pa_cons (pv 1) pa_nil)) (pa_cons (pe_cmpR (op_eqG (u64 hr)) (pv 1) pe_int (nomark _)) pa_nil)))))))
      (C8.pss_cut (ps_if (PW.pt (pw_and (pt_val (pe_callB call_isi (by rfl) B.n_isinstance (by decide +kernel) (pa_cons (pv 1) (pa_cons (pe_bltn (v := .ty "tuple") (by rfl) B.n_tuple (by decide +kernel) rfl) pa_nil)))) (pw_and1 (pt_cmpR (op_neG (u64 hr)) (pv 1) (pe_tup pa_nil) (nomark _)))))
      (pss_cons (ps_set (i := 3) sc__law_any.nd rfl (.inl rfl) (pe_op op_cat (pv 3) (pe_op op_rep (pe_lst (pa_cons (pe_slice sl_tupA (pv 1) (po_some pe_int) po_none) (pa_cons (pe_op op_catA (pv 1) (pe_slice sl_tupA (pv 1) po_none (po_some pe_int))) (pa_cons (pe_revT (pv 1)) (pa_cons (pe_callTy call_list_of (by rfl) B.n_list (by decide +kernel) (pa_cons (pv 1) pa_nil)) (pa_cons (pe_op op_catA (pv 1) (pe_tup (pa_cons pe_int pa_nil))) (pa_cons (pe_op op_catA (pe_slice sl_tupA (pv 1) po_none (po_some (pe_un un_neg pe_int))) (pe_tup (pa_cons pe_non pa_nil))) (pa_cons (pe_op op_catA (pe_slice sl_tupA (pv 1) po_none (po_some (pe_un un_neg pe_int))) (pe_tup (pa_cons (pe_un un_neg pe_int) pa_nil))) pa_nil)))))))) pe_int)))
        (pss_cons (ps_set (i := 3) sc__law_any.nd rfl (.inl rfl) (pe_op op_cat (pv 3) (pe_lst (pa_cons (pe_op op_catA (pe_slice sl_tupA (pv 1) po_none (po_some (pe_un un_neg pe_int))) (pe_tup (pa_cons (pe_lst (pa_cons pe_int pa_nil)) pa_nil))) (pa_cons (pe_op op_catA (pe_slice sl_tupA (pv 1) po_none (po_some (pe_un un_neg pe_int))) (pe_tup (pa_cons pe_dnewK pa_nil))) pa_nil)))))
        (C8.pss_cut (ps_if (pt_val (pe_callB call_isi (by rfl) B.n_isinstance (by decide +kernel) (pa_cons (pe_ix ix_tup (pv 1) pe_int (fun _ _ => rfl)) (pa_cons (pe_bltn (v := .ty "int") (by rfl) B.n_int (by decide +kernel) rfl) pa_nil))))
        (pss_one (ps_set (i := 3) sc__law_any.nd rfl (.inl rfl) (pe_op op_cat (pv 3) (pe_op op_rep (pe_lst (pa_cons (pe_op op_catA (pe_tup (pa_cons (pe_op op_add (pe_ix ix_tup (pv 1) pe_int (fun _ _ => rfl)) pe_int) pa_nil)) (pe_slice sl_tupA (pv 1) (po_some pe_int) po_none)) (pa_cons (pe_op op_catA (pe_tup (pa_cons (pe_cmpR op_eq (pe_ix ix_tup (pv 1) pe_int (fun _ _ => rfl)) pe_int (nomark _)) pa_nil)) (pe_slice sl_tupA (pv 1) (po_some pe_int) po_none)) (pa_cons (pe_op op_catA (pe_tup (pa_cons (pe_op op_sub (pe_ix ix_tup (pv 1) pe_int (fun _ _ => rfl)) pe_int) pa_nil)) (pe_slice sl_tupA (pv 1) (po_some pe_int) po_none)) pa_nil)))) pe_int))))
        pss_nil)
        (pss_one (ps_if (pt_val (pe_callB call_isi (by rfl) B.n_isinstance (by decide +kernel) (pa_cons (pe_ix ix_tup (pv 1) pe_int (fun _ _ => rfl)) (pa_cons (pe_bltn (v := .ty "tuple") (by rfl) B.n_tuple (by decide +kernel) rfl) pa_nil))))
        (pss_cons (ps_asg (pe_ix ix_tup (pv 1) pe_int (fun _ _ => rfl)) (pg_tup rfl (pgs_cons (pg_name (i := 4) sc__law_any.nd rfl (Or.inl rfl)) (pgs_cons (pg_name (i := 5) sc__law_any.nd rfl (Or.inl rfl)) pgs_nil))))
          (pss_cons (ps_set (i := 3) sc__law_any.nd rfl (.inl rfl) (pe_op op_cat (pv 3) (pe_lst (pa_cons (pe_op op_catA (pe_tup (pa_cons (pe_tup (pa_cons (pv 4) (pa_cons pe_int pa_nil))) pa_nil)) (pe_slice sl_tupA (pv 1) (po_some pe_int) po_none)) (pa_cons (pe_op op_catA (pe_tup (pa_cons (pe_tup (pa_cons (pv 4) (pa_cons pe_int pa_nil))) pa_nil)) (pe_slice sl_tupA (pv 1) (po_some pe_int) po_none)) (pa_cons (pe_op op_catA (pe_tup (pa_cons (pe_tup (pa_cons (pv 4) (pa_cons pe_bl pa_nil))) pa_nil)) (pe_slice sl_tupA (pv 1) (po_some pe_int) po_none)) pa_nil))))))
          (pss_cons (ps_set (i := 3) sc__law_any.nd rfl (.inl rfl) (pe_op op_cat (pv 3) (pe_lst (pa_cons (pe_op op_catA (pe_tup (pa_cons (pe_tup (pa_cons (pe_op op_add_str (pv 4) pe_str) (pa_cons (pv 5) pa_nil))) pa_nil)) (pe_slice sl_tupA (pv 1) (po_some pe_int) po_none)) (pa_cons (pe_op op_catA (pe_tup (pa_cons (pe_lst (pa_cons (pv 4) (pa_cons (pv 5) pa_nil))) pa_nil)) (pe_slice sl_tupA (pv 1) (po_some pe_int) po_none)) (pa_cons (pe_op op_catA (pe_tup (pa_cons (pe_tup (pa_cons pe_str (pa_cons (pv 5) pa_nil))) pa_nil)) (pe_slice sl_tupA (pv 1) (po_some pe_int) po_none)) pa_nil))))))
          (pss_one (ps_set (i := 3) sc__law_any.nd rfl (.inl rfl) (pe_op op_cat (pv 3) (pe_lst (pa_cons (pe_op op_catA (pe_tup (pa_cons (pe_tup (pa_cons (pe_lst (pa_cons (pv 4) pa_nil)) (pa_cons (pv 5) pa_nil))) pa_nil)) (pe_slice sl_tupA (pv 1) (po_some pe_int) po_none)) (pa_cons (pe_op op_catA (pe_tup (pa_cons (pe_tup (pa_cons pe_str (pa_cons (pv 5) pa_nil))) pa_nil)) (pe_slice sl_tupA (pv 1) (po_some pe_int) po_none)) (pa_cons (pe_op op_catA (pe_tup (pa_cons (pe_tup (pa_cons (pv 4) (pa_cons pe_non pa_nil))) pa_nil)) (pe_slice sl_tupA (pv 1) (po_some pe_int) po_none)) pa_nil))))))))))
        pss_nil)))))
      pss_nil)
      (C8.pss_cut (ps_if (pt_val (pe_callB call_isi (by rfl) B.n_isinstance (by decide +kernel) (pa_cons (pv 1) (pa_cons (pe_bltn (v := .ty "str") (by rfl) B.n_str (by decide +kernel) rfl) pa_nil))))
      (pss_one (ps_set (i := 3) sc__law_any.nd rfl (.inl rfl) (pe_op op_cat (pv 3) (pe_op op_rep (pe_lst (pa_cons (pe_op op_add_str (pv 1) pe_str) (pa_cons (pe_op op_add_str (pv 1) pe_str) (pa_cons (pe_m0 PySem.F.slot_str_upper PySem.F.type_str_upper mt_upper (pv 1)) pa_nil)))) pe_int))))
      pss_nil)
      (pss_one (ps_ret (pe_call G__law_pick (hr.mono (by decide)) (by rfl) F__law_pick.g F__law_pick.F.kp F__law_pick.b .nil pass0 (pa_cons (pv 0) (pa_cons (pe_op op_cat (pv 2) (pv 3)) pa_nil)))))))))), ?_⟩
    refine seq_list dk (P := OkD) (n := 19) (.cons (.cst .non non_okd) (.cons (.cst (.bl _) bl_okd) (.cons (.cst (.bl _) bl_okd) (.cons (.cst (.int 0) (int_okd (by decide) (by decide))) (.cons (mg_m1 (int_okd (by decide) (by decide))) (.cons (.cst (.int 2001) (int_okd (by decide) (by decide))) (.cons ?_ (.cons (.cst (.str _) (str_okd (by decide +kernel) (by decide +kernel))) (.cons (.cst (.str _) (str_okd (by decide +kernel) (by decide +kernel))) (.cons (.cst (.str _) (str_okd (by decide +kernel) (by decide +kernel))) (.cons (.cst (.str _) (str_okd (by decide +kernel) (by decide +kernel))) (.cons (.cst (.str _) (str_okd (by decide +kernel) (by decide +kernel)))
      (.cons (nt_ok (nt_tup (q := false) (n := 0) (b := 0) .nil (by decide)) (by decide) (by decide) (by decide)) (.cons (lst_ok (n := 0) (b := 0) .nil (by decide) (by decide) (by decide)) (.cons dic_ok
      (.cons (nt_ok (nt_tup (q := false) (n := 0) (b := 0) (.cons (.cst (.int 0) (int_sm (by decide) (by decide))) .nil) (by decide)) (by decide) (by decide) (by decide))
      (.cons (nt_ok (nt_tup (q := false) (n := 0) (b := 0) (.cons (.cst (.int 0) (int_sm (by decide) (by decide))) (.cons (.cst (.int 0) (int_sm (by decide) (by decide))) .nil)) (by decide)) (by decide) (by decide) (by decide))
      (.cons (nt_ok (nt_tup (q := false) (n := 0) (b := 0) (.cons (.cst (.int 1) (int_sm (by decide) (by decide))) (.cons (.cst (.int 0) (int_sm (by decide) (by decide))) .nil)) (by decide)) (by decide) (by decide) (by decide))
      (.cons (nt_ok (nt_tup (q := false) (n := 0) (b := 0) (.cons (.cst (.bl true) bl_sm) .nil) (by decide)) (by decide) (by decide) (by decide)) .nil))))))))))))))))))) (by decide) fun L0 H1 g1 hL0 => ?_
    · exact fun H2 s2 Q q => ⟨_, _, rfl, rfl, ⟨by decide, by decide, by decide⟩, q _ _ _ (Gx.refl s2.2) (.int _) (int_okd (by decide) (by decide))⟩
    refine seq_cat (P := OkD) (n := 4) rfl hL0 g1.2 (.cons (nt_ok (nt_tup (q := false) (n := 1) (b := 2) (.cons (lst_sm (n := 0) (b := 1) (.cons (.cst (.int 0) (int_sm (by decide) (by decide))) .nil) (by decide)) .nil) (by decide)) (by decide) (by decide) (by decide))
      (.cons (nt_ok (nt_tup (q := true) (n := 1) (b := 2) (.cons dic_sm .nil) (by decide)) (by decide) (by decide) (by decide)) (.cons (.cst (.str _) (str_okd (by decide +kernel) (by decide +kernel))) (.cons ?_ .nil)))) (by decide) fun Lo H2 g2 hLo => ?_
    · intro H2 g2 Q q
      refine ⟨_, rfl, sz (Nat.le_of_ble_eq_true rfl), fun a3 h3 => ⟨p, c, _, rfl, (Gx.new g2.2 h3).2, .inl ⟨a3, _, rfl, .new g2.2 h3, by decide, by decide, fun r x H3 hx g3 => ?_⟩⟩⟩
      have g23 : Gx p c H2 H3 := (Gx.new g2.2 h3).trans g3
      obtain ⟨k, rfl, k10⟩ : ∃ k : Nat, x = .int (k : Int) ∧ k ≤ 10 := by
        match r, hx with
        | 0, e => exact ⟨9, (Option.some.inj e).symm, by decide⟩
        | 1, e => exact ⟨10, (Option.some.inj e).symm, by decide⟩
        | 2, e => exact ⟨8, (Option.some.inj e).symm, by decide⟩
      have ea : Str.ofString "abcdefghij" = S [97, 98, 99, 100, 101, 102, 103, 104, 105, 106] := by decide +kernel
      rw [ea]
      refine ⟨_, rfl, _, rfl, sz (Nat.le_of_ble_eq_true rfl), ?_⟩
      rw [cut_to]
      refine ⟨_, rfl, fun D hD => ?_⟩
      refine lc_allH walk_str (fun H' => Same H3 H') (fun H' j y => ∃ (T : Addr) (e : List Nat × Nat), y = .ref T ∧ T ≠ D ∧ T ≠ p ∧ T ≠ c ∧ wordL e.1 = true ∧ e.2 ≤ 1000 ∧ H' T = some (.tup [.str (S e.1), .int ((e.2 : Nat) : Int)])) (by show (List.take k _).length ≤ _; rw [List.length_take]; exact Nat.le_trans (Nat.min_le_right _ _) (Nat.le_of_ble_eq_true rfl)) (Same.refl _) (fun H' o r b u e => by rw [upd_ne (ne_of_none e hD)]; exact r b u e) ?_ (fun _ _ => trivial) ?_ ?_
      · rintro H' o j y ⟨T, e, rfl, h1, h2, h3, h4, h5, h6⟩
        exact ⟨T, e, rfl, h1, h2, h3, h4, h5, by rw [upd_ne h1]; exact h6⟩
      · rintro i x H4 H5 xs kk hi s4 h4 ⟨rfl, ch, hch, rfl⟩ hkk
        have hch : (List.take k [97, 98, 99, 100, 101, 102, 103, 104, 105, 106])[i]? = some ch := by
          rw [show (S (List.take k [97, 98, 99, 100, 101, 102, 103, 104, 105, 106])).cps = (List.take k [97, 98, 99, 100, 101, 102, 103, 104, 105, 106]).toArray from rfl, List.getElem?_toArray] at hch
          exact hch
        have hm := List.mem_of_mem_take (List.mem_of_getElem? hch)
        have hch : 97 ≤ ch ∧ ch ≤ 106 := (by decide : ∀ c ∈ [97, 98, 99, 100, 101, 102, 103, 104, 105, 106], 97 ≤ c ∧ c ≤ 106) ch hm
        refine ⟨rfl, _, rfl, _, rfl, ⟨#[ch]⟩, rfl, rfl, _, _, rfl, rfl, _, _, rfl, rfl, sz (Nat.le_of_ble_eq_true rfl), fun T hT => ?_⟩
        have st := same_new (o := .tup [.str ⟨#[ch]⟩, .int (1 + ((ch : Nat) : Int) - 97)]) hT
        have eI : (1 + ((ch : Nat) : Int) - 97) = ((1 + ch - 97 : Nat) : Int) := by omega
        refine hkk _ _ ?_ ⟨T, ([ch], 1 + ch - 97), rfl, ?_, ?_, ?_, ?_, ?_, ?_⟩ (s4.trans st) (st _ _ h4)
        · rintro j z ⟨T', e, h1, h2, h3, h4, h5, h6, h7⟩
          exact ⟨T', e, h1, h2, h3, h4, h5, h6, st _ _ h7⟩
        · exact (ne_of_none h4 hT).symm
        · exact (((g3.2.same s4).ne hT).1)
        · exact (((g3.2.same s4).ne hT).2)
        · simp only [wordL, azC, List.all_cons, List.all_nil, List.length_cons, List.length_nil, Bool.and_true, Bool.and_eq_true, decide_eq_true_eq]
          omega
        · show 1 + ch - 97 ≤ 1000
          omega
        · rw [← eI]
          exact upd_same
      · intro H4 xs hxl hxs s4 h4
        have hx10 : xs.length ≤ 10 := by
          rw [hxl]
          show (List.take k [97, 98, 99, 100, 101, 102, 103, 104, 105, 106]).length ≤ 10
          rw [List.length_take]
          exact Nat.min_le_right _ _
        refine ⟨D, xs, rfl, .inl ⟨SqL.of h4, fun t ht => ?_⟩⟩
        have s5 := same_new (o := .tup xs) ht
        have g5 := g23.trans (g3.sm (s4.trans s5))
        obtain ⟨es, hes, hP⟩ := DgA.ex (p := p) (c := c) (H := upd H4 t (.tup xs)) (P := fun d => SmG false 1 12 d) (xs := xs) fun y hy => by
          obtain ⟨i, hi⟩ := List.mem_iff_getElem?.mp hy
          obtain ⟨T, e, rfl, _, h3, h4, h5, h6, h7⟩ := hxs i y hi
          exact ⟨pairD e, .tup ⟨h3, h4, s5 _ _ h7⟩ (.cons (.str _) (.cons (.int _) .nil)), pairD_sm ⟨h5, h6⟩ false⟩
        exact q _ (.tuple es) _ g5 (.tup (.new (g23.sm s4).2 ht) hes) ((NtG.of rfl hP).ok (by decide) (by rw [← hes.len]; omega) (by rw [← hes.len]; omega))
    have g02 := g1.trans g2
    have hd2 := hd.to g02.1
    have nG : ∀ b, SmG b 2 80 d := hn.sm
    refine seq_list g02.2 (P := OkD) (n := 5) (.cons (nt_ok (nt_tup (q := false) (n := 2) (b := 80) (.cons (.var rfl hd2 (nG false)) .nil) (by decide)) (by decide) (by decide) (by decide)) (.cons (lst_ok (n := 2) (b := 80) (.cons (.var rfl hd2 (nG false)) .nil) (by decide) (by decide) (by decide))
      (.cons (.var rfl hd2 hn.ok) (.cons ?_ (.cons ?_ .nil))))) (by decide) fun La H3 g3 hLa => ?_
    · intro H3 g3 Q q
      have ft := (nG false).1.fit (by decide) (by decide)
      exact ⟨_, rfl, v, d, p, c, rfl, hd2.to g3.1, ft.1, ft.2.1, ft.2.2.1, ft.2.2.2, q _ _ _ (Gx.refl g3.2) (.str _) hn.txt⟩
    · exact fun H3 g3 Q q => ⟨_, rfl, p, c, d, .int 1, hd2.to g3.1, .int 1, (nG false).1.shaped (by decide), by simp [SeqAt.shaped, PyData.canLay0, PyData.depth], q _ _ _ (Gx.refl g3.2) (.bl _) bl_okd⟩
    have g03 := g02.trans g3
    have hd3 := hd.to g03.1
    have hLo := hLo.to g3
    refine ⟨fun σ H' => ∃ x4 x5 x6 L N, σ = [some (.ref p), some v, some (.ref Lo), some (.ref L), x4, x5, x6] ∧ Gx p c H3 H' ∧ LP p c OkD N H' L ∧ N ≤ 100, ?_, ?_⟩
    · refine ⟨_, rfl, v, .ty "tuple", _, _, _, rfl, .ty "tuple", hd3.tyx, isi_T d, _, rfl, ?_⟩
      have done : ∀ (σ' : L2.St) (H' : Hp), H' = H3 → σ' = [some (.ref p), some v, some (.ref Lo), some (.ref La), none, none, none] → ∃ x4 x5 x6 L N, σ' = [some (.ref p), some v, some (.ref Lo), some (.ref L), x4, x5, x6] ∧ Gx p c H3 H' ∧ LP p c OkD N H' L ∧ N ≤ 100 := by
        rintro _ _ rfl rfl
        exact ⟨none, none, none, La, 5, rfl, Gx.refl g3.2, hLa, by decide⟩
      have key : (∃ a xs ds, v = .ref a ∧ d = .tuple ds ∧ At p c H3 a (.tup xs) ∧ DgA p c H3 xs ds ∧ (∀ q, NtG q 1 80 8 ds) ∧ ((∀ e ∈ ds, ∃ k : Nat, k ≤ 1000000 ∧ e = .int (k : Int)) ∨ ∀ e ∈ ds, ∃ x, (wordL x.1 = true ∧ x.2 ≤ 1000) ∧ e = pairD x)) ∨ isT d = false := by
        cases hn with
        | pool ps h0 h1 h2 =>
          cases hd3 with
          | tup at_ da => exact .inl ⟨_, _, _, rfl, rfl, at_, da, near_pool h1 h2, .inr fun e he => by
              obtain ⟨x, hx, rfl⟩ := List.mem_map.mp he
              exact ⟨x, h2 x hx, rfl⟩⟩
        | nums cs h1 h2 =>
          cases hd3 with
          | tup at_ da => exact .inl ⟨_, _, _, rfl, rfl, at_, da, near_ints h1 h2, .inl fun e he => by
              obtain ⟨k, hk, rfl⟩ := ctD_mem he
              exact ⟨k, h2 k hk, rfl⟩⟩
        | _ => exact .inr rfl
      rcases key with ⟨a, xs, ds, rfl, rfl, ha, hA, nt, hk⟩ | hT
      rotate_left
      · rw [hT]
        exact iteF (iteF (done _ _ rfl rfl))
      refine iteT ⟨_, rfl, sz (Nat.le_of_ble_eq_true rfl), fun t0 ht0 => ⟨p, c, _, _, hd3.to (Kp.same (same_new ht0)), .tup (.new g3.2 ht0) .nil, (nG false).1.shaped (by decide), by simp [SeqAt.shaped, PyData.canLay0, PyData.canLayAll0, PyData.depth, PyData.depthAll], _, rfl, ?_⟩⟩
      have s0 := same_new (o := .tup []) ht0
      generalize upd H3 t0 (.tup []) = H4 at s0 ⊢
      have g4 := g3.sm s0
      cases ds with
      | nil =>
        rw [eqv1]
        exact iteF ⟨none, none, none, La, 5, rfl, g4, hLa.to g4, by decide⟩
      | cons e0 es0 =>
      rw [eqv0]
      refine iteT ?_
      have ha4 := ha.gx g4
      have hA4 := hA.to g4.1
      have nv : ∀ (q : Bool) (σ : L2.St) (H5 : Hp), σ[1]? = some (some (.ref a)) → Gx p c H4 H5 → MGT p c (NtG q 1 80 8) (tVar 1) σ H5 := fun q σ H5 e g => .var e (ha4.gx g) (hA4.to g.1) (nt q)
      refine seq_cat2 (k := 2) (n := 7) rfl (hLa.to g4) g4.2 (.cons (nt_ok (nt_off 1 (nv false _ _ rfl (Gx.refl g4.2))) (by decide) (by decide) (by decide)) (.cons (nt_ok (nt_cat (nv false _ _ rfl (Gx.refl g4.2)) (nt_up 1 (nv false _ _ rfl (Gx.refl g4.2))) (by decide)) (by decide) (by decide) (by decide)) (.cons (nt_ok (nt_rev (nv false _ _ rfl (Gx.refl g4.2))) (by decide) (by decide) (by decide))
        (.cons ?_ (.cons (nt_ok (nt_cat (nv false _ _ rfl (Gx.refl g4.2)) (nt_tup (b := 0) (.cons (.cst (.int 0) (int_sm (by decide) (by decide))) .nil) (by decide)) (by decide)) (by decide) (by decide) (by decide))
        (.cons (nt_ok (nt_cat (nt_but (nv false _ _ rfl (Gx.refl g4.2))) (nt_tup (b := 0) (.cons (.cst .non non_sm) .nil) (by decide)) (by decide)) (by decide) (by decide) (by decide))
        (.cons (nt_ok (nt_cat (nt_but (nv false _ _ rfl (Gx.refl g4.2))) (nt_tup (b := 0) (.cons (mg_m1 (int_sm (by decide) (by decide))) .nil) (by decide)) (by decide)) (by decide) (by decide) (by decide)) .nil))))))) (by decide) (by decide) fun Lb H5 g5 hLb => ?_
      · intro H5 g5 Q q
        exact ⟨_, rfl, a, xs, rfl, .inr (SqT.of (ha4.gx g5).2.2), fun l hl => q _ _ _ (Gx.new g5.2 hl) (.lst (.new g5.2 hl) ((hA4.to g5.1).to (Kp.same (same_new hl)))) ⟨⟨false, (Gd.lst (nt false).1).mono (by decide) (by decide)⟩, trivial⟩⟩
      refine seq_cat (n := 2) rfl hLb g5.2 (.cons (nt_ok (nt_cat (nt_but (nv false _ _ rfl g5)) (nt_tup (b := 2) (.cons (lst_sm (n := 0) (b := 1) (.cons (.cst (.int 0) (int_sm (by decide) (by decide))) .nil) (by decide)) .nil) (by decide)) (by decide)) (by decide) (by decide) (by decide))
        (.cons (nt_ok (nt_cat (nt_but (nv true _ _ rfl g5)) (nt_tup (b := 0) (.cons dic_sm .nil) (by decide)) (by decide)) (by decide) (by decide) (by decide)) .nil)) (by decide) fun Lc H6 g6 hLc => ?_
      have g46 := g5.trans g6
      have ha6 := ha4.gx g46
      have hA6 := hA4.to g46.1
      refine ⟨fun σ H' => ∃ L N, σ = [some (.ref p), some (.ref a), some (.ref Lo), some (.ref L), none, none, none] ∧ Gx p c H6 H' ∧ LP p c OkD N H' L ∧ N ≤ 60, ?_, ?_⟩
      · match xs, hA6, ha6 with
        | x0 :: xs, .cons hx0 hxs, ha6 =>
        refine ⟨_, rfl, a, _, 0, _, rfl, rfl, SqT.of ha6.2.2, atI_nat (j := 0) rfl, _, .ty "int", _, _, _, rfl, .ty "int", hx0.tyx, isi_I e0, _, rfl, ?_⟩
        rcases hk with hk | hk
        · obtain ⟨k, hk, rfl⟩ := hk e0 List.mem_cons_self
          cases hx0
          have it : ∀ (j : Int) (Q : VK) (H7 : Hp), Gx p c H6 H7 → (∀ v d H', Gx p c H7 H' → Dg p c H' v d → SmG false 1 0 d → Q v H') → -1 ≤ j → j ≤ 10000000 → Q (.int j) H7 := fun j Q H7 g q h1 h2 => q _ _ _ (Gx.refl g.2) (.int _) (int_sm h1 (by omega))
          refine iteT (one_cat2 (k := 2) (n := 3) rfl hLc g6.2 (.cons (nt_ok (nt_cat (nt_tup (q := false) (n := 1) (b := 0) (.cons ?_ .nil) (by decide)) (nt_off 1 (nv false _ _ rfl g46)) (by decide)) (by decide) (by decide) (by decide))
            (.cons (nt_ok (nt_cat (nt_tup (q := false) (n := 1) (b := 0) (.cons ?_ .nil) (by decide)) (nt_off 1 (nv false _ _ rfl g46)) (by decide)) (by decide) (by decide) (by decide))
            (.cons (nt_ok (nt_cat (nt_tup (q := false) (n := 1) (b := 0) (.cons ?_ .nil) (by decide)) (nt_off 1 (nv false _ _ rfl g46)) (by decide)) (by decide) (by decide) (by decide)) .nil))) (by decide) (by decide) fun Ld H7 g7 hLd => ⟨Ld, _, rfl, g7, hLd, by decide⟩)
          · exact fun H7 g7 Q q => ⟨_, rfl, a, _, 0, _, rfl, rfl, SqT.of (ha6.gx g7).2.2, atI_nat (j := 0) rfl, _, _, rfl, rfl, it _ Q H7 g7 q (by omega) (by omega)⟩
          · exact fun H7 g7 Q q => ⟨_, rfl, a, _, 0, _, rfl, rfl, SqT.of (ha6.gx g7).2.2, atI_nat (j := 0) rfl, rfl, q _ _ _ (Gx.refl g7.2) (.bl _) bl_sm⟩
          · exact fun H7 g7 Q q => ⟨_, rfl, a, _, 0, _, rfl, rfl, SqT.of (ha6.gx g7).2.2, atI_nat (j := 0) rfl, _, _, rfl, rfl, it _ Q H7 g7 q (by omega) (by omega)⟩
        · obtain ⟨x, hx, rfl⟩ := hk e0 List.mem_cons_self
          exact iteF ⟨Lc, _, rfl, Gx.refl g6.2, hLc, by decide⟩
      · rintro _ H7 ⟨L7, N7, rfl, g7, hL7, hN7⟩
        have ha7 := ha6.gx g7
        have hA7 := hA6.to g7.1
        have g47 := g46.trans g7
        match xs, hA7, ha7 with
        | x0 :: xs, .cons hx0 hxs, ha7 =>
        refine ⟨_, rfl, a, _, 0, _, rfl, rfl, SqT.of ha7.2.2, atI_nat (j := 0) rfl, _, .ty "tuple", _, _, _, rfl, .ty "tuple", hx0.tyx, isi_T e0, _, rfl, ?_⟩
        rcases hk with hk | hk
        · obtain ⟨k, hk, rfl⟩ := hk e0 List.mem_cons_self
          exact iteF ⟨none, none, none, L7, N7, rfl, ((g4.trans g46).trans g7), hL7, by omega⟩
        · obtain ⟨x, hx, rfl⟩ := hk e0 List.mem_cons_self
          cases hx0 with
          | @tup b0 ys _ hb hys =>
          match ys, hys, hb with
          | [_, _], .cons (.str _) (.cons (.int _) .nil), hb =>
          refine iteT ⟨_, rfl, a, _, 0, _, rfl, rfl, SqT.of ha7.2.2, atI_nat (j := 0) rfl, b0, _, rfl, SqT.of hb.2.2, rfl, _, _, rfl, _, _, rfl, rfl, ?_⟩
          have hl : ∀ (q : Bool) (σ : L2.St) (H8 : Hp), σ[4]? = some (some (.str (S x.1))) → MG p c (SmG q 0 11) (tVar 4) σ H8 := fun q σ H8 e => .var e (.str _) (str_sm (wordL_ok hx.1) (by have := wordL_len hx.1; show x.1.length ≤ 11; omega))
          have hw : ∀ (q : Bool) (σ : L2.St) (H8 : Hp), σ[5]? = some (some (.int ((x.2 : Nat) : Int))) → MG p c (SmG q 0 11) (tVar 5) σ H8 := fun q σ H8 e => .var e (.int _) (int_sm (by omega) (by have := hx.2; omega))
          have two : ∀ (σ : L2.St) (H8 : Hp) (ta tb : TE), σ[1]? = some (some (.ref a)) → Gx p c H7 H8 → MG p c (SmG false 0 11) ta σ H8 → MG p c (SmG false 0 11) tb σ H8 → MG p c OkD (tOp (rCatA K) (tTup (tCons (tTup (tCons ta (tCons tb tNil))) tNil)) (tSl (rSlA K) (tVar 1) (tPart (tC (.int 1))) tNoPart)) σ H8 := fun σ H8 ta tb e g m1 m2 =>
            nt_ok (nt_cat (nt_tup (q := false) (n := 1) (b := 24) (.cons (nt_sm (nt_tup (n := 0) (b := 11) (.cons m1 (.cons m2 .nil)) (by decide)) (by decide)) .nil) (by decide)) (nt_off 1 (nv false _ _ e (g47.trans g))) (by decide)) (by decide) (by decide) (by decide)
          refine seq_cat (n := 3) rfl hL7 g7.2 (.cons (two _ _ _ _ rfl (Gx.refl g7.2) (hl _ _ _ rfl) (.cst (.int 0) (int_sm (by decide) (by decide)))) (.cons (two _ _ _ _ rfl (Gx.refl g7.2) (hl _ _ _ rfl) (.cst (.int 101) (int_sm (by decide) (by decide)))) (.cons (two _ _ _ _ rfl (Gx.refl g7.2) (hl _ _ _ rfl) (.cst (.bl true) bl_sm)) .nil))) (by omega) fun L8 H8 g8 hL8 => ?_
          refine seq_cat (n := 3) rfl hL8 g8.2 (.cons (two _ _ _ _ rfl g8 ?_ (hw _ _ _ rfl)) (.cons (nt_ok (nt_cat (nt_tup (q := false) (n := 1) (b := 24) (.cons (lst_sm (n := 0) (b := 11) (.cons (hl _ _ _ rfl) (.cons (hw _ _ _ rfl) .nil)) (by decide)) .nil) (by decide)) (nt_off 1 (nv false _ _ rfl (g47.trans g8))) (by decide)) (by decide) (by decide) (by decide)) (.cons (two _ _ _ _ rfl g8 (.cst (.str _) (str_sm (by decide +kernel) (by decide +kernel))) (hw _ _ _ rfl)) .nil))) (by omega) fun L9 H9 g9 hL9 => ?_
          · refine fun H9 g9 Q q => ⟨_, rfl, _, _, rfl, rfl, sz (by show x.1.length + _ ≤ _; have := wordL_len hx.1; rw [show (Str.ofString "A").length = 1 by decide +kernel]; omega), q _ _ _ (Gx.refl g9.2) (.str _) (str_sm ?_ ?_)⟩
            · rw [show Str.ofString "A" = S [65] by decide +kernel, S_cat]
              have h2 := wordL_low hx.1
              have h3 := wordL_len hx.1
              refine asc_okB (fun c hc => ?_) (by show (x.1 ++ [65]).length ≤ 9000; rw [List.length_append, List.length_singleton]; omega)
              rcases List.mem_append.mp (show c ∈ x.1 ++ [65] from hc) with hc | hc
              · have := h2 c hc
                omega
              · have := List.mem_singleton.mp hc
                omega
            · rw [show Str.ofString "A" = S [65] by decide +kernel, S_cat]
              have h3 := wordL_len hx.1
              show (x.1 ++ [65]).length ≤ 11
              rw [List.length_append, List.length_singleton]
              omega
          have g79 := g8.trans g9
          refine one_cat (n := 3) rfl hL9 g9.2 (.cons (nt_ok (nt_cat (nt_tup (q := false) (n := 2) (b := 26) (.cons (nt_sm (nt_tup (n := 1) (b := 12) (.cons (lst_sm (n := 0) (b := 11) (.cons (hl _ _ _ rfl) .nil) (by decide)) (.cons ((hw _ _ _ rfl).mono fun _ z => z.mono (by decide) (by decide)) .nil)) (by decide)) (by decide)) .nil) (by decide)) ((nt_off 1 (nv false _ _ rfl (g47.trans g79))).mono fun _ z => z.mono (n2 := 2) (by decide) (Nat.le_refl 80) (Nat.le_refl 8)) (by decide)) (by decide) (by decide) (by decide)) (.cons (two _ _ _ _ rfl g79 (.cst (.str _) (str_sm (by decide +kernel) (by decide +kernel))) (hw _ _ _ rfl)) (.cons (two _ _ _ _ rfl g79 (hl _ _ _ rfl) (.cst .non non_sm)) .nil))) (by omega) fun La H10 g10 hL10 => ?_
          exact ⟨_, _, none, La, _, rfl, (((g4.trans g46).trans g7).trans g79).trans g10, hL10, by omega⟩
    · rintro _ H4 ⟨x4, x5, x6, L4, N4, rfl, g4, hL4, hN4⟩
      have hd4 := hd3.to g4.1
      have g04 := g03.trans g4
      refine ⟨fun σ H' => ∃ x4 x5 x6 L N, σ = [some (.ref p), some v, some (.ref Lo), some (.ref L), x4, x5, x6] ∧ Gx p c H4 H' ∧ LP p c OkD N H' L ∧ N ≤ 200, ?_, ?_⟩
      · refine ⟨_, rfl, v, .ty "str", _, _, _, rfl, .ty "str", hd4.tyx, isi_S d, _, rfl, ?_⟩
        cases hn with
        | word l hw =>
          cases hd4
          have h2 := wordL_low hw
          have h3 := wordL_len hw
          have apd : ∀ z : Nat, z < 128 → OkD (.str (S l ++ S [z])) := fun z hz => by
            rw [S_cat]
            refine str_okd (asc_okB (fun c hc => ?_) (by show (l ++ [z]).length ≤ 9000; rw [List.length_append, List.length_singleton]; omega)) (by show (l ++ [z]).length ≤ 6000; rw [List.length_append, List.length_singleton]; omega)
            rcases List.mem_append.mp (show c ∈ l ++ [z] from hc) with hc | hc
            · have := h2 c hc
              omega
            · have := List.mem_singleton.mp hc
              omega
          refine iteT (one_cat2 (k := 2) (n := 3) rfl hL4 g4.2 (.cons ?_ (.cons ?_ (.cons ?_ .nil))) (by decide) (by omega) fun L5 H5 g5 hL5 => ⟨x4, x5, x6, L5, _, rfl, g5, hL5, by omega⟩)
          · intro H5 g5 Q q
            rw [show Str.ofString "\n" = S [10] by decide +kernel]
            exact ⟨_, rfl, _, _, rfl, rfl, sz (by show l.length + 1 ≤ _; omega), q _ _ _ (Gx.refl g5.2) (.str _) (apd 10 (by decide))⟩
          · intro H5 g5 Q q
            rw [show Str.ofString " " = S [32] by decide +kernel]
            exact ⟨_, rfl, _, _, rfl, rfl, sz (by show l.length + 1 ≤ _; omega), q _ _ _ (Gx.refl g5.2) (.str _) (apd 32 (by decide))⟩
          · intro H5 g5 Q q
            refine ⟨_, rfl, ⟨_, rfl⟩, _, rfl, rfl, (by show l.length ≤ _; omega), q _ _ _ (Gx.refl g5.2) (.str _) ?_⟩
            rw [SX.upper_S (List.all_eq_true.mpr fun c hc => decide_eq_true (by have := h2 c hc; omega))]
            refine str_okd (asc_okB (fun c hc => ?_) (by show (l.map PyProof.Rows.up1).length ≤ 9000; rw [List.length_map]; omega)) (by show (l.map PyProof.Rows.up1).length ≤ 6000; rw [List.length_map]; omega)
            obtain ⟨e, he, rfl⟩ := List.mem_map.mp (show c ∈ l.map PyProof.Rows.up1 from hc)
            have := h2 e he
            unfold PyProof.Rows.up1
            split <;> omega
        | _ => exact iteF ⟨x4, x5, x6, L4, N4, rfl, Gx.refl g4.2, hL4, by omega⟩
      · rintro _ H5 ⟨x4, x5, x6, L5, N5, rfl, g5, hL5, hN5⟩
        obtain ⟨vs1, es1, a1, b1, c1, n1⟩ := (hLo.to g4).to g5
        obtain ⟨vs2, es2, a2, b2, c2, n2⟩ := hL5
        refine ⟨_, rfl, _, rfl, _, rfl, Lo, L5, vs1, vs2, rfl, rfl, a1.2.2, a2.2.2, sz (by omega), fun r hr => ?_⟩
        have g6 := Gx.new (o := .lst (vs1 ++ vs2)) g5.2 hr
        refine ⟨p, c, _, rfl, g6.2, .inl ⟨r, _, rfl, .new g5.2 hr, by rw [List.length_append]; omega, by rw [List.length_append]; omega, fun i x H7 hx g7 => ?_⟩⟩
        obtain ⟨e, he, hx⟩ := ((b1.app b2).to g6.1).at_ hx
        exact q x e H7 (((g04.trans g5).trans g6).trans g7) (hx.to g7.1) ((List.mem_append.mp (List.mem_of_getElem? he)).elim (c1 e) (c2 e))
end
end Ag

end
/-! ## S12a -/
section
set_option linter.all false
set_option maxRecDepth 100000
namespace Ag
open PySem PySem.Spec PyProof.Rows L2
open SX (S S_len S_cat S_inj)
/-! ### what the law hands over: pools, lots, counts, words in a dict by their way -/
theorem mk_pool {p c : Addr} {H : Hp} : ∀ {xs : List V} {ls : List (List Nat)}, xs.length = ls.length → (∀ (i : Nat) (y : V), xs[i]? = some y → ∃ (T : Addr) (l : List Nat) (w : Nat), y = V.ref T ∧ T ≠ p ∧ T ≠ c ∧ ls[i]? = some l ∧ 1 ≤ w ∧ w ≤ 100 ∧ H T = some (.tup [.str (S l), .int ((w : Nat) : Int)])) →
    ∃ (ts : List Addr) (ps : List (List Nat × Nat)), xs = ts.map V.ref ∧ PlI H ts ps ∧ ps.map Prod.fst = ls ∧ (∀ e ∈ ps, 1 ≤ e.2 ∧ e.2 ≤ 100) ∧ DgA p c H xs (ps.map pairD)
  | [], [], _, _ => ⟨[], [], rfl, ⟨rfl, fun j t h => by simp at h⟩, rfl, (fun e h => by cases h), .nil⟩
  | x :: xs, l :: ls, hl, h => by
    obtain ⟨ts, ps, rfl, hp, rfl, hw, hd⟩ := mk_pool (xs := xs) (ls := ls) (by simpa using hl) fun i y hy => h (i + 1) y hy
    obtain ⟨T, l', w, rfl, n1, n2, e1, w1, w2, hT⟩ := h 0 x rfl
    cases e1
    refine ⟨T :: ts, (l, w) :: ps, rfl, ⟨by simp [hp.1], fun j u hj => ?_⟩, rfl, fun e he => ?_, .cons (.tup ⟨n1, n2, hT⟩ (.cons (.str _) (.cons (.int _) .nil))) hd⟩
    · match j, hj with
      | 0, hj => cases hj; exact ⟨_, rfl, hT⟩
      | j + 1, hj =>
        obtain ⟨y, h1, h2⟩ := hp.2 j u hj
        exact ⟨y, h1, h2⟩
    · rcases List.mem_cons.mp he with rfl | he
      · exact ⟨w1, w2⟩
      · exact hw e he
theorem Pool.gxx {p c a : Addr} {H H' : Hp} {ts : List Addr} {ps : List (List Nat × Nat)} (h : Pool a ts ps H) (ha : a ≠ p ∧ a ≠ c) (ht : ∀ t ∈ ts, t ≠ p ∧ t ≠ c) (g : Gx p c H H') : Pool a ts ps H' :=
  ⟨g.1 _ _ ha.1 ha.2 h.at_, ⟨h.it.1, fun j t e => by
    obtain ⟨x, h1, h2⟩ := h.it.2 j t e
    have hm := ht t (List.mem_of_getElem? e)
    exact ⟨x, h1, g.1 _ _ hm.1 hm.2 h2⟩⟩, h.ok⟩
/-- how many arguments each way has -/
def arity (n : Nat) : Nat := match n with
  | 0 => 2
  | 1 => 3
  | 2 => 3
  | 3 => 2
  | 4 => 1
  | 5 => 2
  | _ => 2
theorem shf_of {n : Nat} {ds : List PyData} (hn : n ≤ 6) (h : ds.length = arity n) : ShF n ds := by
  match n, hn with
  | 0, _ => match ds, h with | [_, _], _ => trivial
  | 1, _ => match ds, h with | [_, _, _], _ => trivial
  | 2, _ => match ds, h with | [_, _, _], _ => trivial
  | 3, _ => match ds, h with | [_, _], _ => trivial
  | 4, _ => match ds, h with | [_], _ => trivial
  | 5, _ => match ds, h with | [_, _], _ => trivial
  | 6, _ => match ds, h with | [_, _], _ => trivial
def kN (n : Nat) : Key := Sum.inr (wayS n)
theorem kN_ne : ∀ i, i < 7 → ∀ j, j < 7 → i ≠ j → ¬ kN i = kN j := by decide +kernel
/-- the dict t as it stands, made since H0 -/
structure D7 (p c t : Addr) (H0 H : Hp) (kvs : List (Key × V)) : Prop where
  fr : H0 t = none
  np : t ≠ p
  nc : t ≠ c
  dk : Dk p c H0
  g : Gx p c H0 H
  at_ : H t = some (.dK kvs)
/-- arguments of the way n -/
def Fd (p c t : Addr) (H0 H : Hp) (v : V) (n : Nat) : Prop := ∃ r xs ds, v = .ref r ∧ At p c H r (.tup xs) ∧ r ≠ t ∧ DgA p c H0 xs ds ∧ (∀ d ∈ ds, Near d) ∧ ds.length = arity n
section
variable {p c t : Addr} {H0 H H' : Hp} {kvs : List (Key × V)} {v : V} {n : Nat}
theorem D7.to (d : D7 p c t H0 H kvs) (g : Gx p c H H') : D7 p c t H0 H' kvs := ⟨d.fr, d.np, d.nc, d.dk, d.g.trans g, g.1 _ _ d.np d.nc d.at_⟩
theorem D7.put (d : D7 p c t H0 H kvs) (kvs' : List (Key × V)) : D7 p c t H0 (upd H t (.dK kvs')) kvs' := ⟨d.fr, d.np, d.nc, d.dk, d.g.put d.dk d.fr ⟨d.np, d.nc⟩, upd_same⟩
theorem Fd.to (f : Fd p c t H0 H v n) (g : Gx p c H H') : Fd p c t H0 H' v n := by
  obtain ⟨r, xs, ds, h1, h2, h3, h4⟩ := f
  exact ⟨r, xs, ds, h1, h2.gx g, h3, h4⟩
theorem Fd.put {o : HO} (f : Fd p c t H0 H v n) : Fd p c t H0 (upd H t o) v n := by
  obtain ⟨r, xs, ds, h1, h2, h3, h4⟩ := f
  exact ⟨r, xs, ds, h1, ⟨h2.1, h2.2.1, by rw [upd_ne h3]; exact h2.2.2⟩, h3, h4⟩
/-- a new tuple of arguments -/
theorem D7.arg (d : D7 p c t H0 H kvs) {r : Addr} {xs : List V} {ds : List PyData} (hr : H r = none) (hA : DgA p c H0 xs ds) (hn : ∀ e ∈ ds, Near e) (hl : ds.length = arity n) : Fd p c t H0 (upd H r (.tup xs)) (.ref r) n :=
  ⟨r, xs, ds, rfl, .new d.g.2 hr, (fun e => by rw [e, d.at_] at hr; cases hr), hA, hn, hl⟩
end
end Ag

end
/-! ## S12 -/
section
set_option linter.all false
set_option maxRecDepth 100000
set_option maxHeartbeats 4000000
namespace Ag
open PySem PySem.Spec PyProof.Rows L2
open SX (S S_len S_cat S_inj)
/-- the dict of all ways -/
def kv3 (a4 a6 a0 : V) : List (Key × V) := putK (putK (putK [] (kN 4) a4) (kN 6) a6) (kN 0) a0
def kv7 (a4 a6 a0 a3 a5 a2 a1 : V) : List (Key × V) := putK (putK (putK (putK (kv3 a4 a6 a0) (kN 3) a3) (kN 5) a5) (kN 2) a2) (kN 1) a1
theorem kv3_len (a4 a6 a0 : V) : (kv3 a4 a6 a0).length ≤ 3 := by
  have h1 := DSub.putK_len ([] : List (Key × V)) (kN 4) a4
  have h2 := DSub.putK_len (putK [] (kN 4) a4) (kN 6) a6
  have h3 := DSub.putK_len (putK (putK [] (kN 4) a4) (kN 6) a6) (kN 0) a0
  unfold kv3
  simp only [List.length_nil] at h1
  omega
theorem put_lt {c : List (Key × V)} {k : Key} {x : V} {n : Nat} (h : c.length ≤ n) : (putK c k x).length ≤ n + 1 := Nat.le_trans (DSub.putK_len c k x) (by omega)
theorem kv7_at {Pr : V → Nat → Prop} {a4 a6 a0 a3 a5 a2 a1 : V} (h4 : Pr a4 4) (h6 : Pr a6 6) (h0 : Pr a0 0) (h3 : Pr a3 3) (h5 : Pr a5 5) (h2 : Pr a2 2) (h1 : Pr a1 1) {n : Nat} (hn : n ≤ 6) : ∃ v, valV (kv7 a4 a6 a0 a3 a5 a2 a1) (kN n) = some v ∧ Pr v n := by
  unfold kv7 kv3
  match n, hn with
  | 0, _ => exact ⟨_, by rw [valV_put, if_neg (kN_ne 0 (by decide) 1 (by decide) (by decide)), valV_put, if_neg (kN_ne 0 (by decide) 2 (by decide) (by decide)), valV_put, if_neg (kN_ne 0 (by decide) 5 (by decide) (by decide)), valV_put, if_neg (kN_ne 0 (by decide) 3 (by decide) (by decide)), valV_put, if_pos rfl], h0⟩
  | 1, _ => exact ⟨_, by rw [valV_put, if_pos rfl], h1⟩
  | 2, _ => exact ⟨_, by rw [valV_put, if_neg (kN_ne 2 (by decide) 1 (by decide) (by decide)), valV_put, if_pos rfl], h2⟩
  | 3, _ => exact ⟨_, by rw [valV_put, if_neg (kN_ne 3 (by decide) 1 (by decide) (by decide)), valV_put, if_neg (kN_ne 3 (by decide) 2 (by decide) (by decide)), valV_put, if_neg (kN_ne 3 (by decide) 5 (by decide) (by decide)), valV_put, if_pos rfl], h3⟩
  | 4, _ => exact ⟨_, by rw [valV_put, if_neg (kN_ne 4 (by decide) 1 (by decide) (by decide)), valV_put, if_neg (kN_ne 4 (by decide) 2 (by decide) (by decide)), valV_put, if_neg (kN_ne 4 (by decide) 5 (by decide) (by decide)), valV_put, if_neg (kN_ne 4 (by decide) 3 (by decide) (by decide)), valV_put, if_neg (kN_ne 4 (by decide) 0 (by decide) (by decide)), valV_put, if_neg (kN_ne 4 (by decide) 6 (by decide) (by decide)), valV_put, if_pos rfl], h4⟩
  | 5, _ => exact ⟨_, by rw [valV_put, if_neg (kN_ne 5 (by decide) 1 (by decide) (by decide)), valV_put, if_neg (kN_ne 5 (by decide) 2 (by decide) (by decide)), valV_put, if_pos rfl], h5⟩
  | 6, _ => exact ⟨_, by rw [valV_put, if_neg (kN_ne 6 (by decide) 1 (by decide) (by decide)), valV_put, if_neg (kN_ne 6 (by decide) 2 (by decide) (by decide)), valV_put, if_neg (kN_ne 6 (by decide) 5 (by decide) (by decide)), valV_put, if_neg (kN_ne 6 (by decide) 3 (by decide) (by decide)), valV_put, if_neg (kN_ne 6 (by decide) 0 (by decide) (by decide)), valV_put, if_pos rfl], h6⟩
theorem ar_le (n : Nat) : arity n ≤ 3 := by
  unfold arity
  split <;> decide
def spArgs : Sp := fun vs H Q _ => ∃ p c n, vs = [.ref p, .str (wayS n)] ∧ n ≤ 6 ∧ Dk p c H ∧ ∀ r xs ds H', Gx p c H H' → At p c H' r (.tup xs) → DgA p c H' xs ds → (∀ d ∈ ds, OkD d) → ShF n ds → Q (.ref r) H'
section
variable {P : Program} {w : World} {K : PySem.W.Frag} {mg : Str → Option Value} {base : Heap}
theorem ok_args {f f1 f2 f3 f4 f5 f6 : Addr} {fd fd1 fd2 fd3 fd4 fd5 fd6 : FuncData} (F : Fn K mg "_law_arguments" s__law_arguments ["_law_deck_here", "_law_way"] f fd) (B : Blt mg)
    (F__law_words : Fn K mg "_law_words" s__law_words ["_law_deck_here", "_law_many"] f1 fd1) (G__law_words : FnOk P w K mg base CX0 4 f1 fd1 ["_law_deck_here", "_law_many"] spMkWords)
    (F__law_pick : Fn K mg "_law_pick" s__law_pick ["_law_deck_here", "_law_some"] f2 fd2) (G__law_pick : FnOk P w K mg base CX0 2 f2 fd2 ["_law_deck_here", "_law_some"] spPick)
    (F__law_draw : Fn K mg "_law_draw" s__law_draw ["_law_deck_here", "_law_many"] f3 fd3) (G__law_draw : FnOk P w K mg base CX0 1 f3 fd3 ["_law_deck_here", "_law_many"] spDraw)
    (F__law_counts : Fn K mg "_law_counts" s__law_counts ["_law_weights", "_law_t"] f4 fd4) (G__law_counts : FnOk P w K mg base CX0 2 f4 fd4 ["_law_weights", "_law_t"] spLCounts)
    (F__law_word : Fn K mg "_law_word" s__law_word ["_law_deck_here"] f5 fd5) (G__law_word : FnOk P w K mg base CX0 3 f5 fd5 ["_law_deck_here"] spMkWord)
    (F__law_any : Fn K mg "_law_any" s__law_any ["_law_deck_here", "_law_near"] f6 fd6) (G__law_any : FnG P w K mg base 3 f6 fd6 ["_law_deck_here", "_law_near"] spLAny) :
    FnG P w K mg base 5 f fd ["_law_deck_here", "_law_way"] spArgs := by
  refine okG F.F sc__law_arguments (fun vs H Q E h => ?_) (fun cdv A outer s H vs Q E hr hG h => ?_)
  · obtain ⟨p, c, n, rfl, _⟩ := h
    rfl
  · obtain ⟨p, c, n, rfl, n6, dk, q⟩ := h
    refine ⟨_, (pss_cons (ps_asg (pe_tup (pa_cons (pe_call G__law_words (hr.mono (by decide)) (by rfl) F__law_words.g F__law_words.F.kp F__law_words.b .nil pass0 (pa_cons (pv 0) (pa_cons (pe_call G__law_pick (hr.mono (by decide)) (by rfl) F__law_pick.g F__law_pick.F.kp F__law_pick.b .nil pass0 (pa_cons (pv 0) (pa_cons (pe_lst (pa_cons pe_int (pa_cons pe_int (pa_cons pe_int (pa_cons pe_int pa_nil))))) pa_nil))) pa_nil))) (pa_cons (pe_call G__law_pick (hr.mono (by decide)) (by rfl) F__law_pick.g F__law_pick.F.kp F__law_pick.b .nil pass0 (pa_cons (pv 0) (pa_cons (pe_lst (pa_cons pe_int (pa_cons pe_int (pa_cons pe_int pa_nil)))) pa_nil))) pa_nil))) (pg_tup rfl (pgs_cons (pg_name (i := 2) sc__law_arguments.nd rfl (Or.inl rfl)) (pgs_cons (pg_name (i := 3) sc__law_arguments.nd rfl (Or.inr rfl)) pgs_nil))))
      (pss_cons (ps_set (i := 4) sc__law_arguments.nd rfl (.inl rfl) (pe_callTy call_tuple_of (by rfl) B.n_tuple (by decide +kernel) (pa_cons (pe_lc (own := [("_law_label", 10)]) rfl sc__law_arguments.nd (pi_list (pv 2)) (blkOk_by (N := N__law_arguments) (sc := defScope s__law_arguments) (by decide +kernel)) (fun _ _ _ _ _ => (pg_name (i := 10) sc__law_arguments.nd rfl (Or.inl rfl))) (fun _ _ _ _ _ => pts_nil) (fun _ _ _ _ _ => (pe_tup (pa_cons (pv 10) (pa_cons (pe_op op_add pe_int (pe_call G__law_draw (hr.mono (by decide)) (by rfl) F__law_draw.g F__law_draw.F.kp F__law_draw.b .nil pass0 (pa_cons (pv 0) (pa_cons (pv 3) pa_nil)))) pa_nil))))) pa_nil)))
      (pss_cons (ps_set (i := 5) sc__law_arguments.nd rfl (.inl rfl) (pe_callTy call_tuple_of (by rfl) B.n_tuple (by decide +kernel) (pa_cons (pe_lc (own := [("_law_at", 9)]) rfl sc__law_arguments.nd (pi_range1 (by rfl) B.n_range (pa_cons (pe_callB call_len_seq (by rfl) B.n_len PySem.boot_len (pa_cons (pv 4) pa_nil)) pa_nil)) (blkOk_by (N := N__law_arguments) (sc := defScope s__law_arguments) (by decide +kernel)) (fun _ _ _ _ _ => (pg_name (i := 9) sc__law_arguments.nd rfl (Or.inl rfl))) (fun _ _ _ _ _ => (pts_one (pt_cmpR op_gt (pe_call G__law_draw (hr.mono (by decide)) (by rfl) F__law_draw.g F__law_draw.F.kp F__law_draw.b .nil pass0 (pa_cons (pv 0) (pa_cons pe_int pa_nil))) pe_int (nomark _)))) (fun _ _ _ _ _ => (pv 9))) pa_nil)))
      (pss_cons (ps_set (i := 6) sc__law_arguments.nd rfl (.inl rfl) (pe_call G__law_counts (hr.mono (by decide)) (by rfl) F__law_counts.g F__law_counts.F.kp F__law_counts.b .nil pass0 (pa_cons (pe_lc (own := [("_law_label", 10), ("_law_weight", 11)]) rfl sc__law_arguments.nd (pi_tup (pv 4)) (blkOk_by (N := N__law_arguments) (sc := defScope s__law_arguments) (by decide +kernel)) (fun _ _ _ _ _ => pg_two (i := 10) (j := 11) K rfl sc__law_arguments.nd rfl rfl rfl rfl rfl) (fun _ _ _ _ _ => pts_nil) (fun _ _ _ _ _ => (pv 11))) (pa_cons (pe_call G__law_draw (hr.mono (by decide)) (by rfl) F__law_draw.g F__law_draw.F.kp F__law_draw.b .nil pass0 (pa_cons (pv 0) (pa_cons (pe_call G__law_pick (hr.mono (by decide)) (by rfl) F__law_pick.g F__law_pick.F.kp F__law_pick.b .nil pass0 (pa_cons (pv 0) (pa_cons (pe_lst (pa_cons pe_int (pa_cons pe_int (pa_cons pe_int pa_nil)))) pa_nil))) pa_nil))) pa_nil))))
      (pss_cons (ps_set (i := 7) sc__law_arguments.nd rfl (.inl rfl) (pe_disp (pps_cons pe_str (pe_tup (pa_cons (pv 4) pa_nil)) (pps_cons pe_str (pe_tup (pa_cons (pe_call G__law_word (hr.mono (by decide)) (by rfl) F__law_word.g F__law_word.F.kp F__law_word.b .nil pass0 (pa_cons (pv 0) pa_nil)) (pa_cons (pe_call G__law_word (hr.mono (by decide)) (by rfl) F__law_word.g F__law_word.F.kp F__law_word.b .nil pass0 (pa_cons (pv 0) pa_nil)) pa_nil))) (pps_cons pe_str (pe_tup (pa_cons (pv 4) (pa_cons (pv 6) pa_nil))) pps_nil))) (by rfl) (by rfl) (fun z => by cases z) (by decide)))
      (pss_cons (ps_asg (pe_tup (pa_cons (pe_tup (pa_cons (pv 4) (pa_cons (pe_call G__law_draw (hr.mono (by decide)) (by rfl) F__law_draw.g F__law_draw.F.kp F__law_draw.b .nil pass0 (pa_cons (pv 0) (pa_cons pe_int pa_nil))) pa_nil))) (pa_cons (pe_tup (pa_cons (pv 4) (pa_cons (pe_call G__law_draw (hr.mono (by decide)) (by rfl) F__law_draw.g F__law_draw.F.kp F__law_draw.b .nil pass0 (pa_cons (pv 0) (pa_cons pe_int pa_nil))) pa_nil))) pa_nil))) (pg_tup rfl (pgs_cons (pg_sub (pv 7) pe_str (set_dict (hu_of hr))) (pgs_cons (pg_sub (pv 7) pe_str (set_dict (hu_of hr))) pgs_nil))))
      (pss_cons (ps_asg (pe_tup (pa_cons (pe_tup (pa_cons (pv 4) (pa_cons (pv 5) (pa_cons (pe_call G__law_word (hr.mono (by decide)) (by rfl) F__law_word.g F__law_word.F.kp F__law_word.b .nil pass0 (pa_cons (pv 0) pa_nil)) pa_nil)))) (pa_cons (pe_tup (pa_cons (pv 4) (pa_cons (pv 5) (pa_cons (pv 6) pa_nil)))) pa_nil))) (pg_tup rfl (pgs_cons (pg_sub (pv 7) pe_str (set_dict (hu_of hr))) (pgs_cons (pg_sub (pv 7) pe_str (set_dict (hu_of hr))) pgs_nil))))
      (pss_cons (ps_set (i := 8) sc__law_arguments.nd rfl (.inl rfl) (pe_dget (hu_of hr) (pv 7) (pv 1) (fun _ _ => rfl)))
      (pss_cons (ps_for PassesOwn.never rfl (pi_range1 (by rfl) B.n_range (pa_cons (pe_callB call_len_seq (by rfl) B.n_len PySem.boot_len (pa_cons (pv 8) pa_nil)) pa_nil)) (pg_name (i := 9) sc__law_arguments.nd rfl (Or.inl rfl))
      (pss_one (ps_if (pt_cmpR op_eq (pe_call G__law_draw (hr.mono (by decide)) (by rfl) F__law_draw.g F__law_draw.F.kp F__law_draw.b .nil pass0 (pa_cons (pv 0) (pa_cons (pe_op op_add pe_int (pe_callB call_len_seq (by rfl) B.n_len PySem.boot_len (pa_cons (pv 8) pa_nil))) pa_nil))) pe_int (nomark _))
        (pss_one (ps_set (i := 8) sc__law_arguments.nd rfl (.inl rfl) (pe_op op_catA (pe_op op_catA (pe_slice sl_tupA (pv 8) po_none (po_some (pv 9))) (pe_tup (pa_cons (pe_callG G__law_any (hr.mono (by decide)) hG (by rfl) F__law_any.g F__law_any.F.kp F__law_any.b (pa_cons (pv 0) (pa_cons (pe_ix ix_tup (pv 8) (pv 9) (fun _ _ => rfl)) pa_nil))) pa_nil))) (pe_slice sl_tupA (pv 8) (po_some (pe_op op_add (pv 9) pe_int)) po_none))))
        pss_nil)))
      (pss_one (ps_ret (pv 8)))))))))))), ?_⟩
    -- labels and the greatest weight
    refine ⟨_, rfl, _, rfl, sz (Nat.le_of_ble_eq_true rfl), fun a0 h0 => ⟨p, c, _, rfl, (Gx.new dk h0).2, .inl ⟨a0, _, rfl, .new dk h0, by decide, by decide, fun r x H1 hx g1 => ?_⟩⟩⟩
    obtain ⟨many, rfl, hm⟩ : ∃ k : Nat, x = .int (k : Int) ∧ 1 ≤ k ∧ k ≤ 5 := by
      match r, hx with
      | 0, e => exact ⟨2, (Option.some.inj e).symm, by decide⟩
      | 1, e => exact ⟨3, (Option.some.inj e).symm, by decide⟩
      | 2, e => exact ⟨1, (Option.some.inj e).symm, by decide⟩
      | 3, e => exact ⟨5, (Option.some.inj e).symm, by decide⟩
    have g1 := (Gx.new dk h0).trans g1
    refine ⟨p, c, many, rfl, g1.2, by omega, fun L ls H2 _ g2 hL hll hnd hlw => ?_⟩
    have g2 := g1.trans g2
    refine ⟨_, rfl, sz (Nat.le_of_ble_eq_true rfl), fun a1 h1 => ⟨p, c, _, rfl, (Gx.new g2.2 h1).2, .inl ⟨a1, _, rfl, .new g2.2 h1, by decide, by decide, fun r x H3 hx g3 => ?_⟩⟩⟩
    obtain ⟨most, rfl, hmo⟩ : ∃ k : Nat, x = .int (k : Int) ∧ 1 ≤ k ∧ k ≤ 100 := by
      match r, hx with
      | 0, e => exact ⟨3, (Option.some.inj e).symm, by decide⟩
      | 1, e => exact ⟨10, (Option.some.inj e).symm, by decide⟩
      | 2, e => exact ⟨100, (Option.some.inj e).symm, by decide⟩
    have g23 := (Gx.new g2.2 h1).trans g3
    have hL := hL.gx g23
    have g3 := g2.trans g23
    refine ⟨sz (Nat.le_of_ble_eq_true rfl), fun t0 ht0 => ?_⟩
    have s0 := same_new (o := .tup [.ref L, .int (most : Int)]) ht0
    refine ⟨t0, _, rfl, SqT.of upd_same, rfl, _, _, rfl, _, _, rfl, rfl, ?_⟩
    have g4 := g3.trans (g3.sm s0)
    have hL := hL.sm s0
    generalize upd H3 t0 (.tup [.ref L, .int (most : Int)]) = H4 at g4 hL ⊢
    clear g1 g2 g3 g23 s0 ht0 h0 h1 hx
    -- the pool
    refine ⟨_, rfl, L, rfl, ⟨_, SqL.of hL.2.2⟩, fun D hD => ?_⟩
    have nD := g4.2.ne hD
    refine lc_allH (walk_list (K := K) (a := L) (xs := wV ls)) (fun H' => Gx p c H4 H') (fun H' j y => ∃ (T : Addr) (l : List Nat) (w : Nat), y = .ref T ∧ T ≠ D ∧ T ≠ p ∧ T ≠ c ∧ ls[j]? = some l ∧ 1 ≤ w ∧ w ≤ 100 ∧ H' T = some (.tup [.str (S l), .int ((w : Nat) : Int)])) (by rw [List.length_map]; omega) (Gx.refl g4.2) (fun H' o r => r.put g4.2 hD nD) ?_ (fun H' g => SqL.of (hL.gx g).2.2) ?_ ?_
    · rintro H' o j y ⟨T, l, w, rfl, e1, e2, e3, e4, e5, e6, e7⟩
      exact ⟨T, l, w, rfl, e1, e2, e3, e4, e5, e6, by rw [upd_ne e1]; exact e7⟩
    · rintro i x H5 H6 xs kk hi g5 h5 ⟨rfl, hx⟩ hkk
      obtain ⟨l, hl⟩ : ∃ l, ls[i]? = some l := ⟨_, List.getElem?_eq_getElem (by rw [List.length_map] at hi; exact hi)⟩
      rw [wV_get hl] at hx
      cases hx
      refine ⟨rfl, _, rfl, _, rfl, _, rfl, p, c, _, rfl, g5.2, by omega, by omega, fun z H7 hz g7 => ⟨_, _, rfl, rfl, sz (Nat.le_of_ble_eq_true rfl), fun T hT => ?_⟩⟩
      have st := same_new (o := .tup [.str (S l), .int (1 + (z : Int))]) hT
      have g8 := g7.trans (g7.sm st)
      have h8 := g8.1 _ _ nD.1 nD.2 h5
      have nT := g7.2.ne hT
      refine hkk _ _ ?_ ⟨T, l, 1 + z, rfl, ?_, nT.1, nT.2, hl, by omega, by omega, ?_⟩ (g5.trans g8) h8
      · rintro j y ⟨T, l, w, rfl, e1, e2, e3, e4, e5, e6, e7⟩
        exact ⟨T, l, w, rfl, e1, e2, e3, e4, e5, e6, g8.1 _ _ e2 e3 e7⟩
      · exact (ne_of_none (g7.1 _ _ nD.1 nD.2 h5) hT).symm
      · rw [show ((1 + z : Nat) : Int) = 1 + (z : Int) by omega]
        exact upd_same
    intro H5 xs hxl hxs g5 h5
    refine ⟨D, xs, rfl, .inl ⟨SqL.of h5, fun a ha => ?_⟩⟩
    have sa := same_new (o := .tup xs) ha
    have nA := g5.2.ne ha
    obtain ⟨ts, ps, rfl, pli, hfst, hwt, hda⟩ := mk_pool (p := p) (c := c) (H := upd H5 a (.tup xs)) (xs := xs) (ls := ls) (by rw [hxl, List.length_map]) fun i y hy => by
      obtain ⟨T, l, w, rfl, e1, e2, e3, e4, e5, e6, e7⟩ := hxs i y hy
      exact ⟨T, l, w, rfl, e2, e3, e4, e5, e6, sa _ _ e7⟩
    have hpl : ps.length = ls.length := by rw [← hfst, List.length_map]
    have po : Pool a ts ps (upd H5 a (.tup (ts.map V.ref))) := ⟨upd_same, pli, ⟨by omega, by omega, fun e he => hlw _ (by rw [← hfst]; exact List.mem_map.mpr ⟨e, he, rfl⟩), hwt, by rw [hfst]; exact hnd⟩⟩
    have hts : ∀ t ∈ ts, t ≠ p ∧ t ≠ c := fun t ht => by
      obtain ⟨i, hi⟩ := List.mem_iff_getElem?.mp ht
      obtain ⟨T, l, w, e0, e1, e2, e3, _⟩ := hxs i (.ref t) (by rw [List.getElem?_map, hi]; rfl)
      cases e0
      exact ⟨e2, e3⟩
    have g6 := (g4.trans g5).trans (g5.sm sa)
    generalize upd H5 a (.tup (ts.map V.ref)) = H6 at g6 po hda pli ⊢
    have npool : Near (poolD ps) := .pool ps (by omega) (by omega) fun e he => ⟨po.ok.wd e he, by have := hwt e he; omega⟩
    have dpool : ∀ {H'}, Gx p c H6 H' → Dg p c H' (.ref a) (poolD ps) := fun g => .tup ⟨nA.1, nA.2, (po.gxx nA hts g).at_⟩ (hda.to g.1)
    clear hL g4 g5 sa h5 hxs nD hD pli hda
    -- the lot
    refine ⟨_, rfl, a, _, rfl, .inr (SqT.of po.at_), _, rfl, Int.natCast_nonneg _, by rw [List.length_map, po.it.1]; omega, fun D hD => ?_⟩
    have nD := g6.2.ne hD
    have hmm : (((ts.map V.ref).length : Nat) : Int).toNat = ps.length := by rw [List.length_map, po.it.1]; rfl
    refine lc_it (walk_range (lo := 0) (n := (((ts.map V.ref).length : Nat) : Int).toNat)) (fun i H' => Gx p c H6 H' ∧ ∃ ns : List Nat, H' D = some (.lst (ctV ns)) ∧ ns.length ≤ i ∧ ∀ k ∈ ns, k ≤ 8) ⟨(Gx.refl g6.2).put g6.2 hD nD, [], upd_same, Nat.le_refl _, fun k h => by cases h⟩ (fun _ _ _ _ => trivial) ?_ ?_
    · rintro i x H7 H8 hi ⟨g7, ns, h7, hns, hk⟩ ⟨rfl, rfl⟩
      rw [hmm] at hi
      refine ⟨rfl, _, rfl, p, c, _, rfl, g7.2, by decide, by decide, fun z H9 hz g9 => ⟨_, _, rfl, rfl, _, rfl, ?_⟩⟩
      have g79 := g7.trans g9
      have h9 := g9.1 _ _ nD.1 nD.2 h7
      refine ite2 (fun _ => ⟨_, rfl, ctV ns, h9, ?_, g79.put g6.2 hD nD, ns ++ [i], ?_, by rw [List.length_append]; simp; omega, fun k hk' => ?_⟩) (fun _ => ⟨g79, ns, h9, by omega, hk⟩)
      · have : (ctV ns).length = ns.length := by unfold ctV; rw [List.length_map]
        rw [sizeLine_eq]
        have := po.ok.n8
        omega
      · rw [upd_same]
        unfold ctV
        rw [List.map_append]
        simp
      · rcases List.mem_append.mp hk' with h | h
        · exact hk k h
        · rw [List.mem_singleton.mp h]
          have := po.ok.n8
          omega
    rintro H7 ⟨g7, lot, h7, hlot, hlk⟩
    rw [hmm] at hlot
    refine ⟨D, _, rfl, .inl ⟨SqL.of h7, fun b hb => ?_⟩⟩
    have sb := same_new (o := .tup (ctV lot)) hb
    have nB := g7.2.ne hb
    have g8 := g7.trans (g7.sm sb)
    have hlotA : At p c (upd H7 b (.tup (ctV lot))) b (.tup (ctV lot)) := .new g7.2 hb
    generalize upd H7 b (.tup (ctV lot)) = H8 at g8 hlotA ⊢
    clear h7 sb hb g7 nD hD hmm
    have nlot : Near (.tuple (ctD lot)) := .nums lot (by have := po.ok.n8; omega) fun k hk => by have := hlk k hk; omega
    -- the counts
    have po8 := po.gxx nA hts g8
    refine ⟨_, rfl, a, rfl, ⟨_, SqT.of po8.at_⟩, fun D hD => ?_⟩
    have nD := g8.2.ne hD
    refine lc_wts po8 hD (fun _ _ => rfl) (Nat.le_of_ble_eq_true rfl) fun H9 s9 hW => ?_
    have g9 := g8.sm s9
    refine ⟨_, rfl, _, rfl, sz (Nat.le_of_ble_eq_true rfl), fun a2 h2 => ⟨p, c, _, rfl, (Gx.new g9.2 h2).2, .inl ⟨a2, _, rfl, .new g9.2 h2, by decide, by decide, fun r x H10 hx g10 => ?_⟩⟩⟩
    obtain ⟨big, rfl, hbig⟩ : ∃ k : Nat, x = .int (k : Int) ∧ 2 ≤ k ∧ k ≤ 60 := by
      match r, hx with
      | 0, e => exact ⟨9, (Option.some.inj e).symm, by decide⟩
      | 1, e => exact ⟨60, (Option.some.inj e).symm, by decide⟩
      | 2, e => exact ⟨2, (Option.some.inj e).symm, by decide⟩
    refine ⟨p, c, _, rfl, g10.2, by omega, by omega, fun z H11 hz g11 => ?_⟩
    have g911 := ((Gx.new g9.2 h2).trans g10).trans g11
    have hW := g911.1 _ _ nD.1 nD.2 hW
    refine ⟨D, ps, z, rfl, po.ok, hW, fun T ks H12 s12 hTn hT hkl hrun => ?_⟩
    have nT := g911.2.ne hTn
    have ncnt : Near (.tuple (ctD ks)) := .nums ks (by have := po.ok.n8; omega) fun k hk => by
      obtain ⟨j, hj⟩ := List.mem_iff_getElem?.mp hk
      have hlt := (List.getElem?_eq_some_iff.mp hj).1
      have := (hrun.inv po.ok.n1 po.ok.w1).sum
      have h2 := sum_mem (f := kF ks) (n := ps.length) (j := j) (by omega)
      rw [kF_at hj] at h2
      omega
    have gA := g8.trans (g9.trans g911)
    have gB := gA.trans (g911.sm s12)
    have hT : At p c H12 T (.tup (ctV ks)) := ⟨nT.1, nT.2, hT⟩
    have hlotA := hlotA.gx ((g9.trans g911).trans (g911.sm s12))
    have gall := g6.trans gB
    clear g9 g10 g11 g911 gA hW hD nD s9 h2 hx hTn nT po8 s12
    -- the dict
    have dp0 := dpool gB
    have dl0 : Dg p c H12 (.ref b) (.tuple (ctD lot)) := ct_dg hlotA
    have dc0 : Dg p c H12 (.ref T) (.tuple (ctD ks)) := ct_dg hT
    have int0 : ∀ z : Nat, Dg p c H12 (.int (z : Int)) (.int (z : Int)) := fun z => .int _
    refine fun t ht => ?_
    have nt := gall.2.ne ht
    have d0 : D7 p c t H12 (upd H12 t (.dK [])) [] := ⟨ht, nt.1, nt.2, gall.2, Gx.new gall.2 ht, upd_same⟩
    generalize upd H12 t (.dK []) = H13 at d0 ⊢
    refine ⟨_, rfl, sz (Nat.le_of_ble_eq_true rfl), fun r1 hr1 => ?_⟩
    have f4 := d0.arg (n := 4) hr1 (.cons dp0 .nil) (fun e he => by rw [List.mem_singleton.mp he]; exact npool) rfl
    have gg := Gx.new (o := .tup [.ref a]) d0.g.2 hr1
    have d1 := d0.to gg
    generalize upd H13 r1 (.tup [.ref a]) = H14 at d1 f4 ⊢
    clear gg d0
    refine ⟨_, rfl, p, c, rfl, d1.g.2, fun l1 H15 hl1 g15 => ⟨_, rfl, p, c, rfl, g15.2, fun l2 H16 hl2 g16 => ⟨sz (Nat.le_of_ble_eq_true rfl), fun r2 hr2 => ?_⟩⟩⟩
    have d2 := (d1.to g15).to g16
    have f4 := (f4.to g15).to g16
    have f6 := d2.arg (n := 6) hr2 (.cons (.str (S l1)) (.cons (.str (S l2)) .nil)) (fun e he => by
      rcases List.mem_cons.mp he with rfl | he
      · exact .word _ hl1
      · rw [List.mem_singleton.mp he]; exact .word _ hl2) rfl
    have gg := Gx.new (o := .tup [.str (S l1), .str (S l2)]) d2.g.2 hr2
    have d3 := d2.to gg
    have f4 := f4.to gg
    generalize upd H16 r2 (.tup [.str (S l1), .str (S l2)]) = H17 at d3 f4 f6 ⊢
    clear gg d1 d2 g15 g16
    refine ⟨_, rfl, _, rfl, sz (Nat.le_of_ble_eq_true rfl), fun r3 hr3 => ?_⟩
    have f0 := d3.arg (n := 0) hr3 (.cons dp0 (.cons dc0 .nil)) (fun e he => by
      rcases List.mem_cons.mp he with rfl | he
      · exact npool
      · rw [List.mem_singleton.mp he]; exact ncnt) rfl
    have gg := Gx.new (o := .tup [.ref a, .ref T]) d3.g.2 hr3
    have d4 := d3.to gg
    have f4 := f4.to gg
    have f6 := f6.to gg
    generalize upd H17 r3 (.tup [.ref a, .ref T]) = H18 at d4 f4 f6 f0 ⊢
    refine ⟨d4.at_, [(kN 4, .ref r1), (kN 6, .ref r2), (kN 0, .ref r3)], rfl, Nat.le_of_ble_eq_true rfl, ?_⟩
    rw [show mergeK [] [(kN 4, V.ref r1), (kN 6, .ref r2), (kN 0, .ref r3)] = kv3 (.ref r1) (.ref r2) (.ref r3) from rfl]
    have d5 := d4.put (kv3 (.ref r1) (.ref r2) (.ref r3))
    have f4 := f4.put (o := .dK (kv3 (.ref r1) (.ref r2) (.ref r3)))
    have f6 := f6.put (o := .dK (kv3 (.ref r1) (.ref r2) (.ref r3)))
    have f0 := f0.put (o := .dK (kv3 (.ref r1) (.ref r2) (.ref r3)))
    generalize upd H18 t (.dK (kv3 (.ref r1) (.ref r2) (.ref r3))) = H19 at d5 f4 f6 f0 ⊢
    clear gg d3 d4 hr1 hr2 hr3
    have l3 := kv3_len (.ref r1) (.ref r2) (.ref r3)
    -- turns, after
    refine ⟨_, rfl, _, rfl, p, c, _, rfl, d5.g.2, by decide, by decide, fun z1 H20 hz1 g20 => ⟨sz (Nat.le_of_ble_eq_true rfl), fun r4 hr4 => ?_⟩⟩
    have d6 := d5.to g20
    have f4 := f4.to g20
    have f6 := f6.to g20
    have f0 := f0.to g20
    have two : ∀ z : Nat, z ≤ 400 → ∀ e ∈ [poolD ps, PyData.int (z : Int)], Near e := fun z hz e he => by
      rcases List.mem_cons.mp he with rfl | he
      · exact npool
      · rw [List.mem_singleton.mp he]; exact .int z (by omega)
    have f3 := d6.arg (n := 3) hr4 (.cons dp0 (.cons (int0 z1) .nil)) (two z1 (by omega)) rfl
    have gg := Gx.new (o := .tup [.ref a, .int (z1 : Int)]) d6.g.2 hr4
    have d7 := d6.to gg
    have f4 := f4.to gg
    have f6 := f6.to gg
    have f0 := f0.to gg
    generalize upd H20 r4 (.tup [.ref a, .int (z1 : Int)]) = H21 at d7 f4 f6 f0 f3 ⊢
    clear gg d5 d6 g20
    refine ⟨_, rfl, _, rfl, p, c, _, rfl, d7.g.2, by decide, by decide, fun z2 H22 hz2 g22 => ⟨sz (Nat.le_of_ble_eq_true rfl), fun r5 hr5 => ?_⟩⟩
    have d8 := d7.to g22
    have f4 := f4.to g22
    have f6 := f6.to g22
    have f0 := f0.to g22
    have f3 := f3.to g22
    have f5 := d8.arg (n := 5) hr5 (.cons dp0 (.cons (int0 z2) .nil)) (two z2 (by omega)) rfl
    have gg := Gx.new (o := .tup [.ref a, .int (z2 : Int)]) d8.g.2 hr5
    have d9 := d8.to gg
    have f4 := f4.to gg
    have f6 := f6.to gg
    have f0 := f0.to gg
    have f3 := f3.to gg
    generalize upd H22 r5 (.tup [.ref a, .int (z2 : Int)]) = H23 at d9 f4 f6 f0 f3 f5 ⊢
    clear gg d7 d8 g22 hr4 hr5
    refine ⟨sz (Nat.le_of_ble_eq_true rfl), fun u hu => ?_⟩
    have gg := Gx.new (o := .tup [.ref r4, .ref r5]) d9.g.2 hu
    have d10 := d9.to gg
    have f4 := f4.to gg
    have f6 := f6.to gg
    have f0 := f0.to gg
    have f3 := f3.to gg
    have f5 := f5.to gg
    have hU : upd H23 u (.tup [.ref r4, .ref r5]) u = some (.tup [.ref r4, .ref r5]) := upd_same
    generalize upd H23 u (.tup [.ref r4, .ref r5]) = H24 at d10 f4 f6 f0 f3 f5 hU ⊢
    refine ⟨u, _, rfl, SqT.of hU, rfl, _, _, rfl, _, rfl, t, _, rfl, DPut.k (k := kN 3) d10.at_ (by rw [sizeLine_eq]; omega), _, _, rfl, _, rfl, t, _, rfl, DPut.k (k := kN 5) upd_same (by rw [sizeLine_eq]; have := put_lt (k := kN 3) (x := .ref r4) l3; omega), rfl, ?_⟩
    rw [upd_upd]
    have d11 := d10.put (putK (putK (kv3 (.ref r1) (.ref r2) (.ref r3)) (kN 3) (.ref r4)) (kN 5) (.ref r5))
    have f4 := f4.put (o := .dK (putK (putK (kv3 (.ref r1) (.ref r2) (.ref r3)) (kN 3) (.ref r4)) (kN 5) (.ref r5)))
    have f6 := f6.put (o := .dK (putK (putK (kv3 (.ref r1) (.ref r2) (.ref r3)) (kN 3) (.ref r4)) (kN 5) (.ref r5)))
    have f0 := f0.put (o := .dK (putK (putK (kv3 (.ref r1) (.ref r2) (.ref r3)) (kN 3) (.ref r4)) (kN 5) (.ref r5)))
    have f3 := f3.put (o := .dK (putK (putK (kv3 (.ref r1) (.ref r2) (.ref r3)) (kN 3) (.ref r4)) (kN 5) (.ref r5)))
    have f5 := f5.put (o := .dK (putK (putK (kv3 (.ref r1) (.ref r2) (.ref r3)) (kN 3) (.ref r4)) (kN 5) (.ref r5)))
    have l5 := put_lt (k := kN 5) (x := .ref r5) (put_lt (k := kN 3) (x := .ref r4) l3)
    generalize upd H24 t (.dK (putK (putK (kv3 (.ref r1) (.ref r2) (.ref r3)) (kN 3) (.ref r4)) (kN 5) (.ref r5))) = H25 at d11 f4 f6 f0 f3 f5 ⊢
    clear gg d9 d10 hU hu
    -- key, busy
    refine ⟨_, rfl, _, rfl, _, rfl, p, c, rfl, d11.g.2, fun l3' H26 hl3 g26 => ⟨sz (Nat.le_of_ble_eq_true rfl), fun r6 hr6 => ?_⟩⟩
    have d12 := d11.to g26
    have f4 := f4.to g26
    have f6 := f6.to g26
    have f0 := f0.to g26
    have f3 := f3.to g26
    have f5 := f5.to g26
    have f2 := d12.arg (n := 2) hr6 (.cons dp0 (.cons dl0 (.cons (.str (S l3')) .nil))) (fun e he => by
      rcases List.mem_cons.mp he with rfl | he
      · exact npool
      rcases List.mem_cons.mp he with rfl | he
      · exact nlot
      · rw [List.mem_singleton.mp he]; exact .word _ hl3) rfl
    have gg := Gx.new (o := .tup [.ref a, .ref b, .str (S l3')]) d12.g.2 hr6
    have d13 := d12.to gg
    have f4 := f4.to gg
    have f6 := f6.to gg
    have f0 := f0.to gg
    have f3 := f3.to gg
    have f5 := f5.to gg
    generalize upd H26 r6 (.tup [.ref a, .ref b, .str (S l3')]) = H27 at d13 f4 f6 f0 f3 f5 f2 ⊢
    clear gg d11 d12 g26
    refine ⟨_, rfl, _, rfl, _, rfl, sz (Nat.le_of_ble_eq_true rfl), fun r7 hr7 => ?_⟩
    have f1 := d13.arg (n := 1) hr7 (.cons dp0 (.cons dl0 (.cons dc0 .nil))) (fun e he => by
      rcases List.mem_cons.mp he with rfl | he
      · exact npool
      rcases List.mem_cons.mp he with rfl | he
      · exact nlot
      · rw [List.mem_singleton.mp he]; exact ncnt) rfl
    have gg := Gx.new (o := .tup [.ref a, .ref b, .ref T]) d13.g.2 hr7
    have d14 := d13.to gg
    have f4 := f4.to gg
    have f6 := f6.to gg
    have f0 := f0.to gg
    have f3 := f3.to gg
    have f5 := f5.to gg
    have f2 := f2.to gg
    generalize upd H27 r7 (.tup [.ref a, .ref b, .ref T]) = H28 at d14 f4 f6 f0 f3 f5 f2 f1 ⊢
    clear gg d13 hr6 hr7
    refine ⟨sz (Nat.le_of_ble_eq_true rfl), fun u2 hu2 => ?_⟩
    have gg := Gx.new (o := .tup [.ref r6, .ref r7]) d14.g.2 hu2
    have d15 := d14.to gg
    have f4 := f4.to gg
    have f6 := f6.to gg
    have f0 := f0.to gg
    have f3 := f3.to gg
    have f5 := f5.to gg
    have f2 := f2.to gg
    have f1 := f1.to gg
    have hU : upd H28 u2 (.tup [.ref r6, .ref r7]) u2 = some (.tup [.ref r6, .ref r7]) := upd_same
    generalize upd H28 u2 (.tup [.ref r6, .ref r7]) = H29 at d15 f4 f6 f0 f3 f5 f2 f1 hU ⊢
    refine ⟨u2, _, rfl, SqT.of hU, rfl, _, _, rfl, _, rfl, t, _, rfl, DPut.k (k := kN 2) d15.at_ (by rw [sizeLine_eq]; omega), _, _, rfl, _, rfl, t, _, rfl, DPut.k (k := kN 1) upd_same (by rw [sizeLine_eq]; have := put_lt (k := kN 2) (x := .ref r6) l5; omega), rfl, ?_⟩
    rw [upd_upd]
    have d16 := d15.put (kv7 (.ref r1) (.ref r2) (.ref r3) (.ref r4) (.ref r5) (.ref r6) (.ref r7))
    have all7 : ∃ v, valV (kv7 (.ref r1) (.ref r2) (.ref r3) (.ref r4) (.ref r5) (.ref r6) (.ref r7)) (kN n) = some v ∧ Fd p c t H12 (upd H29 t (.dK (kv7 (.ref r1) (.ref r2) (.ref r3) (.ref r4) (.ref r5) (.ref r6) (.ref r7)))) v n :=
      kv7_at (Pr := fun v n => Fd p c t H12 (upd H29 t (.dK (kv7 (.ref r1) (.ref r2) (.ref r3) (.ref r4) (.ref r5) (.ref r6) (.ref r7)))) v n) f4.put f6.put f0.put f3.put f5.put f2.put f1.put n6
    rw [show putK (putK (putK (putK (kv3 (.ref r1) (.ref r2) (.ref r3)) (kN 3) (.ref r4)) (kN 5) (.ref r5)) (kN 2) (.ref r6)) (kN 1) (.ref r7) = kv7 (.ref r1) (.ref r2) (.ref r3) (.ref r4) (.ref r5) (.ref r6) (.ref r7) from rfl]
    generalize upd H29 t (.dK (kv7 (.ref r1) (.ref r2) (.ref r3) (.ref r4) (.ref r5) (.ref r6) (.ref r7))) = H30 at d16 all7 ⊢
    clear gg d14 d15 hU hu2 f4 f6 f0 f3 f5 f2 f1
    obtain ⟨v, hv, r0, xs0, ds0, rfl, h0, _, hA0, hn0, hl0⟩ := all7
    refine ⟨_, rfl, _, rfl, t, _, rfl, dget (k := kN n) d16.at_ hv, ?_⟩
    have g30 := gall.trans d16.g
    have hA0 := hA0.to d16.g.1
    have hxl := hA0.len
    -- some of them bent
    refine ⟨_, rfl, r0, _, rfl, .inr (SqT.of h0.2.2), _, rfl, Int.natCast_nonneg _, by have := ar_le n; rw [hxl, hl0]; omega, ?_⟩
    have hmm : ((xs0.length : Nat) : Int).toNat = arity n := by rw [hxl, hl0]; rfl
    refine for_range (lo := 0) (n := ((xs0.length : Nat) : Int).toNat) (fun i σ H' => ∃ (r : Addr) (xs : List V) (ds : List PyData) (x9 : Option V), σ = [some (.ref p), some (.str (wayS n)), some (.ref L), some (.int (most : Int)), some (.ref a), some (.ref b), some (.ref T), some (.ref t), some (.ref r), x9, none, none] ∧ Gx p c H30 H' ∧ At p c H' r (.tup xs) ∧ DgA p c H' xs ds ∧ ds.length = arity n ∧ (∀ d ∈ ds, OkD d) ∧ ∀ j d, i ≤ j → ds[j]? = some d → Near d)
      ⟨r0, xs0, ds0, _, rfl, Gx.refl d16.g.2, h0, hA0, hl0, fun d hd => (hn0 d hd).ok, fun j d _ hj => hn0 d (List.mem_of_getElem? hj)⟩ ?_ ?_
    · rintro i σ H31 hi ⟨r, xs, ds, x9, rfl, g31, hr31, hA31, hl31, hok, hnr⟩
      rw [hmm] at hi
      have ha := ar_le n
      have hxl := hA31.len
      rw [Int.zero_add]
      refine ⟨_, rfl, _, rfl, r, _, rfl, .inr (SqT.of hr31.2.2), _, _, rfl, rfl, p, c, _, rfl, g31.2, by omega, by omega, fun z H32 hz g32 => ⟨rfl, _, rfl, ?_⟩⟩
      have hr32 := hr31.gx g32
      have hA32 := hA31.to g32.1
      refine ite2 (fun _ => ?_) (fun _ => ⟨r, xs, ds, _, rfl, g31.trans g32, hr32, hA32, hl31, hok, fun j d hj => hnr j d (by omega)⟩)
      refine ⟨_, rfl, _, rfl, _, rfl, ?_⟩
      dsimp only [tNoPart]
      refine sl_g g32.2.hp g32.2.hc hr32 fun a1 H33 s33 h33 => ?_
      rw [cutV_up] at h33
      have g33 := g32.sm s33
      have lt : i < xs.length := by omega
      obtain ⟨d, hd0, hd⟩ := (hA32.to g33.1).at_ (List.getElem?_eq_getElem lt)
      refine ⟨_, rfl, _, rfl, _, rfl, r, _, _, _, rfl, rfl, SqT.of (hr32.gx g33).2.2, atI_nat (List.getElem?_eq_getElem lt), p, c, _, d, rfl, g33.2, hd, hnr i d (Nat.le_refl _) hd0, fun v' d' H34 g34 hd' ok' => ⟨sz (Nat.le_of_ble_eq_true rfl), fun u hu => ?_⟩⟩
      have gu := Gx.new (o := .tup [v']) g34.2 hu
      have hU : At p c (upd H34 u (.tup [v'])) u (.tup [v']) := .new g34.2 hu
      have g35 := g34.trans gu
      have hd' := hd'.to gu.1
      generalize upd H34 u (.tup [v']) = H35 at g35 hU hd' ⊢
      refine cat_g g35.2.hp g35.2.hc (h33.gx g35) hU (by rw [List.length_take]; simp; omega) fun a2 H36 s36 h36 => ?_
      have g36 := g35.trans (g35.sm s36)
      refine ⟨_, rfl, _, rfl, _, _, rfl, rfl, _, rfl, ?_⟩
      dsimp only [tNoPart]
      refine sl_g g36.2.hp g36.2.hc ((hr32.gx g33).gx g36) fun a3 H37 s37 h37 => ?_
      rw [show ((i : Nat) : Int) + 1 = ((i + 1 : Nat) : Int) from rfl, cutV_off] at h37
      have g37 := g36.trans (g36.sm s37)
      refine cat_g g37.2.hp g37.2.hc (h36.sm s37) h37 (by rw [List.length_append, List.length_take, List.length_drop]; simp; omega) fun a4 H38 s38 h38 => ?_
      have g38 := g37.trans (g37.sm s38)
      have hdd := hd'.to ((Kp.same s36).trans ((Kp.same s37).trans (Kp.same s38)))
      have hA38 := (hA32.to g33.1).to g38.1
      refine ⟨a4, _, ds.take i ++ [d'] ++ ds.drop (i + 1), _, rfl, ((g31.trans g32).trans g33).trans g38, h38, ((hA38.take i).app (.cons hdd .nil)).app (hA38.drop (i + 1)), ?_, fun e he => ?_, fun j e hj he => ?_⟩
      · rw [List.length_append, List.length_append, List.length_take, List.length_drop, List.length_singleton]
        omega
      · rcases List.mem_append.mp he with he | he
        · rcases List.mem_append.mp he with he | he
          · exact hok e (List.mem_of_mem_take he)
          · rw [List.mem_singleton.mp he]
            exact ok'
        · exact hok e (List.mem_of_mem_drop he)
      · refine hnr j e (by omega) ?_
        rw [List.getElem?_append_right (by rw [List.length_append, List.length_take, List.length_singleton]; omega), List.getElem?_drop, List.length_append, List.length_take, List.length_singleton] at he
        rw [show i + 1 + (j - (min i ds.length + 1)) = j by omega] at he
        exact he
    · rintro σ H31 ⟨r, xs, ds, x9, rfl, g31, hr31, hA31, hl31, hok, _⟩
      exact ⟨_, rfl, q r xs ds _ (g30.trans g31) hr31 hA31 hok (shf_of n6 hl31)⟩
end
end Ag

end
/-! ## GC -/
section
set_option linter.all false
set_option maxRecDepth 100000
namespace Ag
open PySem PySem.Spec PyProof.Rows L2
section
variable {P : Program} {w : World} {K : PySem.W.Frag} {mg : Str → Option Value} {base : Heap}
/-- like okG, and the code object is told -/
theorem okGc {x qual : Str} {st : Stmt} {f : Addr} {fd : FuncData} {N ps : List Str} {k : Nat} {sp : Sp} (F : Fun K x qual st f fd) (S : FnScope N ps (defScope st))
    (len : ∀ vs H Q E, sp vs H Q E → vs.length = ps.length)
    (hbody : ∀ (A : Around) (outer : List Env) (s : Shared) (H : Hp) (vs : List V) (Q : VK) (E : XK), Room k (A.deeper (envOfC qual (defScope st) s.heap.objs.size f fd.code)) →
      (A.deeper (envOfC qual (defScope st) s.heap.objs.size f fd.code)).guards = some [] → sp vs H Q E →
      ∃ t, PSs (cxOf CX0 P w K mg base N qual (defScope st) f fd.code A outer s H E).nox (defBody st) t ∧ t { nx := fun _ H' => Q .non H', rt := Q } (start N vs) H) :
    FnG P w K mg base (k + 1) f fd ps sp := by
  obtain ⟨oc, od, kV, doc, pm, an, cdv, ct, osl, rfl, lk, hcd⟩ := F.ex
  refine ⟨len, ?_⟩
  intro A outer s H args us vs Q E hr hg env0 hb rel hsp
  have below : ∀ b o, base.get? b = some o → s.heap.get? b = some o := fun b o e => (env0.bs b o e).1
  have KX : K.In s.heap := env0.mod.kin.keeps below
  have lim : s.heap.NoLimit := env0.mod.nolimit.keeps below
  have kinds : ∀ y ∈ ps.zip us, (defScope st).names.lookup y.1 = some .local ∨ ((defScope st).names.lookup y.1 = some .cell ∧ ((cellsFrom (s.heap.objs.size + 1) (defScope st).names []).lookup y.1).isSome = true) := by
    rintro ⟨n, v⟩ hy
    exact (S.par n (List.of_mem_zip hy).1).imp id fun q => ⟨q, PySem.W.cellsFrom_some _ _ _ (.inl q)⟩
  refine codeAny_call_function hr.depth (KX f _ lk) rfl S.co S.gen rfl (PySem.W.codeRec_of KX hcd) (hb _ _ _ _ (wpAny_newFunctionEnv_cells S.kind kinds ?_))
  intro env he s1 z
  subst he
  refine ⟨lim.keeps z.toInCall.keep, codeAny_func ?_⟩
  obtain ⟨t, ht, hq⟩ := hbody A outer s H vs Q E (hr.deeper _) (g_deeper hg) hsp
  have I := inv_start (CX := CX0) (E := E) S hr.hd env0 (len vs H Q E hsp) rel z
  refine wpAny_mono (ht.nox.run [] s1 (start N vs) H _ I hq) (fun fl s' hs => ?_) (fun e s' hs => hs)
  cases fl with
  | brk => exact hs.elim fun _ z => z.elim fun _ z => z.2.elim
  | cont => exact hs.elim fun _ z => z.elim fun _ z => z.2.elim
  | next =>
    obtain ⟨σ', H', J, q⟩ := hs
    exact ⟨.non, H', J.os, J.bare, J.base, J.hok, rfl, q⟩
  | ret u =>
    obtain ⟨v, σ', H', J, rv, q⟩ := hs
    exact ⟨v, H', J.os, J.bare, J.base, J.hok, rv, q⟩
end
end Ag

end
/-! ## ExM -/
section
set_option linter.all false
set_option maxRecDepth 100000
namespace Ag
open PySem PySem.Spec PyProof.Rows L2
/-! ### the facts of some own exception classes -/
/-- what is looked up of one class -/
structure ExF (K : PySem.W.Frag) (C : Addr) : Prop where
  ga : PySem.W.findIn K (.ref C) "__getattribute__" = some (some (.builtin "BaseException.__getattribute__"))
  gg : PySem.W.findIn K (.ref C) "__getattr__" = some none
  sb : PySem.W.subIn K (.ref C) (.type "BaseException") = some true
  hd : PySem.W.hasDictIn K C = true
  no : PySem.W.findIn K (.ref C) "thing" = some none
  cl : PySem.W.findIn K (.ref C) "__class__" = some (some (.builtin "object.__class__"))
  mo : PySem.W.mroIn K C (.type "object") = some true
  ty : PySem.W.typeIn K (.ref C) = some (.type "type")
  ci : (PySem.W.clsIn K C).isSome = true
theorem kit_cls {K : PySem.W.Frag} {t : Value} {C : Addr} {b : Bool} (ty : PySem.W.typeIn K (.ref C) = some (.type "type")) (ci : (PySem.W.clsIn K C).isSome = true) (s : PySem.W.subIn K t (.ref C) = some b) : PySem.W.kitCls K t (.ref C) = some b := by
  simp [PySem.W.kitCls, ty, ci, s]
theorem kit_one {K : PySem.W.Frag} {D C : Addr} {b : Bool} (ty : PySem.W.typeIn K (.ref C) = some (.type "type")) (ci : (PySem.W.clsIn K C).isSome = true) (s : PySem.W.subIn K (.ref D) (.ref C) = some b) (r : PySem.W.subIn K (.ref C) (.ref C) = some true) : PySem.W.kitOne K (.ref D) (.ref C) = some b := by
  unfold PySem.W.kitOne
  by_cases e : D = C
  · subst e
    rw [r] at s
    rw [← Option.some.inj s]
    simp
  · rw [if_neg (by simpa using e)]
    exact kit_cls ty ci s
theorem exm_any {K : PySem.W.Frag} {t : Value} : ∀ {cs : List Addr} {bs : List Bool}, (∀ C ∈ cs, ExF K C) → (cs.map fun C => PySem.W.subIn K t (.ref C)) = bs.map some → PySem.W.exmAny K t (cs.map Value.ref) = some (bs.any id)
  | [], [], _, _ => rfl
  | [], _ :: _, _, h => by cases h
  | _ :: _, [], _, h => by cases h
  | C :: cs, b :: bs, hF, h => by
    rw [List.map_cons, List.map_cons, List.cons.injEq] at h
    have F := hF C List.mem_cons_self
    have ih := exm_any (t := t) (fun D hD => hF D (List.mem_cons_of_mem _ hD)) h.2
    have one : PySem.W.exmOne K t (.ref C) = some b := by
      unfold PySem.W.exmOne
      rw [if_pos (by rw [F.sb]; rfl)]
      exact kit_cls F.ty F.ci h.1
    rw [List.map_cons]
    unfold PySem.W.exmAny
    rw [one, ih]
    rfl
theorem exs_mk {K : PySem.W.Frag} {n : Nat} {cl : Nat → Addr} {G : Addr} (F : ∀ k, k < n → ExF K (cl k)) (h1 : PySem.W.specialIn K (.builtin "object.__class__") "__get__" = some (some (.builtin "getset_descriptor.__get__"))) (h2 : PySem.W.takesIn K (.builtin "object.__class__") = some true)
    (sub : ∀ k, k < n → ∀ j, j < n → PySem.W.subIn K (.ref (cl k)) (.ref (cl j)) = some (decide (j = k))) (gt : PySem.W.typeIn K (.ref G) = some (.type "type")) (gc : (PySem.W.clsIn K G).isSome = true) (gr : PySem.W.subIn K (.ref G) (.ref G) = some true) (gs : ∀ k, k < n → PySem.W.subIn K (.ref (cl k)) (.ref G) = some true) : Exs K n cl G where
  x k hk := ⟨(F k hk).ga, (F k hk).gg, (F k hk).sb, (F k hk).hd⟩
  c k hk := ⟨(F k hk).ga, (F k hk).gg, (F k hk).sb, (F k hk).hd, (F k hk).cl, h1, h2, (F k hk).mo⟩
  no k hk := (F k hk).no
  ex k hk := by
    have e := exm_any (K := K) (t := .ref (cl k)) (cs := (List.range n).map cl) (bs := (List.range n).map fun j => decide (j = k)) (fun C hC => by
      obtain ⟨j, hj, rfl⟩ := List.mem_map.mp hC
      exact F j (List.mem_range.mp hj)) (by
      rw [List.map_map, List.map_map]
      exact List.map_congr_left fun j hj => sub k hk j (List.mem_range.mp hj))
    rw [List.map_map] at e
    have : (((List.range n).map fun j => decide (j = k)).any id) = true := List.any_eq_true.mpr ⟨true, List.mem_map.mpr ⟨k, List.mem_range.mpr hk, decide_eq_true rfl⟩, rfl⟩
    rw [this] at e
    exact e
  is k hk j hj := kit_one (F j hj).ty (F j hj).ci (sub k hk j hj) (by rw [sub j hj j hj, decide_eq_true rfl])
  isG k hk := kit_one gt gc (gs k hk) gr
end Ag

end
/-! ## S13 -/
section
set_option linter.all false
set_option maxRecDepth 100000
set_option maxHeartbeats 8000000
namespace Ag
open PySem PySem.Spec PyProof.Rows L2
theorem h66 {k : Nat} {A : Around} (hr : Room k A) : A.units + 66 < cLine := by have := hr.un; omega
def spLaw (Pt : Addr) (K : PySem.W.Frag) : Sp := fun vs H Q _ => ∃ (a : Addr) (ns : List Int), vs = [.ref a] ∧ SqL K H a (ns.map V.int) ∧ ns.length ≤ 63 ∧ LamX.Tabs [(Pt, qLam)] H ∧ ∀ H', Q (.bl true) H'
section
variable {P : Program} {w : World} {K : PySem.W.Frag} {mg : Str → Option Value} {base : Heap} {tw tp tg : Tok}
theorem ok_law {f fd1 fd2 fd3 fd4 fd5 fd6 fd7 cA Pt G : Addr} {cl : Nat → Addr} {fd e1 e2 e3 e4 e5 e6 e7 : FuncData} (F : Fn K mg "law" s_law ["_law_script"] f fd) (B : Con mg tw tp tg) (hcode : fd.code = .ref cA) (TB : LamX.TabB base mg cA Pt)
    (Ex : Exs K 5 cl G) (g0 : mg "BadCounts" = some (.ref (cl 0))) (g1 : mg "BadLot" = some (.ref (cl 1))) (g2 : mg "BadNumber" = some (.ref (cl 2))) (g3 : mg "BadPool" = some (.ref (cl 3))) (g4 : mg "BadWord" = some (.ref (cl 4))) (gG : mg "GateError" = some (.ref G))
    (F__law_deck : Fn K mg "_law_deck" s__law_deck ["_law_script"] fd1 e1) (G__law_deck : FnOk P w K mg base CX0 1 fd1 e1 ["_law_script"] (spDeck K))
    (F__law_pick : Fn K mg "_law_pick" s__law_pick ["_law_deck_here", "_law_some"] fd2 e2) (G__law_pick : FnOk P w K mg base CX0 2 fd2 e2 ["_law_deck_here", "_law_some"] spPick)
    (F__law_arguments : Fn K mg "_law_arguments" s__law_arguments ["_law_deck_here", "_law_way"] fd3 e3) (G__law_arguments : FnG P w K mg base 5 fd3 e3 ["_law_deck_here", "_law_way"] spArgs)
    (F__law_is_beyond : Fn K mg "_law_is_beyond" s__law_is_beyond ["_law_way", "_law_args"] fd4 e4) (G__law_is_beyond : FnOk P w K mg base CX0 6 fd4 e4 ["_law_way", "_law_args"] spLBey)
    (F__law_due : Fn K mg "_law_due" s__law_due ["_law_way", "_law_args"] fd5 e5) (G__law_due : FnOk P w K mg base CX0 5 fd5 e5 ["_law_way", "_law_args"] spLDue)
    (F__law_called : Fn K mg "_law_called" s__law_called ["_law_way", "_law_args"] fd6 e6) (G__law_called : FnOk P w K mg base (L2N.CX P w) 7 fd6 e6 ["_law_way", "_law_args"] (spCalled cl))
    (F__law_tried : Fn K mg "_law_tried" s__law_tried ["_law_call"] fd7 e7) : FnG P w K mg base 10 f fd ["_law_script"] (spLaw Pt K) := by
  obtain ⟨ocg, odg, kVg, docg, pmg, ang, cdg, ctg, oslg, rfl, lkg, hcg⟩ := F__law_tried.F.ex
  refine okGc F.F sc_law (fun vs H Q E h => ?_) (fun A outer s H vs Q E hr hG h => ?_)
  · obtain ⟨a, ns, rfl, _⟩ := h
    rfl
  · obtain ⟨a, ns, rfl, hS, hl, hT, q⟩ := h
    rw [hcode] at hr hG ⊢
    refine ⟨_, (pss_cons (ps_set (i := 1) sc_law.nd rfl (.inl rfl) (pe_call G__law_deck (hr.mono (by decide)) (by rfl) F__law_deck.g F__law_deck.F.kp F__law_deck.b .nil pass0 (pa_cons (pv 0) pa_nil)))
      (pss_cons (ps_for PassesOwn.never rfl (pi_range1 (by rfl) B.n_range (pa_cons pe_int pa_nil)) (pg_name (i := 2) sc_law.nd rfl (Or.inl rfl))
      (pss_cons (ps_set (i := 3) sc_law.nd rfl (.inr rfl) (pe_call G__law_pick (hr.mono (by decide)) (by rfl) F__law_pick.g F__law_pick.F.kp F__law_pick.b .nil pass0 (pa_cons (pv 1) (pa_cons (pe_lst (pa_cons pe_str (pa_cons pe_str (pa_cons pe_str (pa_cons pe_str (pa_cons pe_str (pa_cons pe_str (pa_cons pe_str (pa_cons pe_str (pa_cons pe_str pa_nil)))))))))) pa_nil))))
        (pss_cons (ps_set (i := 4) sc_law.nd rfl (.inr rfl) (pe_callG G__law_arguments (hr.mono (by decide)) hG (by rfl) F__law_arguments.g F__law_arguments.F.kp F__law_arguments.b (pa_cons (pv 1) (pa_cons (pv 3) pa_nil))))
        (pss_one (ps_if (PW.pt (pw_and (pt_not (pt_val (pe_call G__law_is_beyond (hr.mono (by decide)) (by rfl) F__law_is_beyond.g F__law_is_beyond.F.kp F__law_is_beyond.b .nil pass0 (pa_cons (pv 3) (pa_cons (pv 4) pa_nil))))) (pw_and1 (pt_cmpR op_ne (pe_callB (call_repr_any (h66 hr) hG) (by rfl) B.n_repr (by decide +kernel) (pa_cons (pe_lamN (TT := TTried cl) (T := [(Pt, qLam)]) (k := 7) (by rfl) F__law_tried.g F__law_tried.F.kp lkg hcg F__law_tried.b sc__law_tried rfl (.inl rfl) (ok_tried B.toBlt Ex g0 g1 g2 g3 g4 gG) TB rfl (List.mem_singleton_self _) (fun y hy _ => (congrArg Prod.snd (List.mem_singleton.mp hy)).trans rfl) (hr.mono (by decide)) (LamX.lamS_by (sc := defScope s_law) (by decide +kernel)) (by rfl) (fun _ _ _ _ _ => by rfl) (fun _ _ _ _ _ _ _ hr2 => pe_call G__law_called (hr2.mono (by decide)) (by rfl) F__law_called.g F__law_called.F.kp F__law_called.b .nil (L2N.passes_call (L2N.takes_of rfl rfl rfl rfl) (fun _ _ _ _ h => h)) (pa_cons (pv 3) (pa_cons (pv 4) pa_nil)))) pa_nil)) (pe_callB (call_repr_any (h66 hr) hG) (by rfl) B.n_repr (by decide +kernel) (pa_cons (pe_call G__law_due (hr.mono (by decide)) (by rfl) F__law_due.g F__law_due.F.kp F__law_due.b .nil pass0 (pa_cons (pv 3) (pa_cons (pv 4) pa_nil))) pa_nil)) (nomark _)))))
        (pss_one (ps_ret pe_bl))
        pss_nil)))))
      (pss_one (ps_ret pe_bl)))), ?_⟩
    refine ⟨_, rfl, a, ns, rfl, hS, hl, fun p c H1 hp1 hc1 s1 dk1 => ?_⟩
    refine ⟨10, rfl, by decide, by decide, ?_⟩
    refine for_range (lo := 0) (n := (10 : Int).toNat) (fun _ σ H' => ∃ x2 x3 x4, σ = [some (.ref a), some (.ref p), x2, x3, x4] ∧ Dk p c H' ∧ LamX.Tabs [(Pt, qLam)] H') ⟨_, _, _, rfl, dk1, hT.ext s1⟩ ?_ fun σ H' _ => q H'
    rintro tn σ H2 _ ⟨x2, x3, x4, rfl, dk2, T2⟩
    refine ⟨_, rfl, sz (Nat.le_of_ble_eq_true rfl), fun l hl2 => ⟨p, c, _, rfl, (Gx.new dk2 hl2).2, .inl ⟨l, _, rfl, .new dk2 hl2, by decide, by decide, fun r x H3 hx g3 => ?_⟩⟩⟩
    obtain ⟨n, rfl, n6⟩ : ∃ n : Nat, x = .str (wayS n) ∧ n ≤ 6 := by
      match r, hx with
      | 0, e => exact ⟨0, (Option.some.inj e).symm, by decide⟩
      | 1, e => exact ⟨1, (Option.some.inj e).symm, by decide⟩
      | 2, e => exact ⟨2, (Option.some.inj e).symm, by decide⟩
      | 3, e => exact ⟨3, (Option.some.inj e).symm, by decide⟩
      | 4, e => exact ⟨4, (Option.some.inj e).symm, by decide⟩
      | 5, e => exact ⟨5, (Option.some.inj e).symm, by decide⟩
      | 6, e => exact ⟨6, (Option.some.inj e).symm, by decide⟩
      | 7, e => exact ⟨0, (Option.some.inj e).symm, by decide⟩
      | 8, e => exact ⟨1, (Option.some.inj e).symm, by decide⟩
    have g3 := (Gx.new dk2 hl2).trans g3
    refine ⟨_, rfl, _, rfl, p, c, n, rfl, n6, g3.2, fun r xs ds H4 g4 ar hA ok hs => ?_⟩
    have gt := ((Gt.refl dk2 T2).gx g3).gx g4
    have done : ∀ H', Gt p c Pt H2 H' → ∃ x2 x3 x4, ([some (.ref a), some (.ref p), some (.int (0 + (tn : Int))), some (.str (wayS n)), some (.ref r)] : L2.St) = [some (.ref a), some (.ref p), x2, x3, x4] ∧ Dk p c H' ∧ LamX.Tabs [(Pt, qLam)] H' := fun H' g => ⟨_, _, _, rfl, g.2.1, g.2.2⟩
    refine ⟨_, rfl, _, rfl, p, c, r, xs, ds, n, rfl, gt.2.1.hp, gt.2.1.hc, ar, hA, ok, hs, fun b H5 s5 => ⟨_, rfl, ?_⟩⟩
    have g5 := gt.same s5
    have ar := ar.sm s5
    have hA := hA.to (Kp.same s5)
    cases b with
    | true => exact iteF (done _ g5)
    | false =>
    refine iteT ?_
    refine lam_called (Pt := Pt) (H := H5) (Gt.refl g5.2.1 g5.2.2) rfl rfl ar hA ok hs fun v D G gG hd hdue => ?_
    have ft := (hdue.sh hA hs ok)
    have g6 := g5.trans gG
    refine ⟨_, D, p, c, rfl, hd, ft.1, ft.2.1, ft.2.2.1, ft.2.2.2, _, rfl, _, rfl, p, c, r, xs, ds, n, rfl, g6.2.1.hp, g6.2.1.hc, At.kt gG.1 ar (fun _ z => by cases z), DgA.ktr gG.1 ds xs hA, ok, hs, fun vw Dw H6 s6 hw hdw => ?_⟩
    have eD := hdw.uniq hA hs hdue
    subst eD
    refine ⟨_, Dw, p, c, rfl, hw, ft.1, ft.2.1, ft.2.2.1, ft.2.2.2, rfl, _, rfl, ?_⟩
    rw [decide_eq_true rfl]
    exact iteF (done _ (g6.same s6))
end
end Ag

end
/-! ## End0 -/
section
set_option linter.all false
set_option maxRecDepth 100000
namespace Ag
open PySem PySem.Spec PyProof.Rows L2
/-! ### the end of a law's row, over FnG -/
/-- the heap at the law's entry: the script alone is known -/
def hScr (K : PySem.W.Frag) (a : Addr) (o : Obj) (xs : List V) : Hp := fun b => if b = a ∧ K.lookup a = none then some (.frz o (.lst xs)) else none
theorem hScr_at {K : PySem.W.Frag} {a b : Addr} {o : Obj} {xs : List V} {u : HO} (h : hScr K a o xs b = some u) : b = a ∧ K.lookup a = none ∧ u = .frz o (.lst xs) := by
  unfold hScr at h
  split at h
  · rename_i c
    exact ⟨c.1, c.2, (Option.some.inj h).symm⟩
  · cases h
theorem hScr_only {K : PySem.W.Frag} {a b : Addr} {o : Obj} {xs : List V} : hScr K a o xs b = none ∨ hScr K a o xs b = some (.frz o (.lst xs)) := by
  cases h : hScr K a o xs b with
  | none => exact .inl rfl
  | some u => exact .inr (by rw [(hScr_at h).2.2])
theorem lawG {P : Program} {w : World} {K : PySem.W.Frag} {mg mb : Str → Option Value} {k : Nat} {fa a : Addr} {fd : FuncData} {x : Str} {sp : Sp} {s₁ : Shared} {vs : List Value} {ns : List Int}
    (KX : K.In s₁.heap) (hns : s₁.heap.Ns mainGlobals mg) (hb : s₁.heap.Ns builtinsNs mb) (hbb : ∀ x : Str, x ≠ "__name__" → mb x = bootBuiltins x) (hlim : s₁.heap.NoLimit) (gens : s₁.gens = #[])
    (ha : s₁.heap.get? a = some { cls := .type "list", data := .seq vs.toArray }) (hi : IntsAre vs ns) (hl : ns.length ≤ sizeLine) (hr : Room k callerA)
    (F : ∀ base : Heap, K.In base → base.Ns mainGlobals mg → FnG P w K mg base k fa fd [x] sp) (hbind : ∀ (s : Shared) (u : Value), BindsTo s fd ⟨[u], []⟩ [(x, u)])
    (hsp : ∀ H : Hp, SqL K H a (ns.map V.int) → sp [.ref a] H (fun v _ => v = .bl true) E0) :
    codeAny (model P w) callerA (.call (.ref fa) ⟨[.ref a], []⟩) (fun r s' => r = .ok (.ret (.bool true)) ∧ OldK s₁.heap s'.heap ∧ s'.os = s₁.os ∧ AllBare s'.gens) s₁ := by
  generalize hH : hScr K a { cls := .type "list", data := .seq vs.toArray } (ns.map V.int) = H
  have at_ : ∀ {b u}, H b = some u → b = a ∧ K.lookup a = none ∧ u = .frz { cls := .type "list", data := .seq vs.toArray } (.lst (ns.map V.int)) := fun h => hScr_at (by rw [hH]; exact h)
  have rv : Vals (ns.map V.int) vs := vals_ints hi
  have hok : HOk P w H s₁.heap := fun b u e => by
    obtain ⟨rfl, _, rfl⟩ := at_ e
    exact ⟨ha, by rw [List.length_map]; exact hl, vs, _, rv, ha⟩
  have sq : SqL K H a (ns.map V.int) := by
    cases hk : K.lookup a with
    | some o =>
      have e := KX a o hk
      rw [ha] at e
      cases e
      exact .inr ⟨_, vs.toArray, _, hk, rfl, rfl, rfl, by rw [List.size_toArray, hi.length]; exact hl, by simpa using rv⟩
    | none => exact .inl (.inr ⟨_, by rw [← hH]; exact if_pos ⟨rfl, hk⟩⟩)
  have keepB : ∀ {b : Addr} {o : Obj}, s₁.heap.get? b = some o → H b = none → (hidT s₁.heap H).get? b = some o := fun e n => hidT_get e n
  have dicts : ∀ {b : Addr} {o : Obj} {es : Array DictEntry} {ep : Nat}, s₁.heap.get? b = some o → o.data = .dict es ep → H b = none := by
    intro b o es ep e d
    cases q : H b with
    | none => rfl
    | some u =>
      obtain ⟨rfl, _, _⟩ := at_ q
      rw [ha] at e
      cases e
      cases d
  have nsB : ∀ {b : Addr} {m : Str → Option Value}, s₁.heap.Ns b m → (hidT s₁.heap H).Ns b m := by
    rintro b m ⟨o, es, ep, e, d, r⟩
    exact ⟨o, es, ep, keepB e (dicts e d), d, r⟩
  have kinB : K.In (hidT s₁.heap H) := by
    intro b o e
    refine keepB (KX b o e) ?_
    cases q : H b with
    | none => rfl
    | some u =>
      obtain ⟨rfl, n, _⟩ := at_ q
      rw [n] at e
      cases e
  have modB : Mod K mg (hidT s₁.heap H) := ⟨kinB, nsB hns, ⟨mb, nsB hb, hbb⟩, hlim.elim fun mc z => ⟨mc, nsB z.1, z.2⟩⟩
  have env : Env0 P w K mg (hidT s₁.heap H) callerA [] s₁ H :=
    ⟨rfl, modB, fun _ _ e => of_hidT e, Nat.le_of_eq (hidT_size s₁.heap H), trivial, (fun b z => by cases z), hok, .of_eq gens⟩
  refine codeAny_mono ((F _ kinB (nsB hns)).run callerA [] s₁ H ⟨[.ref a], []⟩ [.ref a] [.ref a] _ _ hr rfl env (hbind s₁ (.ref a)) (.cons rfl .nil) (hsp H sq)) ?_
  intro r s' h
  match r, h with
  | .error e, h => exact h.elim
  | .ok (.ret u), h =>
    obtain ⟨v, H', os, bare, un, hok', r', rfl⟩ := h
    obtain rfl : u = Value.bool true := r'
    refine ⟨rfl, OldK.of_keep fun b o e => ?_, os, bare⟩
    cases q : H b with
    | none => exact un.keep b o e q (fun z => by cases z) (fun z => by cases z)
    | some u =>
      obtain ⟨rfl, _, rfl⟩ := at_ q
      have e1 := (hok b _ q).1
      have e2 := (hok' b _ (un.frzs b _ _ q)).1
      rw [e] at e1
      rw [Option.some.inj e1]
      exact e2
theorem walkG {l : PySem.W.OpenLaw} {n k : Nat} {q : Program} {loose : List Str} {XP : (Str → Option Value) → Heap → Prop} {YP : World → Heap → Prop} {d : DefRec} {K : Params → PySem.W.Frag} {sp : PySem.W.Frag → Sp} {x : Str}
    (hn : l.most = some n) (hn2 : n ≤ sizeLine) (hdf : d.params.defaults = []) (hr : Room k callerA) (hY : ∀ (w : World) (h : Heap), YP w h → (K w.params).In h)
    (F : ∀ (w : World) (mg : Str → Option Value) (fa : Addr) (h : Heap), (K w.params).In h → h.Ns mainGlobals mg → mg d.name = some (.ref fa) →
      ∃ fd : FuncData, (∀ (s : Shared) (u : Value), BindsTo s fd ⟨[u], []⟩ [(x, u)]) ∧ ∀ base : Heap, (K w.params).In base → base.Ns mainGlobals mg → FnG l.prog w (K w.params) mg base k fa fd [x] (sp (K w.params)))
    (hsp : ∀ (K : PySem.W.Frag) (H : Hp) (a : Addr) (ns : List Int), ns.length ≤ n → SqL K H a (ns.map V.int) → sp K [.ref a] H (fun v _ => v = .bl true) E0) :
    PySem.W.WalkO q loose XP YP l.row.toRowW d [] (fun f vs => PySem.call f vs) := by
  refine Att.attach_call hn hdf ?_
  intro w s₀ s₁ mg mb fa o pm cd doc a vs ns G Y ho hd hcd hmg hobj hints hlen hg
  obtain ⟨fd, hb, hF⟩ := F w mg fa _ (hY w _ Y) G.T.g hmg
  exact lawG (hY w _ Y) G.T.g G.T.b G.T.builtins G.T.nolimit hg hobj hints (Nat.le_trans hlen hn2) hr hF hb (fun H sq => hsp _ H a ns hlen sq)
end Ag

end
/-! ## End1 -/
section
set_option linter.all false
set_option maxRecDepth 100000
namespace Ag
open PySem PySem.Spec PyProof.Rows L2
/-! ### the end of a law's row, over FnG, with a table of code objects -/
/-- the heap at the law's entry: the script and an empty table are known -/
def hScrT (K : PySem.W.Frag) (a Pt : Addr) (o : Obj) (xs : List V) : Hp := fun b => if b = Pt then some (.tbl #[]) else if b = a ∧ K.lookup a = none then some (.frz o (.lst xs)) else none
theorem hScrT_at {K : PySem.W.Frag} {a b Pt : Addr} {o : Obj} {xs : List V} {u : HO} (h : hScrT K a Pt o xs b = some u) : (b = Pt ∧ u = .tbl #[]) ∨ (b = a ∧ K.lookup a = none ∧ u = .frz o (.lst xs)) := by
  unfold hScrT at h
  split at h
  · rename_i z
    exact .inl ⟨z, (Option.some.inj h).symm⟩
  · split at h
    · rename_i z
      exact .inr ⟨z.1, z.2, (Option.some.inj h).symm⟩
    · cases h
theorem lawGT {P : Program} {w : World} {K : PySem.W.Frag} {mg mb : Str → Option Value} {k : Nat} {fa a cA Pt : Addr} {fd : FuncData} {x : Str} {sp : Sp} {s₁ : Shared} {vs : List Value} {ns : List Int}
    (KX : K.In s₁.heap) (hns : s₁.heap.Ns mainGlobals mg) (hb : s₁.heap.Ns builtinsNs mb) (hbb : ∀ x : Str, x ≠ "__name__" → mb x = bootBuiltins x) (hlim : s₁.heap.NoLimit) (gens : s₁.gens = #[])
    (hT : s₁.heap.get? Pt = some { cls := .none, data := .fields #[] }) (nT : K.lookup Pt = none) (hCd : PySem.W.codeHdIn K cA Pt = true)
    (hmod : ∃ (m : Addr) (u : Obj), mg "__builtins__" = some (.ref m) ∧ m ≠ builtinsNs ∧ s₁.heap.get? m = some u ∧ u.cls = .type "module" ∧ u.dict = some builtinsNs ∧ u.data = .plain)
    (ha : s₁.heap.get? a = some { cls := .type "list", data := .seq vs.toArray }) (hi : IntsAre vs ns) (hl : ns.length ≤ sizeLine) (hr : Room k callerA)
    (F : ∀ base : Heap, K.In base → base.Ns mainGlobals mg → LamX.TabB base mg cA Pt → FnG P w K mg base k fa fd [x] sp) (hbind : ∀ (s : Shared) (u : Value), BindsTo s fd ⟨[u], []⟩ [(x, u)])
    (hsp : ∀ H : Hp, H Pt = some (.tbl #[]) → SqL K H a (ns.map V.int) → sp [.ref a] H (fun v _ => v = .bl true) E0) :
    codeAny (model P w) callerA (.call (.ref fa) ⟨[.ref a], []⟩) (fun r s' => r = .ok (.ret (.bool true)) ∧ OldK s₁.heap s'.heap ∧ s'.os = s₁.os ∧ AllBare s'.gens) s₁ := by
  have nPa : a ≠ Pt := fun z => by rw [z, hT] at ha; cases ha
  generalize hH : hScrT K a Pt { cls := .type "list", data := .seq vs.toArray } (ns.map V.int) = H
  have at_ : ∀ {b u}, H b = some u → (b = Pt ∧ u = .tbl #[]) ∨ (b = a ∧ K.lookup a = none ∧ u = .frz { cls := .type "list", data := .seq vs.toArray } (.lst (ns.map V.int))) := fun h => hScrT_at (by rw [hH]; exact h)
  have hP : H Pt = some (.tbl #[]) := by rw [← hH]; exact if_pos rfl
  have rv : Vals (ns.map V.int) vs := vals_ints hi
  have hok : HOk P w H s₁.heap := fun b u e => by
    rcases at_ e with ⟨rfl, rfl⟩ | ⟨rfl, _, rfl⟩
    · exact hT
    · exact ⟨ha, by rw [List.length_map]; exact hl, vs, _, rv, ha⟩
  have sq : SqL K H a (ns.map V.int) := by
    cases hk : K.lookup a with
    | some o =>
      have e := KX a o hk
      rw [ha] at e
      cases e
      exact .inr ⟨_, vs.toArray, _, hk, rfl, rfl, rfl, by rw [List.size_toArray, hi.length]; exact hl, by simpa using rv⟩
    | none => exact .inl (.inr ⟨_, by rw [← hH]; exact (if_neg nPa).trans (if_pos ⟨rfl, hk⟩)⟩)
  have keepB : ∀ {b : Addr} {o : Obj}, s₁.heap.get? b = some o → H b = none → (hidT s₁.heap H).get? b = some o := fun e n => hidT_get e n
  have other : ∀ {b : Addr} {o : Obj}, s₁.heap.get? b = some o → (∀ ys n, o.data ≠ .seq ys n) → (∀ ys, o.data ≠ .fields ys) → H b = none := by
    intro b o e n1 n2
    cases q : H b with
    | none => rfl
    | some u =>
      rcases at_ q with ⟨rfl, _⟩ | ⟨rfl, _, _⟩
      · rw [hT] at e
        cases e
        exact absurd rfl (n2 _)
      · rw [ha] at e
        cases e
        exact absurd rfl (n1 _ _)
  have nsB : ∀ {b : Addr} {m : Str → Option Value}, s₁.heap.Ns b m → (hidT s₁.heap H).Ns b m := by
    rintro b m ⟨o, es, ep, e, d, r⟩
    exact ⟨o, es, ep, keepB e (other e (fun _ _ z => by rw [d] at z; cases z) fun _ z => by rw [d] at z; cases z), d, r⟩
  have kinB : K.In (hidT s₁.heap H) := by
    intro b o e
    refine keepB (KX b o e) ?_
    cases q : H b with
    | none => rfl
    | some u =>
      rcases at_ q with ⟨rfl, _⟩ | ⟨rfl, n, _⟩
      · rw [nT] at e
        cases e
      · rw [n] at e
        cases e
  have modB : Mod K mg (hidT s₁.heap H) := ⟨kinB, nsB hns, ⟨mb, nsB hb, hbb⟩, hlim.elim fun mc z => ⟨mc, nsB z.1, z.2⟩⟩
  have TB : LamX.TabB (hidT s₁.heap H) mg cA Pt := by
    obtain ⟨og, eg, pg, hog, hdg, _⟩ := hns
    refine ⟨PySem.W.codeHd_of_K kinB hCd, ?_, fun z => ?_⟩
    · obtain ⟨m, u, m1, m2, m3, m4, m5, m6⟩ := hmod
      refine ⟨m, u, m1, m2, fun z => ?_, fun z => ?_, keepB m3 (other m3 (fun _ _ z => by rw [m6] at z; cases z) fun _ z => by rw [m6] at z; cases z), m4, m5, m6⟩
      · rw [z, hog] at m3
        cases m3
        rw [hdg] at m6
        cases m6
      · rw [z, hT] at m3
        cases m3
        cases m6
    · rw [z, hT] at hog
      cases hog
      cases hdg
  have env : Env0 P w K mg (hidT s₁.heap H) callerA [] s₁ H :=
    ⟨rfl, modB, fun _ _ e => of_hidT e, Nat.le_of_eq (hidT_size s₁.heap H), trivial, (fun b z => by cases z), hok, .of_eq gens⟩
  refine codeAny_mono ((F _ kinB (nsB hns) TB).run callerA [] s₁ H ⟨[.ref a], []⟩ [.ref a] [.ref a] _ _ hr rfl env (hbind s₁ (.ref a)) (.cons rfl .nil) (hsp H hP sq)) ?_
  intro r s' h
  match r, h with
  | .error e, h => exact h.elim
  | .ok (.ret u), h =>
    obtain ⟨v, H', os, bare, un, hok', r', rfl⟩ := h
    obtain rfl : u = Value.bool true := r'
    have kept : ∀ b o, b ≠ Pt → s₁.heap.get? b = some o → s'.heap.get? b = some o := fun b o nb e => by
      cases q : H b with
      | none => exact un.keep b o e q (fun z => by cases z) (fun z => by cases z)
      | some u =>
        rcases at_ q with ⟨z, _⟩ | ⟨rfl, _, rfl⟩
        · exact absurd z nb
        · have e1 := (hok b _ q).1
          have e2 := (hok' b _ (un.frzs b _ _ q)).1
          rw [e] at e1
          rw [Option.some.inj e1]
          exact e2
    obtain ⟨more, hm⟩ : ∃ more : Array Value, s'.heap.get? Pt = some { cls := .none, data := .fields more } := by
      obtain ⟨more, z⟩ := un.tbls Pt #[] hP
      exact ⟨_, hok' Pt _ z⟩
    refine ⟨rfl, ⟨fun b o e => ?_, fun b o e => ?_⟩, os, bare⟩
    · by_cases nb : b = Pt
      · subst nb
        rw [hT] at e
        cases e
        exact .inr (.inl ⟨((PySem.W.codeHd_of_K KX hCd).tab hT).isCodeTable, rfl, #[], more, rfl, by rw [Array.empty_append]; exact hm⟩)
      · exact .inl (kept b o nb e)
    · by_cases nb : b = Pt
      · rw [nb]
        exact ⟨_, hm⟩
      · exact ⟨o, kept b o nb e⟩
/-- the def of the name x has an empty table -/
def TabOf (K : PySem.W.Frag) (mg : Str → Option Value) (x : Str) (h : Heap) : Prop := ∀ f, mg x = some (.ref f) → LamX.OwnTab K f h
theorem walkGT {l : PySem.W.OpenLaw} {n k : Nat} {q : Program} {loose : List Str} {XP : (Str → Option Value) → Heap → Prop} {YP : World → Heap → Prop} {d : DefRec} {K : Params → PySem.W.Frag} {sp : Addr → PySem.W.Frag → Sp} {x y : Str}
    (hn : l.most = some n) (hn2 : n ≤ sizeLine) (hdf : d.params.defaults = []) (hr : Room k callerA) (hrec : ((recsOf q).any fun e => e.name == y) = true) (hY : ∀ (w : World) (h : Heap), YP w h → (K w.params).In h)
    (F : ∀ (w : World) (mg : Str → Option Value) (fa : Addr) (h : Heap), (K w.params).In h → h.Ns mainGlobals mg → mg d.name = some (.ref fa) → TabOf (K w.params) mg y h →
      ∃ (fd : FuncData) (cA Pt : Addr), h.get? Pt = some { cls := .none, data := .fields #[] } ∧ (K w.params).lookup Pt = none ∧ PySem.W.codeHdIn (K w.params) cA Pt = true ∧ (∀ (s : Shared) (u : Value), BindsTo s fd ⟨[u], []⟩ [(x, u)]) ∧
        ∀ base : Heap, (K w.params).In base → base.Ns mainGlobals mg → LamX.TabB base mg cA Pt → FnG l.prog w (K w.params) mg base k fa fd [x] (sp Pt (K w.params)))
    (hsp : ∀ (Pt : Addr) (K : PySem.W.Frag) (H : Hp) (a : Addr) (ns : List Int), ns.length ≤ n → H Pt = some (.tbl #[]) → SqL K H a (ns.map V.int) → sp Pt K [.ref a] H (fun v _ => v = .bl true) E0) :
    PySem.W.WalkO q loose XP YP l.row.toRowW d [] (fun f vs => PySem.call f vs) := by
  refine Att.attach_call hn hdf ?_
  intro w s₀ s₁ mg mb fa o pm cd doc a vs ns G Y ho hd hcd hmg hobj hints hlen hg
  have KX := hY w _ Y
  have own : TabOf (K w.params) mg y s₁.heap := by
    intro f hf c1 P1 o1 fd1 e1 dd1 vs1 sl1 k1 k2 k3 k4 k5
    obtain ⟨r, hm, hn1⟩ := List.any_eq_true.mp hrec
    have hn2 : r.name = y := beq_iff_eq.mp hn1
    obtain ⟨a', o', fd', c', P', h1, h2, h3, h4, h5, h6⟩ := G.T.tab r hm
    rw [hn2, hf] at h1
    cases h1
    rw [KX _ _ k1] at h2
    cases h2
    rw [k2] at h3
    cases h3
    rw [k3] at h4
    cases h4
    obtain ⟨⟨oc, vc, z1, _, z3, z4⟩, hP⟩ := h6
    rw [KX _ _ k4] at z1
    cases z1
    cases z3
    rw [k5] at z4
    cases z4
    exact hP
  obtain ⟨fd, cA, Pt, hT, nT, hC, hb, hF⟩ := F w mg fa _ KX G.T.g hmg own
  exact lawGT KX G.T.g G.T.b G.T.builtins G.T.nolimit hg hT nT hC G.T.bmain hobj hints (Nat.le_trans hlen hn2) hr hF hb (fun H hH sq => hsp Pt _ H a ns hlen hH sq)
end Ag

end
/-! ## E -/
section
set_option linter.all false
set_option maxRecDepth 100000
namespace Ag
open PySem PySem.Spec PyProof.Rows L2
theorem vals_app : ∀ {a : List V} {b : List Value} {c : List V} {d : List Value}, Vals a b → Vals c d → Vals (a ++ c) (b ++ d)
  | [], [], _, _, _, h => h
  | _ :: _, _ :: _, _, _, .cons h t, k => .cons h (vals_app t k)
theorem vals_rev : ∀ {a : List V} {b : List Value}, Vals a b → Vals a.reverse b.reverse
  | [], [], _ => .nil
  | _ :: _, _ :: _, .cons h t => by
    rw [List.reverse_cons, List.reverse_cons]
    exact vals_app (vals_rev t) (.cons h .nil)
theorem exm_self {K : PySem.W.Frag} {C : Addr} {cd : ClassData} (h1 : PySem.W.subIn K (.ref C) (.type "BaseException") = some true) (h2 : PySem.W.clsIn K C = some cd) (h3 : PySem.W.typeIn K (.ref C) = some (.type "type")) (h4 : PySem.W.subIn K (.ref C) (.ref C) = some true) :
    PySem.W.exmOne K (.ref C) (.ref C) = some true := by
  simp [PySem.W.exmOne, PySem.W.kitCls, h1, h2, h3, h4]

/-- what a code object's fields must tell -/
def codeB (vs : Array Value) (c P : Addr) : Bool := (match (vs[11]? : Option Value) with | some (.ref P') => P' == P | _ => false) && ((match vs.getD 18 .none with | .str _ _ => true | _ => false) && ((match vs.getD 7 .none with | .int _ _ => true | _ => false) &&
  ((match vs.getD 9 .none with | .bool _ => true | _ => false) && ((match vs.getD 10 .none with | .int _ _ => true | _ => false) && c != P))))
theorem codeB_in {K : PySem.W.Frag} {c P : Addr} {d : Option Addr} {vs : Array Value} {sl : Array (Option Value)} (h : K.lookup c = some ⟨.type "code", d, .fields vs, sl⟩) (hb : codeB vs c P = true) : PySem.W.codeHdIn K c P = true := by
  unfold PySem.W.codeHdIn
  rw [h]
  unfold codeB at hb
  simp only [Bool.and_eq_true] at hb ⊢
  obtain ⟨b1, b2, b3, b4, b5, b6⟩ := hb
  exact ⟨⟨⟨⟨⟨b1, b2⟩, b3⟩, b4⟩, b5⟩, b6⟩
set_option maxHeartbeats 4000000 in
theorem all_mk {l : PySem.W.OpenLaw} {w : World} {K : PySem.W.Frag} {h : Heap} {mg : Str → Option Value} {fa f0 f1 f2 f3 f4 f5 f6 f7 f8 f9 f10 f11 f12 f13 f14 f15 f16 f17 f18 f19 f20 f21 f22 f23 f24 f25 f26 f27 f28 f29 f30 f31 f32 f33 f34 f35 f36 f37 f38 f39 f40 f41 : Addr} (X : K.In h) (G : h.Ns mainGlobals mg) (hfa : mg "law" = some (.ref fa)) (own : TabOf K mg "law" h)
    {od0 an0 od1 an1 od2 an2 od3 an3 od4 an4 od5 an5 od6 an6 od7 an7 od8 an8 od9 an9 od10 an10 od11 an11 od12 an12 od13 an13 od14 an14 od15 an15 od16 an16 od17 an17 od18 an18 od19 an19 od20 an20 od21 an21 od22 an22 od23 an23 od24 an24 od25 an25 od26 an26 od27 an27 od28 an28 od29 an29 od30 an30 od31 an31 od32 an32 od33 an33 od34 an34 od35 an35 od36 an36 od37 an37 od38 an38 od39 an39 od40 an40 od41 an41 : Option Addr} {sl0 sl1 sl2 sl3 sl4 sl5 sl6 sl7 sl8 sl9 sl10 sl11 sl12 sl13 sl14 sl15 sl16 sl17 sl18 sl19 sl20 sl21 sl22 sl23 sl24 sl25 sl26 sl27 sl28 sl29 sl30 sl31 sl32 sl33 sl34 sl35 sl36 sl37 sl38 sl39 sl40 sl41 : Array (Option Value)} {oc0 kV0 dc0 pm0 ct0 cd0 oc1 kV1 dc1 pm1 ct1 cd1 oc2 kV2 dc2 pm2 ct2 cd2 oc3 kV3 dc3 pm3 ct3 cd3 oc4 kV4 dc4 pm4 ct4 cd4 oc5 kV5 dc5 pm5 ct5 cd5 oc6 kV6 dc6 pm6 ct6 cd6 oc7 kV7 dc7 pm7 ct7 cd7 oc8 kV8 dc8 pm8 ct8 cd8 oc9 kV9 dc9 pm9 ct9 cd9 oc10 kV10 dc10 pm10 ct10 cd10 oc11 kV11 dc11 pm11 ct11 cd11 oc12 kV12 dc12 pm12 ct12 cd12 oc13 kV13 dc13 pm13 ct13 cd13 oc14 kV14 dc14 pm14 ct14 cd14 oc15 kV15 dc15 pm15 ct15 cd15 oc16 kV16 dc16 pm16 ct16 cd16 oc17 kV17 dc17 pm17 ct17 cd17 oc18 kV18 dc18 pm18 ct18 cd18 oc19 kV19 dc19 pm19 ct19 cd19 oc20 kV20 dc20 pm20 ct20 cd20 oc21 kV21 dc21 pm21 ct21 cd21 oc22 kV22 dc22 pm22 ct22 cd22 oc23 kV23 dc23 pm23 ct23 cd23 oc24 kV24 dc24 pm24 ct24 cd24 oc25 kV25 dc25 pm25 ct25 cd25 oc26 kV26 dc26 pm26 ct26 cd26 oc27 kV27 dc27 pm27 ct27 cd27 oc28 kV28 dc28 pm28 ct28 cd28 oc29 kV29 dc29 pm29 ct29 cd29 oc30 kV30 dc30 pm30 ct30 cd30 oc31 kV31 dc31 pm31 ct31 cd31 oc32 kV32 dc32 pm32 ct32 cd32 oc33 kV33 dc33 pm33 ct33 cd33 oc34 kV34 dc34 pm34 ct34 cd34 oc35 kV35 dc35 pm35 ct35 cd35 oc36 kV36 dc36 pm36 ct36 cd36 oc37 kV37 dc37 pm37 ct37 cd37 oc38 kV38 dc38 pm38 ct38 cd38 oc39 kV39 dc39 pm39 ct39 cd39 oc40 kV40 dc40 pm40 ct40 cd40 oc41 kV41 dc41 pm41 ct41 : Value} {tk0 tk1 tk2 tk3 tk4 tk5 tk6 : Tok} {cA : Addr}
    (a0 : PySem.W.nsIn K mainGlobals "is_integer" = some (some (.ref f0))) (l0 : K.lookup f0 = some ⟨oc0, od0, .func (PySem.W.fnOf "is_integer" "is_integer" (defArgs s_is_integer) (defBody s_is_integer) (defScope s_is_integer) .none kV0 dc0 pm0 an0 cd0 ct0), sl0⟩) (c0 : PySem.W.codeIn K cd0 "is_integer" = true) (k0 : PySem.W.keepIn K (.ref f0) = true)
    (a1 : PySem.W.nsIn K mainGlobals "is_word" = some (some (.ref f1))) (l1 : K.lookup f1 = some ⟨oc1, od1, .func (PySem.W.fnOf "is_word" "is_word" (defArgs s_is_word) (defBody s_is_word) (defScope s_is_word) .none kV1 dc1 pm1 an1 cd1 ct1), sl1⟩) (c1 : PySem.W.codeIn K cd1 "is_word" = true) (k1 : PySem.W.keepIn K (.ref f1) = true)
    (a2 : PySem.W.nsIn K mainGlobals "is_pool" = some (some (.ref f2))) (l2 : K.lookup f2 = some ⟨oc2, od2, .func (PySem.W.fnOf "is_pool" "is_pool" (defArgs s_is_pool) (defBody s_is_pool) (defScope s_is_pool) .none kV2 dc2 pm2 an2 cd2 ct2), sl2⟩) (c2 : PySem.W.codeIn K cd2 "is_pool" = true) (k2 : PySem.W.keepIn K (.ref f2) = true)
    (a3 : PySem.W.nsIn K mainGlobals "is_share" = some (some (.ref f3))) (l3 : K.lookup f3 = some ⟨oc3, od3, .func (PySem.W.fnOf "is_share" "is_share" (defArgs s_is_share) (defBody s_is_share) (defScope s_is_share) .none kV3 dc3 pm3 an3 cd3 ct3), sl3⟩) (c3 : PySem.W.codeIn K cd3 "is_share" = true) (k3 : PySem.W.keepIn K (.ref f3) = true)
    (a4 : PySem.W.nsIn K mainGlobals "is_lot" = some (some (.ref f4))) (l4 : K.lookup f4 = some ⟨oc4, od4, .func (PySem.W.fnOf "is_lot" "is_lot" (defArgs s_is_lot) (defBody s_is_lot) (defScope s_is_lot) .none kV4 dc4 pm4 an4 cd4 ct4), sl4⟩) (c4 : PySem.W.codeIn K cd4 "is_lot" = true) (k4 : PySem.W.keepIn K (.ref f4) = true)
    (a5 : PySem.W.nsIn K mainGlobals "are_loads" = some (some (.ref f5))) (l5 : K.lookup f5 = some ⟨oc5, od5, .func (PySem.W.fnOf "are_loads" "are_loads" (defArgs s_are_loads) (defBody s_are_loads) (defScope s_are_loads) .none kV5 dc5 pm5 an5 cd5 ct5), sl5⟩) (c5 : PySem.W.codeIn K cd5 "are_loads" = true) (k5 : PySem.W.keepIn K (.ref f5) = true)
    (a6 : PySem.W.nsIn K mainGlobals "are_counts" = some (some (.ref f6))) (l6 : K.lookup f6 = some ⟨oc6, od6, .func (PySem.W.fnOf "are_counts" "are_counts" (defArgs s_are_counts) (defBody s_are_counts) (defScope s_are_counts) .none kV6 dc6 pm6 an6 cd6 ct6), sl6⟩) (c6 : PySem.W.codeIn K cd6 "are_counts" = true) (k6 : PySem.W.keepIn K (.ref f6) = true)
    (a7 : PySem.W.nsIn K mainGlobals "weight_sum" = some (some (.ref f7))) (l7 : K.lookup f7 = some ⟨oc7, od7, .func (PySem.W.fnOf "weight_sum" "weight_sum" (defArgs s_weight_sum) (defBody s_weight_sum) (defScope s_weight_sum) .none kV7 dc7 pm7 an7 cd7 ct7), sl7⟩) (c7 : PySem.W.codeIn K cd7 "weight_sum" = true) (k7 : PySem.W.keepIn K (.ref f7) = true)
    (a8 : PySem.W.nsIn K mainGlobals "turn_after" = some (some (.ref f8))) (l8 : K.lookup f8 = some ⟨oc8, od8, .func (PySem.W.fnOf "turn_after" "turn_after" (defArgs s_turn_after) (defBody s_turn_after) (defScope s_turn_after) .none kV8 dc8 pm8 an8 cd8 ct8), sl8⟩) (c8 : PySem.W.codeIn K cd8 "turn_after" = true) (k8 : PySem.W.keepIn K (.ref f8) = true)
    (a9 : PySem.W.nsIn K mainGlobals "first_turns" = some (some (.ref f9))) (l9 : K.lookup f9 = some ⟨oc9, od9, .func (PySem.W.fnOf "first_turns" "first_turns" (defArgs s_first_turns) (defBody s_first_turns) (defScope s_first_turns) .none kV9 dc9 pm9 an9 cd9 ct9), sl9⟩) (c9 : PySem.W.codeIn K cd9 "first_turns" = true) (k9 : PySem.W.keepIn K (.ref f9) = true)
    (a10 : PySem.W.nsIn K mainGlobals "counts_from_start" = some (some (.ref f10))) (l10 : K.lookup f10 = some ⟨oc10, od10, .func (PySem.W.fnOf "counts_from_start" "counts_from_start" (defArgs s_counts_from_start) (defBody s_counts_from_start) (defScope s_counts_from_start) .none kV10 dc10 pm10 an10 cd10 ct10), sl10⟩) (c10 : PySem.W.codeIn K cd10 "counts_from_start" = true) (k10 : PySem.W.keepIn K (.ref f10) = true)
    (a11 : PySem.W.nsIn K mainGlobals "next_turn" = some (some (.ref f11))) (l11 : K.lookup f11 = some ⟨oc11, od11, .func (PySem.W.fnOf "next_turn" "next_turn" (defArgs s_next_turn) (defBody s_next_turn) (defScope s_next_turn) .none kV11 dc11 pm11 an11 cd11 ct11), sl11⟩) (c11 : PySem.W.codeIn K cd11 "next_turn" = true) (k11 : PySem.W.keepIn K (.ref f11) = true)
    (a12 : PySem.W.nsIn K mainGlobals "turns" = some (some (.ref f12))) (l12 : K.lookup f12 = some ⟨oc12, od12, .func (PySem.W.fnOf "turns" "turns" (defArgs s_turns) (defBody s_turns) (defScope s_turns) .none kV12 dc12 pm12 an12 cd12 ct12), sl12⟩) (c12 : PySem.W.codeIn K cd12 "turns" = true) (k12 : PySem.W.keepIn K (.ref f12) = true)
    (a13 : PySem.W.nsIn K mainGlobals "counts_after" = some (some (.ref f13))) (l13 : K.lookup f13 = some ⟨oc13, od13, .func (PySem.W.fnOf "counts_after" "counts_after" (defArgs s_counts_after) (defBody s_counts_after) (defScope s_counts_after) .none kV13 dc13 pm13 an13 cd13 ct13), sl13⟩) (c13 : PySem.W.codeIn K cd13 "counts_after" = true) (k13 : PySem.W.keepIn K (.ref f13) = true)
    (a14 : PySem.W.nsIn K mainGlobals "least_busy" = some (some (.ref f14))) (l14 : K.lookup f14 = some ⟨oc14, od14, .func (PySem.W.fnOf "least_busy" "least_busy" (defArgs s_least_busy) (defBody s_least_busy) (defScope s_least_busy) .none kV14 dc14 pm14 an14 cd14 ct14), sl14⟩) (c14 : PySem.W.codeIn K cd14 "least_busy" = true) (k14 : PySem.W.keepIn K (.ref f14) = true)
    (a15 : PySem.W.nsIn K mainGlobals "by_key" = some (some (.ref f15))) (l15 : K.lookup f15 = some ⟨oc15, od15, .func (PySem.W.fnOf "by_key" "by_key" (defArgs s_by_key) (defBody s_by_key) (defScope s_by_key) .none kV15 dc15 pm15 an15 cd15 ct15), sl15⟩) (c15 : PySem.W.codeIn K cd15 "by_key" = true) (k15 : PySem.W.keepIn K (.ref f15) = true)
    (a16 : PySem.W.nsIn K mainGlobals "check_lot" = some (some (.ref f16))) (l16 : K.lookup f16 = some ⟨oc16, od16, .func (PySem.W.fnOf "check_lot" "check_lot" (defArgs s_check_lot) (defBody s_check_lot) (defScope s_check_lot) .none kV16 dc16 pm16 an16 cd16 ct16), sl16⟩) (c16 : PySem.W.codeIn K cd16 "check_lot" = true) (k16 : PySem.W.keepIn K (.ref f16) = true)
    (a17 : PySem.W.nsIn K mainGlobals "score" = some (some (.ref f17))) (l17 : K.lookup f17 = some ⟨oc17, od17, .func (PySem.W.fnOf "score" "score" (defArgs s_score) (defBody s_score) (defScope s_score) .none kV17 dc17 pm17 an17 cd17 ct17), sl17⟩) (c17 : PySem.W.codeIn K cd17 "score" = true) (k17 : PySem.W.keepIn K (.ref f17) = true)
    (a18 : PySem.W.nsIn K mainGlobals "_law_deck" = some (some (.ref f18))) (l18 : K.lookup f18 = some ⟨oc18, od18, .func (PySem.W.fnOf "_law_deck" "_law_deck" (defArgs s__law_deck) (defBody s__law_deck) (defScope s__law_deck) .none kV18 dc18 pm18 an18 cd18 ct18), sl18⟩) (c18 : PySem.W.codeIn K cd18 "_law_deck" = true) (k18 : PySem.W.keepIn K (.ref f18) = true)
    (a19 : PySem.W.nsIn K mainGlobals "_law_draw" = some (some (.ref f19))) (l19 : K.lookup f19 = some ⟨oc19, od19, .func (PySem.W.fnOf "_law_draw" "_law_draw" (defArgs s__law_draw) (defBody s__law_draw) (defScope s__law_draw) .none kV19 dc19 pm19 an19 cd19 ct19), sl19⟩) (c19 : PySem.W.codeIn K cd19 "_law_draw" = true) (k19 : PySem.W.keepIn K (.ref f19) = true)
    (a20 : PySem.W.nsIn K mainGlobals "_law_pick" = some (some (.ref f20))) (l20 : K.lookup f20 = some ⟨oc20, od20, .func (PySem.W.fnOf "_law_pick" "_law_pick" (defArgs s__law_pick) (defBody s__law_pick) (defScope s__law_pick) .none kV20 dc20 pm20 an20 cd20 ct20), sl20⟩) (c20 : PySem.W.codeIn K cd20 "_law_pick" = true) (k20 : PySem.W.keepIn K (.ref f20) = true)
    (a21 : PySem.W.nsIn K mainGlobals "_law_is_int" = some (some (.ref f21))) (l21 : K.lookup f21 = some ⟨oc21, od21, .func (PySem.W.fnOf "_law_is_int" "_law_is_int" (defArgs s__law_is_int) (defBody s__law_is_int) (defScope s__law_is_int) .none kV21 dc21 pm21 an21 cd21 ct21), sl21⟩) (c21 : PySem.W.codeIn K cd21 "_law_is_int" = true) (k21 : PySem.W.keepIn K (.ref f21) = true)
    (a22 : PySem.W.nsIn K mainGlobals "_law_is_tuple" = some (some (.ref f22))) (l22 : K.lookup f22 = some ⟨oc22, od22, .func (PySem.W.fnOf "_law_is_tuple" "_law_is_tuple" (defArgs s__law_is_tuple) (defBody s__law_is_tuple) (defScope s__law_is_tuple) .none kV22 dc22 pm22 an22 cd22 ct22), sl22⟩) (c22 : PySem.W.codeIn K cd22 "_law_is_tuple" = true) (k22 : PySem.W.keepIn K (.ref f22) = true)
    (a23 : PySem.W.nsIn K mainGlobals "_law_is_word" = some (some (.ref f23))) (l23 : K.lookup f23 = some ⟨oc23, od23, .func (PySem.W.fnOf "_law_is_word" "_law_is_word" (defArgs s__law_is_word) (defBody s__law_is_word) (defScope s__law_is_word) .none kV23 dc23 pm23 an23 cd23 ct23), sl23⟩) (c23 : PySem.W.codeIn K cd23 "_law_is_word" = true) (k23 : PySem.W.keepIn K (.ref f23) = true)
    (a24 : PySem.W.nsIn K mainGlobals "_law_is_pool" = some (some (.ref f24))) (l24 : K.lookup f24 = some ⟨oc24, od24, .func (PySem.W.fnOf "_law_is_pool" "_law_is_pool" (defArgs s__law_is_pool) (defBody s__law_is_pool) (defScope s__law_is_pool) .none kV24 dc24 pm24 an24 cd24 ct24), sl24⟩) (c24 : PySem.W.codeIn K cd24 "_law_is_pool" = true) (k24 : PySem.W.keepIn K (.ref f24) = true)
    (a25 : PySem.W.nsIn K mainGlobals "_law_is_lot" = some (some (.ref f25))) (l25 : K.lookup f25 = some ⟨oc25, od25, .func (PySem.W.fnOf "_law_is_lot" "_law_is_lot" (defArgs s__law_is_lot) (defBody s__law_is_lot) (defScope s__law_is_lot) .none kV25 dc25 pm25 an25 cd25 ct25), sl25⟩) (c25 : PySem.W.codeIn K cd25 "_law_is_lot" = true) (k25 : PySem.W.keepIn K (.ref f25) = true)
    (a26 : PySem.W.nsIn K mainGlobals "_law_next" = some (some (.ref f26))) (l26 : K.lookup f26 = some ⟨oc26, od26, .func (PySem.W.fnOf "_law_next" "_law_next" (defArgs s__law_next) (defBody s__law_next) (defScope s__law_next) .none kV26 dc26 pm26 an26 cd26 ct26), sl26⟩) (c26 : PySem.W.codeIn K cd26 "_law_next" = true) (k26 : PySem.W.keepIn K (.ref f26) = true)
    (a27 : PySem.W.nsIn K mainGlobals "_law_counts" = some (some (.ref f27))) (l27 : K.lookup f27 = some ⟨oc27, od27, .func (PySem.W.fnOf "_law_counts" "_law_counts" (defArgs s__law_counts) (defBody s__law_counts) (defScope s__law_counts) .none kV27 dc27 pm27 an27 cd27 ct27), sl27⟩) (c27 : PySem.W.codeIn K cd27 "_law_counts" = true) (k27 : PySem.W.keepIn K (.ref f27) = true)
    (a28 : PySem.W.nsIn K mainGlobals "_law_score" = some (some (.ref f28))) (l28 : K.lookup f28 = some ⟨oc28, od28, .func (PySem.W.fnOf "_law_score" "_law_score" (defArgs s__law_score) (defBody s__law_score) (defScope s__law_score) .none kV28 dc28 pm28 an28 cd28 ct28), sl28⟩) (c28 : PySem.W.codeIn K cd28 "_law_score" = true) (k28 : PySem.W.keepIn K (.ref f28) = true)
    (a29 : PySem.W.nsIn K mainGlobals "_law_by_key" = some (some (.ref f29))) (l29 : K.lookup f29 = some ⟨oc29, od29, .func (PySem.W.fnOf "_law_by_key" "_law_by_key" (defArgs s__law_by_key) (defBody s__law_by_key) (defScope s__law_by_key) .none kV29 dc29 pm29 an29 cd29 ct29), sl29⟩) (c29 : PySem.W.codeIn K cd29 "_law_by_key" = true) (k29 : PySem.W.keepIn K (.ref f29) = true)
    (a30 : PySem.W.nsIn K mainGlobals "_law_least_busy" = some (some (.ref f30))) (l30 : K.lookup f30 = some ⟨oc30, od30, .func (PySem.W.fnOf "_law_least_busy" "_law_least_busy" (defArgs s__law_least_busy) (defBody s__law_least_busy) (defScope s__law_least_busy) .none kV30 dc30 pm30 an30 cd30 ct30), sl30⟩) (c30 : PySem.W.codeIn K cd30 "_law_least_busy" = true) (k30 : PySem.W.keepIn K (.ref f30) = true)
    (a31 : PySem.W.nsIn K mainGlobals "_law_word" = some (some (.ref f31))) (l31 : K.lookup f31 = some ⟨oc31, od31, .func (PySem.W.fnOf "_law_word" "_law_word" (defArgs s__law_word) (defBody s__law_word) (defScope s__law_word) .none kV31 dc31 pm31 an31 cd31 ct31), sl31⟩) (c31 : PySem.W.codeIn K cd31 "_law_word" = true) (k31 : PySem.W.keepIn K (.ref f31) = true)
    (a32 : PySem.W.nsIn K mainGlobals "_law_words" = some (some (.ref f32))) (l32 : K.lookup f32 = some ⟨oc32, od32, .func (PySem.W.fnOf "_law_words" "_law_words" (defArgs s__law_words) (defBody s__law_words) (defScope s__law_words) .none kV32 dc32 pm32 an32 cd32 ct32), sl32⟩) (c32 : PySem.W.codeIn K cd32 "_law_words" = true) (k32 : PySem.W.keepIn K (.ref f32) = true)
    (a33 : PySem.W.nsIn K mainGlobals "_law_tried" = some (some (.ref f33))) (l33 : K.lookup f33 = some ⟨oc33, od33, .func (PySem.W.fnOf "_law_tried" "_law_tried" (defArgs s__law_tried) (defBody s__law_tried) (defScope s__law_tried) .none kV33 dc33 pm33 an33 cd33 ct33), sl33⟩) (c33 : PySem.W.codeIn K cd33 "_law_tried" = true) (k33 : PySem.W.keepIn K (.ref f33) = true)
    (a34 : PySem.W.nsIn K mainGlobals "_law_any" = some (some (.ref f34))) (l34 : K.lookup f34 = some ⟨oc34, od34, .func (PySem.W.fnOf "_law_any" "_law_any" (defArgs s__law_any) (defBody s__law_any) (defScope s__law_any) .none kV34 dc34 pm34 an34 cd34 ct34), sl34⟩) (c34 : PySem.W.codeIn K cd34 "_law_any" = true) (k34 : PySem.W.keepIn K (.ref f34) = true)
    (a35 : PySem.W.nsIn K mainGlobals "_law_are_counts" = some (some (.ref f35))) (l35 : K.lookup f35 = some ⟨oc35, od35, .func (PySem.W.fnOf "_law_are_counts" "_law_are_counts" (defArgs s__law_are_counts) (defBody s__law_are_counts) (defScope s__law_are_counts) .none kV35 dc35 pm35 an35 cd35 ct35), sl35⟩) (c35 : PySem.W.codeIn K cd35 "_law_are_counts" = true) (k35 : PySem.W.keepIn K (.ref f35) = true)
    (a36 : PySem.W.nsIn K mainGlobals "_law_after_pool" = some (some (.ref f36))) (l36 : K.lookup f36 = some ⟨oc36, od36, .func (PySem.W.fnOf "_law_after_pool" "_law_after_pool" (defArgs s__law_after_pool) (defBody s__law_after_pool) (defScope s__law_after_pool) .none kV36 dc36 pm36 an36 cd36 ct36), sl36⟩) (c36 : PySem.W.codeIn K cd36 "_law_after_pool" = true) (k36 : PySem.W.keepIn K (.ref f36) = true)
    (a37 : PySem.W.nsIn K mainGlobals "_law_due" = some (some (.ref f37))) (l37 : K.lookup f37 = some ⟨oc37, od37, .func (PySem.W.fnOf "_law_due" "_law_due" (defArgs s__law_due) (defBody s__law_due) (defScope s__law_due) .none kV37 dc37 pm37 an37 cd37 ct37), sl37⟩) (c37 : PySem.W.codeIn K cd37 "_law_due" = true) (k37 : PySem.W.keepIn K (.ref f37) = true)
    (a38 : PySem.W.nsIn K mainGlobals "_law_called" = some (some (.ref f38))) (l38 : K.lookup f38 = some ⟨oc38, od38, .func (PySem.W.fnOf "_law_called" "_law_called" (defArgs s__law_called) (defBody s__law_called) (defScope s__law_called) .none kV38 dc38 pm38 an38 cd38 ct38), sl38⟩) (c38 : PySem.W.codeIn K cd38 "_law_called" = true) (k38 : PySem.W.keepIn K (.ref f38) = true)
    (a39 : PySem.W.nsIn K mainGlobals "_law_is_beyond" = some (some (.ref f39))) (l39 : K.lookup f39 = some ⟨oc39, od39, .func (PySem.W.fnOf "_law_is_beyond" "_law_is_beyond" (defArgs s__law_is_beyond) (defBody s__law_is_beyond) (defScope s__law_is_beyond) .none kV39 dc39 pm39 an39 cd39 ct39), sl39⟩) (c39 : PySem.W.codeIn K cd39 "_law_is_beyond" = true) (k39 : PySem.W.keepIn K (.ref f39) = true)
    (a40 : PySem.W.nsIn K mainGlobals "_law_arguments" = some (some (.ref f40))) (l40 : K.lookup f40 = some ⟨oc40, od40, .func (PySem.W.fnOf "_law_arguments" "_law_arguments" (defArgs s__law_arguments) (defBody s__law_arguments) (defScope s__law_arguments) .none kV40 dc40 pm40 an40 cd40 ct40), sl40⟩) (c40 : PySem.W.codeIn K cd40 "_law_arguments" = true) (k40 : PySem.W.keepIn K (.ref f40) = true)
    (a41 : PySem.W.nsIn K mainGlobals "law" = some (some (.ref f41))) (l41 : K.lookup f41 = some ⟨oc41, od41, .func (PySem.W.fnOf "law" "law" (defArgs s_law) (defBody s_law) (defScope s_law) .none kV41 dc41 pm41 an41 (.ref cA) ct41), sl41⟩) (c41 : PySem.W.codeIn K (.ref cA) "law" = true) (k41 : PySem.W.keepIn K (.ref f41) = true)
    (z0 : PySem.W.nsIn K mainGlobals "len" = some none)
    (z1 : PySem.W.nsIn K mainGlobals "int" = some none)
    (z2 : PySem.W.nsIn K mainGlobals "str" = some none)
    (z3 : PySem.W.nsIn K mainGlobals "isinstance" = some none)
    (z4 : PySem.W.nsIn K mainGlobals "range" = some none)
    (z5 : PySem.W.nsIn K mainGlobals "tuple" = some none)
    (z6 : PySem.W.nsIn K mainGlobals "list" = some none)
    (z7 : PySem.W.nsIn K mainGlobals "max" = some none)
    (z8 : PySem.W.nsIn K mainGlobals "min" = some none)
    (z9 : PySem.W.nsIn K mainGlobals "repr" = some none)
    (z10 : PySem.W.nsIn K mainGlobals "bool" = some none)
    (z11 : PySem.W.nsIn K mainGlobals "all" = some none)
    (z12 : PySem.W.nsIn K mainGlobals "set" = some none)
    (z13 : PySem.W.nsIn K mainGlobals "sum" = some none)
    (z14 : PySem.W.nsIn K mainGlobals "enumerate" = some none)
    (z15 : PySem.W.nsIn K mainGlobals "zip" = some none)
    (z16 : PySem.W.nsIn K mainGlobals "divmod" = some none)
    (z17 : PySem.W.nsIn K mainGlobals "sorted" = some none)
    (z18 : PySem.W.nsIn K mainGlobals "ord" = some none)
    (x0 : PySem.W.nsIn K mainGlobals "WORD_MOST" = some (some (.int 10 tk0)))
    (x1 : PySem.W.nsIn K mainGlobals "POOL_MOST" = some (some (.int 8 tk1)))
    (x2 : PySem.W.nsIn K mainGlobals "WEIGHT_MOST" = some (some (.int 100 tk2)))
    (x3 : PySem.W.nsIn K mainGlobals "TURNS_MOST" = some (some (.int 2000 tk3)))
    (x4 : PySem.W.nsIn K mainGlobals "SCORE_START" = some (some (.int 7 tk4)))
    (x5 : PySem.W.nsIn K mainGlobals "SCORE_FACTOR" = some (some (.int 251 tk5)))
    (x6 : PySem.W.nsIn K mainGlobals "SCORE_MODULUS" = some (some (.int 65521 tk6)))
    {C0 fI0 : Addr} {nm0 qn0 : Str} {Nn0 : Addr} {bs0 bm0 : List Value} {sn0 : List Str} {su0 : List Value} {ab0 : Bool} {co0 : Option Bool} {dd0 : Option Addr} {qa0 qb0 qc0 qd0 qe0 : Option Value} {cC0 : ClassData} {oI0 kI0 dI0 pI0 cI0 tI0 : Value} {odI0 anI0 : Option Addr} {slI0 : Array (Option Value)}
    (e0_0 : PySem.W.nsIn K mainGlobals "BadCounts" = some (some (.ref C0))) (e0_1 : K.lookup C0 = some (excClassObj nm0 qn0 C0 Nn0 bs0 bm0 true sn0 su0 ab0 co0 dd0 qa0 qb0 qc0 qd0 qe0 "Exception.__new__")) (e0_2 : PySem.W.excTail exT bm0 = true) (e0_3 : PySem.W.findIn K (.ref C0) "__setattr__" = some (some (.builtin "object.__setattr__")))
    (e0_4 : PySem.W.subIn K (.ref C0) (.type "BaseException") = some true) (e0_5 : PySem.W.typeIn K (.ref C0) = some (.type "type")) (e0_6 : PySem.W.keepIn K (.ref C0) = true) (e0_7 : PySem.W.findIn K (.ref C0) "__getattribute__" = some (some (.builtin "BaseException.__getattribute__"))) (e0_8 : PySem.W.findIn K (.ref C0) "__getattr__" = some none)
    (e0_9 : PySem.W.hasDictIn K C0 = true) (e0_10 : PySem.W.findIn K (.ref C0) "thing" = some none) (e0_11 : PySem.W.findIn K (.ref C0) "__init__" = some (some (.ref fI0))) (e0_12 : PySem.W.typeIn K (.ref fI0) = some (.type "function")) (e0_13 : PySem.W.clsIn K C0 = some cC0) (e0_14 : PySem.W.subIn K (.ref C0) (.ref C0) = some true)
    (e0_15 : K.lookup fI0 = some ⟨oI0, odI0, .func (PySem.W.fnOf "__init__" "BadCounts.__init__" (defArgs s_BadCounts) (defBody s_BadCounts) (defScope s_BadCounts) .none kI0 dI0 pI0 anI0 cI0 tI0), slI0⟩) (e0_16 : PySem.W.codeIn K cI0 "BadCounts.__init__" = true) (e0_17 : PySem.W.keepIn K (.ref fI0) = true)
    {C1 fI1 : Addr} {nm1 qn1 : Str} {Nn1 : Addr} {bs1 bm1 : List Value} {sn1 : List Str} {su1 : List Value} {ab1 : Bool} {co1 : Option Bool} {dd1 : Option Addr} {qa1 qb1 qc1 qd1 qe1 : Option Value} {cC1 : ClassData} {oI1 kI1 dI1 pI1 cI1 tI1 : Value} {odI1 anI1 : Option Addr} {slI1 : Array (Option Value)}
    (e1_0 : PySem.W.nsIn K mainGlobals "BadLot" = some (some (.ref C1))) (e1_1 : K.lookup C1 = some (excClassObj nm1 qn1 C1 Nn1 bs1 bm1 true sn1 su1 ab1 co1 dd1 qa1 qb1 qc1 qd1 qe1 "Exception.__new__")) (e1_2 : PySem.W.excTail exT bm1 = true) (e1_3 : PySem.W.findIn K (.ref C1) "__setattr__" = some (some (.builtin "object.__setattr__")))
    (e1_4 : PySem.W.subIn K (.ref C1) (.type "BaseException") = some true) (e1_5 : PySem.W.typeIn K (.ref C1) = some (.type "type")) (e1_6 : PySem.W.keepIn K (.ref C1) = true) (e1_7 : PySem.W.findIn K (.ref C1) "__getattribute__" = some (some (.builtin "BaseException.__getattribute__"))) (e1_8 : PySem.W.findIn K (.ref C1) "__getattr__" = some none)
    (e1_9 : PySem.W.hasDictIn K C1 = true) (e1_10 : PySem.W.findIn K (.ref C1) "thing" = some none) (e1_11 : PySem.W.findIn K (.ref C1) "__init__" = some (some (.ref fI1))) (e1_12 : PySem.W.typeIn K (.ref fI1) = some (.type "function")) (e1_13 : PySem.W.clsIn K C1 = some cC1) (e1_14 : PySem.W.subIn K (.ref C1) (.ref C1) = some true)
    (e1_15 : K.lookup fI1 = some ⟨oI1, odI1, .func (PySem.W.fnOf "__init__" "BadLot.__init__" (defArgs s_BadLot) (defBody s_BadLot) (defScope s_BadLot) .none kI1 dI1 pI1 anI1 cI1 tI1), slI1⟩) (e1_16 : PySem.W.codeIn K cI1 "BadLot.__init__" = true) (e1_17 : PySem.W.keepIn K (.ref fI1) = true)
    {C2 fI2 : Addr} {nm2 qn2 : Str} {Nn2 : Addr} {bs2 bm2 : List Value} {sn2 : List Str} {su2 : List Value} {ab2 : Bool} {co2 : Option Bool} {dd2 : Option Addr} {qa2 qb2 qc2 qd2 qe2 : Option Value} {cC2 : ClassData} {oI2 kI2 dI2 pI2 cI2 tI2 : Value} {odI2 anI2 : Option Addr} {slI2 : Array (Option Value)}
    (e2_0 : PySem.W.nsIn K mainGlobals "BadNumber" = some (some (.ref C2))) (e2_1 : K.lookup C2 = some (excClassObj nm2 qn2 C2 Nn2 bs2 bm2 true sn2 su2 ab2 co2 dd2 qa2 qb2 qc2 qd2 qe2 "Exception.__new__")) (e2_2 : PySem.W.excTail exT bm2 = true) (e2_3 : PySem.W.findIn K (.ref C2) "__setattr__" = some (some (.builtin "object.__setattr__")))
    (e2_4 : PySem.W.subIn K (.ref C2) (.type "BaseException") = some true) (e2_5 : PySem.W.typeIn K (.ref C2) = some (.type "type")) (e2_6 : PySem.W.keepIn K (.ref C2) = true) (e2_7 : PySem.W.findIn K (.ref C2) "__getattribute__" = some (some (.builtin "BaseException.__getattribute__"))) (e2_8 : PySem.W.findIn K (.ref C2) "__getattr__" = some none)
    (e2_9 : PySem.W.hasDictIn K C2 = true) (e2_10 : PySem.W.findIn K (.ref C2) "thing" = some none) (e2_11 : PySem.W.findIn K (.ref C2) "__init__" = some (some (.ref fI2))) (e2_12 : PySem.W.typeIn K (.ref fI2) = some (.type "function")) (e2_13 : PySem.W.clsIn K C2 = some cC2) (e2_14 : PySem.W.subIn K (.ref C2) (.ref C2) = some true)
    (e2_15 : K.lookup fI2 = some ⟨oI2, odI2, .func (PySem.W.fnOf "__init__" "BadNumber.__init__" (defArgs s_BadNumber) (defBody s_BadNumber) (defScope s_BadNumber) .none kI2 dI2 pI2 anI2 cI2 tI2), slI2⟩) (e2_16 : PySem.W.codeIn K cI2 "BadNumber.__init__" = true) (e2_17 : PySem.W.keepIn K (.ref fI2) = true)
    {C3 fI3 : Addr} {nm3 qn3 : Str} {Nn3 : Addr} {bs3 bm3 : List Value} {sn3 : List Str} {su3 : List Value} {ab3 : Bool} {co3 : Option Bool} {dd3 : Option Addr} {qa3 qb3 qc3 qd3 qe3 : Option Value} {cC3 : ClassData} {oI3 kI3 dI3 pI3 cI3 tI3 : Value} {odI3 anI3 : Option Addr} {slI3 : Array (Option Value)}
    (e3_0 : PySem.W.nsIn K mainGlobals "BadPool" = some (some (.ref C3))) (e3_1 : K.lookup C3 = some (excClassObj nm3 qn3 C3 Nn3 bs3 bm3 true sn3 su3 ab3 co3 dd3 qa3 qb3 qc3 qd3 qe3 "Exception.__new__")) (e3_2 : PySem.W.excTail exT bm3 = true) (e3_3 : PySem.W.findIn K (.ref C3) "__setattr__" = some (some (.builtin "object.__setattr__")))
    (e3_4 : PySem.W.subIn K (.ref C3) (.type "BaseException") = some true) (e3_5 : PySem.W.typeIn K (.ref C3) = some (.type "type")) (e3_6 : PySem.W.keepIn K (.ref C3) = true) (e3_7 : PySem.W.findIn K (.ref C3) "__getattribute__" = some (some (.builtin "BaseException.__getattribute__"))) (e3_8 : PySem.W.findIn K (.ref C3) "__getattr__" = some none)
    (e3_9 : PySem.W.hasDictIn K C3 = true) (e3_10 : PySem.W.findIn K (.ref C3) "thing" = some none) (e3_11 : PySem.W.findIn K (.ref C3) "__init__" = some (some (.ref fI3))) (e3_12 : PySem.W.typeIn K (.ref fI3) = some (.type "function")) (e3_13 : PySem.W.clsIn K C3 = some cC3) (e3_14 : PySem.W.subIn K (.ref C3) (.ref C3) = some true)
    (e3_15 : K.lookup fI3 = some ⟨oI3, odI3, .func (PySem.W.fnOf "__init__" "BadPool.__init__" (defArgs s_BadPool) (defBody s_BadPool) (defScope s_BadPool) .none kI3 dI3 pI3 anI3 cI3 tI3), slI3⟩) (e3_16 : PySem.W.codeIn K cI3 "BadPool.__init__" = true) (e3_17 : PySem.W.keepIn K (.ref fI3) = true)
    {C4 fI4 : Addr} {nm4 qn4 : Str} {Nn4 : Addr} {bs4 bm4 : List Value} {sn4 : List Str} {su4 : List Value} {ab4 : Bool} {co4 : Option Bool} {dd4 : Option Addr} {qa4 qb4 qc4 qd4 qe4 : Option Value} {cC4 : ClassData} {oI4 kI4 dI4 pI4 cI4 tI4 : Value} {odI4 anI4 : Option Addr} {slI4 : Array (Option Value)}
    (e4_0 : PySem.W.nsIn K mainGlobals "BadWord" = some (some (.ref C4))) (e4_1 : K.lookup C4 = some (excClassObj nm4 qn4 C4 Nn4 bs4 bm4 true sn4 su4 ab4 co4 dd4 qa4 qb4 qc4 qd4 qe4 "Exception.__new__")) (e4_2 : PySem.W.excTail exT bm4 = true) (e4_3 : PySem.W.findIn K (.ref C4) "__setattr__" = some (some (.builtin "object.__setattr__")))
    (e4_4 : PySem.W.subIn K (.ref C4) (.type "BaseException") = some true) (e4_5 : PySem.W.typeIn K (.ref C4) = some (.type "type")) (e4_6 : PySem.W.keepIn K (.ref C4) = true) (e4_7 : PySem.W.findIn K (.ref C4) "__getattribute__" = some (some (.builtin "BaseException.__getattribute__"))) (e4_8 : PySem.W.findIn K (.ref C4) "__getattr__" = some none)
    (e4_9 : PySem.W.hasDictIn K C4 = true) (e4_10 : PySem.W.findIn K (.ref C4) "thing" = some none) (e4_11 : PySem.W.findIn K (.ref C4) "__init__" = some (some (.ref fI4))) (e4_12 : PySem.W.typeIn K (.ref fI4) = some (.type "function")) (e4_13 : PySem.W.clsIn K C4 = some cC4) (e4_14 : PySem.W.subIn K (.ref C4) (.ref C4) = some true)
    (e4_15 : K.lookup fI4 = some ⟨oI4, odI4, .func (PySem.W.fnOf "__init__" "BadWord.__init__" (defArgs s_BadWord) (defBody s_BadWord) (defScope s_BadWord) .none kI4 dI4 pI4 anI4 cI4 tI4), slI4⟩) (e4_16 : PySem.W.codeIn K cI4 "BadWord.__init__" = true) (e4_17 : PySem.W.keepIn K (.ref fI4) = true)
    {CG : Addr} {cdG : ClassData} (xg0 : PySem.W.nsIn K mainGlobals "GateError" = some (some (.ref CG))) (xg1 : PySem.W.typeIn K (.ref CG) = some (.type "type")) (xg2 : PySem.W.clsIn K CG = some cdG) (xg3 : PySem.W.subIn K (.ref CG) (.ref CG) = some true)
    (xs0 : PySem.W.specialIn K (.builtin "object.__class__") "__get__" = some (some (.builtin "getset_descriptor.__get__"))) (xs1 : PySem.W.takesIn K (.builtin "object.__class__") = some true)
    (xc0 : PySem.W.findIn K (.ref C0) "__class__" = some (some (.builtin "object.__class__"))) (xm0 : PySem.W.mroIn K C0 (.type "object") = some true) (xh0 : PySem.W.subIn K (.ref C0) (.ref CG) = some true) (xp0_1 : PySem.W.subIn K (.ref C0) (.ref C1) = some false) (xp0_2 : PySem.W.subIn K (.ref C0) (.ref C2) = some false) (xp0_3 : PySem.W.subIn K (.ref C0) (.ref C3) = some false) (xp0_4 : PySem.W.subIn K (.ref C0) (.ref C4) = some false)
    (xc1 : PySem.W.findIn K (.ref C1) "__class__" = some (some (.builtin "object.__class__"))) (xm1 : PySem.W.mroIn K C1 (.type "object") = some true) (xh1 : PySem.W.subIn K (.ref C1) (.ref CG) = some true) (xp1_0 : PySem.W.subIn K (.ref C1) (.ref C0) = some false) (xp1_2 : PySem.W.subIn K (.ref C1) (.ref C2) = some false) (xp1_3 : PySem.W.subIn K (.ref C1) (.ref C3) = some false) (xp1_4 : PySem.W.subIn K (.ref C1) (.ref C4) = some false)
    (xc2 : PySem.W.findIn K (.ref C2) "__class__" = some (some (.builtin "object.__class__"))) (xm2 : PySem.W.mroIn K C2 (.type "object") = some true) (xh2 : PySem.W.subIn K (.ref C2) (.ref CG) = some true) (xp2_0 : PySem.W.subIn K (.ref C2) (.ref C0) = some false) (xp2_1 : PySem.W.subIn K (.ref C2) (.ref C1) = some false) (xp2_3 : PySem.W.subIn K (.ref C2) (.ref C3) = some false) (xp2_4 : PySem.W.subIn K (.ref C2) (.ref C4) = some false)
    (xc3 : PySem.W.findIn K (.ref C3) "__class__" = some (some (.builtin "object.__class__"))) (xm3 : PySem.W.mroIn K C3 (.type "object") = some true) (xh3 : PySem.W.subIn K (.ref C3) (.ref CG) = some true) (xp3_0 : PySem.W.subIn K (.ref C3) (.ref C0) = some false) (xp3_1 : PySem.W.subIn K (.ref C3) (.ref C1) = some false) (xp3_2 : PySem.W.subIn K (.ref C3) (.ref C2) = some false) (xp3_4 : PySem.W.subIn K (.ref C3) (.ref C4) = some false)
    (xc4 : PySem.W.findIn K (.ref C4) "__class__" = some (some (.builtin "object.__class__"))) (xm4 : PySem.W.mroIn K C4 (.type "object") = some true) (xh4 : PySem.W.subIn K (.ref C4) (.ref CG) = some true) (xp4_0 : PySem.W.subIn K (.ref C4) (.ref C0) = some false) (xp4_1 : PySem.W.subIn K (.ref C4) (.ref C1) = some false) (xp4_2 : PySem.W.subIn K (.ref C4) (.ref C2) = some false) (xp4_3 : PySem.W.subIn K (.ref C4) (.ref C3) = some false)
    {dB : Option Addr} {slA : Array (Option Value)} {vsA : Array Value} {Pt : Addr} (m0 : K.lookup cA = some ⟨.type "code", dB, .fields vsA, slA⟩) (m1 : (vsA[11]? : Option Value) = some (.ref Pt)) (m2 : codeB vsA cA Pt = true) (m3 : K.lookup Pt = none)
    :
    ∃ (fd : FuncData) (cA Pt : Addr), h.get? Pt = some { cls := .none, data := .fields #[] } ∧ K.lookup Pt = none ∧ PySem.W.codeHdIn K cA Pt = true ∧ (∀ (s : Shared) (v : Value), BindsTo s fd ⟨[v], []⟩ [("_law_script", v)]) ∧
      ∀ base : Heap, K.In base → base.Ns mainGlobals mg → LamX.TabB base mg cA Pt → FnG l.prog w K mg base 10 fa fd ["_law_script"] (spLaw Pt K) := by
  have e := hfa.symm.trans (PySem.W.mg_of X G a41)
  cases e
  have B : Blt mg := ⟨PySem.W.mg_none_of X G z0, PySem.W.mg_none_of X G z1, PySem.W.mg_none_of X G z2, PySem.W.mg_none_of X G z3, PySem.W.mg_none_of X G z4, PySem.W.mg_none_of X G z5, PySem.W.mg_none_of X G z6, PySem.W.mg_none_of X G z7, PySem.W.mg_none_of X G z8, PySem.W.mg_none_of X G z9, PySem.W.mg_none_of X G z10, PySem.W.mg_none_of X G z11, PySem.W.mg_none_of X G z12, PySem.W.mg_none_of X G z13, PySem.W.mg_none_of X G z14, PySem.W.mg_none_of X G z15, PySem.W.mg_none_of X G z16, PySem.W.mg_none_of X G z17, PySem.W.mg_none_of X G z18⟩
  have Cn : Con mg tk0 tk1 tk2 := ⟨B, PySem.W.mg_of X G x0, PySem.W.mg_of X G x1, PySem.W.mg_of X G x2⟩
  have U0 := fun_mk (st := s_is_integer) l0 c0 k0
  have b0 := U0.binds (ps := ["thing"]) fun _ _ _ _ _ _ us hl => match us, hl with | [_], _ => rfl
  have F0 : Fn K mg "is_integer" s_is_integer ["thing"] _ _ := ⟨U0, b0, PySem.W.mg_of X G a0⟩
  have U1 := fun_mk (st := s_is_word) l1 c1 k1
  have b1 := U1.binds (ps := ["thing"]) fun _ _ _ _ _ _ us hl => match us, hl with | [_], _ => rfl
  have F1 : Fn K mg "is_word" s_is_word ["thing"] _ _ := ⟨U1, b1, PySem.W.mg_of X G a1⟩
  have U2 := fun_mk (st := s_is_pool) l2 c2 k2
  have b2 := U2.binds (ps := ["thing"]) fun _ _ _ _ _ _ us hl => match us, hl with | [_], _ => rfl
  have F2 : Fn K mg "is_pool" s_is_pool ["thing"] _ _ := ⟨U2, b2, PySem.W.mg_of X G a2⟩
  have U3 := fun_mk (st := s_is_share) l3 c3 k3
  have b3 := U3.binds (ps := ["thing"]) fun _ _ _ _ _ _ us hl => match us, hl with | [_], _ => rfl
  have F3 : Fn K mg "is_share" s_is_share ["thing"] _ _ := ⟨U3, b3, PySem.W.mg_of X G a3⟩
  have U4 := fun_mk (st := s_is_lot) l4 c4 k4
  have b4 := U4.binds (ps := ["pool", "thing"]) fun _ _ _ _ _ _ us hl => match us, hl with | [_, _], _ => rfl
  have F4 : Fn K mg "is_lot" s_is_lot ["pool", "thing"] _ _ := ⟨U4, b4, PySem.W.mg_of X G a4⟩
  have U5 := fun_mk (st := s_are_loads) l5 c5 k5
  have b5 := U5.binds (ps := ["pool", "thing"]) fun _ _ _ _ _ _ us hl => match us, hl with | [_, _], _ => rfl
  have F5 : Fn K mg "are_loads" s_are_loads ["pool", "thing"] _ _ := ⟨U5, b5, PySem.W.mg_of X G a5⟩
  have U6 := fun_mk (st := s_are_counts) l6 c6 k6
  have b6 := U6.binds (ps := ["pool", "thing"]) fun _ _ _ _ _ _ us hl => match us, hl with | [_, _], _ => rfl
  have F6 : Fn K mg "are_counts" s_are_counts ["pool", "thing"] _ _ := ⟨U6, b6, PySem.W.mg_of X G a6⟩
  have U7 := fun_mk (st := s_weight_sum) l7 c7 k7
  have b7 := U7.binds (ps := ["pool"]) fun _ _ _ _ _ _ us hl => match us, hl with | [_], _ => rfl
  have F7 : Fn K mg "weight_sum" s_weight_sum ["pool"] _ _ := ⟨U7, b7, PySem.W.mg_of X G a7⟩
  have U8 := fun_mk (st := s_turn_after) l8 c8 k8
  have b8 := U8.binds (ps := ["pool", "counts"]) fun _ _ _ _ _ _ us hl => match us, hl with | [_, _], _ => rfl
  have F8 : Fn K mg "turn_after" s_turn_after ["pool", "counts"] _ _ := ⟨U8, b8, PySem.W.mg_of X G a8⟩
  have U9 := fun_mk (st := s_first_turns) l9 c9 k9
  have b9 := U9.binds (ps := ["pool", "many"]) fun _ _ _ _ _ _ us hl => match us, hl with | [_, _], _ => rfl
  have F9 : Fn K mg "first_turns" s_first_turns ["pool", "many"] _ _ := ⟨U9, b9, PySem.W.mg_of X G a9⟩
  have U10 := fun_mk (st := s_counts_from_start) l10 c10 k10
  have b10 := U10.binds (ps := ["pool", "many"]) fun _ _ _ _ _ _ us hl => match us, hl with | [_, _], _ => rfl
  have F10 : Fn K mg "counts_from_start" s_counts_from_start ["pool", "many"] _ _ := ⟨U10, b10, PySem.W.mg_of X G a10⟩
  have U11 := fun_mk (st := s_next_turn) l11 c11 k11
  have b11 := U11.binds (ps := ["pool", "counts"]) fun _ _ _ _ _ _ us hl => match us, hl with | [_, _], _ => rfl
  have F11 : Fn K mg "next_turn" s_next_turn ["pool", "counts"] _ _ := ⟨U11, b11, PySem.W.mg_of X G a11⟩
  have U12 := fun_mk (st := s_turns) l12 c12 k12
  have b12 := U12.binds (ps := ["pool", "t"]) fun _ _ _ _ _ _ us hl => match us, hl with | [_, _], _ => rfl
  have F12 : Fn K mg "turns" s_turns ["pool", "t"] _ _ := ⟨U12, b12, PySem.W.mg_of X G a12⟩
  have U13 := fun_mk (st := s_counts_after) l13 c13 k13
  have b13 := U13.binds (ps := ["pool", "t"]) fun _ _ _ _ _ _ us hl => match us, hl with | [_, _], _ => rfl
  have F13 : Fn K mg "counts_after" s_counts_after ["pool", "t"] _ _ := ⟨U13, b13, PySem.W.mg_of X G a13⟩
  have U14 := fun_mk (st := s_least_busy) l14 c14 k14
  have b14 := U14.binds (ps := ["pool", "lot", "busy"]) fun _ _ _ _ _ _ us hl => match us, hl with | [_, _, _], _ => rfl
  have F14 : Fn K mg "least_busy" s_least_busy ["pool", "lot", "busy"] _ _ := ⟨U14, b14, PySem.W.mg_of X G a14⟩
  have U15 := fun_mk (st := s_by_key) l15 c15 k15
  have b15 := U15.binds (ps := ["pool", "lot", "key"]) fun _ _ _ _ _ _ us hl => match us, hl with | [_, _, _], _ => rfl
  have F15 : Fn K mg "by_key" s_by_key ["pool", "lot", "key"] _ _ := ⟨U15, b15, PySem.W.mg_of X G a15⟩
  have U16 := fun_mk (st := s_check_lot) l16 c16 k16
  have b16 := U16.binds (ps := ["pool", "lot"]) fun _ _ _ _ _ _ us hl => match us, hl with | [_, _], _ => rfl
  have F16 : Fn K mg "check_lot" s_check_lot ["pool", "lot"] _ _ := ⟨U16, b16, PySem.W.mg_of X G a16⟩
  have U17 := fun_mk (st := s_score) l17 c17 k17
  have b17 := U17.binds (ps := ["key", "label"]) fun _ _ _ _ _ _ us hl => match us, hl with | [_, _], _ => rfl
  have F17 : Fn K mg "score" s_score ["key", "label"] _ _ := ⟨U17, b17, PySem.W.mg_of X G a17⟩
  have U18 := fun_mk (st := s__law_deck) l18 c18 k18
  have b18 := U18.binds (ps := ["_law_script"]) fun _ _ _ _ _ _ us hl => match us, hl with | [_], _ => rfl
  have F18 : Fn K mg "_law_deck" s__law_deck ["_law_script"] _ _ := ⟨U18, b18, PySem.W.mg_of X G a18⟩
  have U19 := fun_mk (st := s__law_draw) l19 c19 k19
  have b19 := U19.binds (ps := ["_law_deck_here", "_law_many"]) fun _ _ _ _ _ _ us hl => match us, hl with | [_, _], _ => rfl
  have F19 : Fn K mg "_law_draw" s__law_draw ["_law_deck_here", "_law_many"] _ _ := ⟨U19, b19, PySem.W.mg_of X G a19⟩
  have U20 := fun_mk (st := s__law_pick) l20 c20 k20
  have b20 := U20.binds (ps := ["_law_deck_here", "_law_some"]) fun _ _ _ _ _ _ us hl => match us, hl with | [_, _], _ => rfl
  have F20 : Fn K mg "_law_pick" s__law_pick ["_law_deck_here", "_law_some"] _ _ := ⟨U20, b20, PySem.W.mg_of X G a20⟩
  have U21 := fun_mk (st := s__law_is_int) l21 c21 k21
  have b21 := U21.binds (ps := ["_law_thing", "_law_low", "_law_high"]) fun _ _ _ _ _ _ us hl => match us, hl with | [_, _, _], _ => rfl
  have F21 : Fn K mg "_law_is_int" s__law_is_int ["_law_thing", "_law_low", "_law_high"] _ _ := ⟨U21, b21, PySem.W.mg_of X G a21⟩
  have U22 := fun_mk (st := s__law_is_tuple) l22 c22 k22
  have b22 := U22.binds (ps := ["_law_thing", "_law_many"]) fun _ _ _ _ _ _ us hl => match us, hl with | [_, _], _ => rfl
  have F22 : Fn K mg "_law_is_tuple" s__law_is_tuple ["_law_thing", "_law_many"] _ _ := ⟨U22, b22, PySem.W.mg_of X G a22⟩
  have U23 := fun_mk (st := s__law_is_word) l23 c23 k23
  have b23 := U23.binds (ps := ["_law_thing"]) fun _ _ _ _ _ _ us hl => match us, hl with | [_], _ => rfl
  have F23 : Fn K mg "_law_is_word" s__law_is_word ["_law_thing"] _ _ := ⟨U23, b23, PySem.W.mg_of X G a23⟩
  have U24 := fun_mk (st := s__law_is_pool) l24 c24 k24
  have b24 := U24.binds (ps := ["_law_thing"]) fun _ _ _ _ _ _ us hl => match us, hl with | [_], _ => rfl
  have F24 : Fn K mg "_law_is_pool" s__law_is_pool ["_law_thing"] _ _ := ⟨U24, b24, PySem.W.mg_of X G a24⟩
  have U25 := fun_mk (st := s__law_is_lot) l25 c25 k25
  have b25 := U25.binds (ps := ["_law_many", "_law_thing"]) fun _ _ _ _ _ _ us hl => match us, hl with | [_, _], _ => rfl
  have F25 : Fn K mg "_law_is_lot" s__law_is_lot ["_law_many", "_law_thing"] _ _ := ⟨U25, b25, PySem.W.mg_of X G a25⟩
  have U26 := fun_mk (st := s__law_next) l26 c26 k26
  have b26 := U26.binds (ps := ["_law_weights", "_law_counts_here"]) fun _ _ _ _ _ _ us hl => match us, hl with | [_, _], _ => rfl
  have F26 : Fn K mg "_law_next" s__law_next ["_law_weights", "_law_counts_here"] _ _ := ⟨U26, b26, PySem.W.mg_of X G a26⟩
  have U27 := fun_mk (st := s__law_counts) l27 c27 k27
  have b27 := U27.binds (ps := ["_law_weights", "_law_t"]) fun _ _ _ _ _ _ us hl => match us, hl with | [_, _], _ => rfl
  have F27 : Fn K mg "_law_counts" s__law_counts ["_law_weights", "_law_t"] _ _ := ⟨U27, b27, PySem.W.mg_of X G a27⟩
  have U28 := fun_mk (st := s__law_score) l28 c28 k28
  have b28 := U28.binds (ps := ["_law_key", "_law_label"]) fun _ _ _ _ _ _ us hl => match us, hl with | [_, _], _ => rfl
  have F28 : Fn K mg "_law_score" s__law_score ["_law_key", "_law_label"] _ _ := ⟨U28, b28, PySem.W.mg_of X G a28⟩
  have U29 := fun_mk (st := s__law_by_key) l29 c29 k29
  have b29 := U29.binds (ps := ["_law_pool", "_law_lot", "_law_key"]) fun _ _ _ _ _ _ us hl => match us, hl with | [_, _, _], _ => rfl
  have F29 : Fn K mg "_law_by_key" s__law_by_key ["_law_pool", "_law_lot", "_law_key"] _ _ := ⟨U29, b29, PySem.W.mg_of X G a29⟩
  have U30 := fun_mk (st := s__law_least_busy) l30 c30 k30
  have b30 := U30.binds (ps := ["_law_pool", "_law_lot", "_law_busy"]) fun _ _ _ _ _ _ us hl => match us, hl with | [_, _, _], _ => rfl
  have F30 : Fn K mg "_law_least_busy" s__law_least_busy ["_law_pool", "_law_lot", "_law_busy"] _ _ := ⟨U30, b30, PySem.W.mg_of X G a30⟩
  have U31 := fun_mk (st := s__law_word) l31 c31 k31
  have b31 := U31.binds (ps := ["_law_deck_here"]) fun _ _ _ _ _ _ us hl => match us, hl with | [_], _ => rfl
  have F31 : Fn K mg "_law_word" s__law_word ["_law_deck_here"] _ _ := ⟨U31, b31, PySem.W.mg_of X G a31⟩
  have U32 := fun_mk (st := s__law_words) l32 c32 k32
  have b32 := U32.binds (ps := ["_law_deck_here", "_law_many"]) fun _ _ _ _ _ _ us hl => match us, hl with | [_, _], _ => rfl
  have F32 : Fn K mg "_law_words" s__law_words ["_law_deck_here", "_law_many"] _ _ := ⟨U32, b32, PySem.W.mg_of X G a32⟩
  have U33 := fun_mk (st := s__law_tried) l33 c33 k33
  have b33 := U33.binds (ps := ["_law_call"]) fun _ _ _ _ _ _ us hl => match us, hl with | [_], _ => rfl
  have F33 : Fn K mg "_law_tried" s__law_tried ["_law_call"] _ _ := ⟨U33, b33, PySem.W.mg_of X G a33⟩
  have U34 := fun_mk (st := s__law_any) l34 c34 k34
  have b34 := U34.binds (ps := ["_law_deck_here", "_law_near"]) fun _ _ _ _ _ _ us hl => match us, hl with | [_, _], _ => rfl
  have F34 : Fn K mg "_law_any" s__law_any ["_law_deck_here", "_law_near"] _ _ := ⟨U34, b34, PySem.W.mg_of X G a34⟩
  have U35 := fun_mk (st := s__law_are_counts) l35 c35 k35
  have b35 := U35.binds (ps := ["_law_pool", "_law_thing"]) fun _ _ _ _ _ _ us hl => match us, hl with | [_, _], _ => rfl
  have F35 : Fn K mg "_law_are_counts" s__law_are_counts ["_law_pool", "_law_thing"] _ _ := ⟨U35, b35, PySem.W.mg_of X G a35⟩
  have U36 := fun_mk (st := s__law_after_pool) l36 c36 k36
  have b36 := U36.binds (ps := ["_law_way", "_law_pool", "_law_rest"]) fun _ _ _ _ _ _ us hl => match us, hl with | [_, _, _], _ => rfl
  have F36 : Fn K mg "_law_after_pool" s__law_after_pool ["_law_way", "_law_pool", "_law_rest"] _ _ := ⟨U36, b36, PySem.W.mg_of X G a36⟩
  have U37 := fun_mk (st := s__law_due) l37 c37 k37
  have b37 := U37.binds (ps := ["_law_way", "_law_args"]) fun _ _ _ _ _ _ us hl => match us, hl with | [_, _], _ => rfl
  have F37 : Fn K mg "_law_due" s__law_due ["_law_way", "_law_args"] _ _ := ⟨U37, b37, PySem.W.mg_of X G a37⟩
  have U38 := fun_mk (st := s__law_called) l38 c38 k38
  have b38 := U38.binds (ps := ["_law_way", "_law_args"]) fun _ _ _ _ _ _ us hl => match us, hl with | [_, _], _ => rfl
  have F38 : Fn K mg "_law_called" s__law_called ["_law_way", "_law_args"] _ _ := ⟨U38, b38, PySem.W.mg_of X G a38⟩
  have U39 := fun_mk (st := s__law_is_beyond) l39 c39 k39
  have b39 := U39.binds (ps := ["_law_way", "_law_args"]) fun _ _ _ _ _ _ us hl => match us, hl with | [_, _], _ => rfl
  have F39 : Fn K mg "_law_is_beyond" s__law_is_beyond ["_law_way", "_law_args"] _ _ := ⟨U39, b39, PySem.W.mg_of X G a39⟩
  have U40 := fun_mk (st := s__law_arguments) l40 c40 k40
  have b40 := U40.binds (ps := ["_law_deck_here", "_law_way"]) fun _ _ _ _ _ _ us hl => match us, hl with | [_, _], _ => rfl
  have F40 : Fn K mg "_law_arguments" s__law_arguments ["_law_deck_here", "_law_way"] _ _ := ⟨U40, b40, PySem.W.mg_of X G a40⟩
  have U41 := fun_mk (st := s_law) l41 c41 k41
  have b41 := U41.binds (ps := ["_law_script"]) fun _ _ _ _ _ _ us hl => match us, hl with | [_], _ => rfl
  have F41 : Fn K mg "law" s_law ["_law_script"] _ _ := ⟨U41, b41, PySem.W.mg_of X G a41⟩
  have UI0 := fun_mk (st := s_BadCounts) e0_15 e0_16 e0_17
  have bI0 := UI0.binds (ps := ["self", "thing"]) fun _ _ _ _ _ _ us hl => match us, hl with | [_, _], _ => rfl
  have T0 : ExcI K mg "BadCounts" "BadCounts.__init__" s_BadCounts C0 fI0 _ := ⟨⟨⟨nm0, qn0, Nn0, bs0, bm0, sn0, su0, ab0, co0, dd0, qa0, qb0, qc0, qd0, qe0, e0_1, e0_2⟩, e0_3, e0_4, e0_5, e0_6⟩, ⟨e0_7, e0_8, e0_4, e0_9⟩, e0_10, ⟨e0_11, e0_12⟩, UI0, bI0, PySem.W.mg_of X G e0_0, exm_self e0_4 e0_13 e0_5 e0_14⟩
  have UI1 := fun_mk (st := s_BadLot) e1_15 e1_16 e1_17
  have bI1 := UI1.binds (ps := ["self", "thing"]) fun _ _ _ _ _ _ us hl => match us, hl with | [_, _], _ => rfl
  have T1 : ExcI K mg "BadLot" "BadLot.__init__" s_BadLot C1 fI1 _ := ⟨⟨⟨nm1, qn1, Nn1, bs1, bm1, sn1, su1, ab1, co1, dd1, qa1, qb1, qc1, qd1, qe1, e1_1, e1_2⟩, e1_3, e1_4, e1_5, e1_6⟩, ⟨e1_7, e1_8, e1_4, e1_9⟩, e1_10, ⟨e1_11, e1_12⟩, UI1, bI1, PySem.W.mg_of X G e1_0, exm_self e1_4 e1_13 e1_5 e1_14⟩
  have UI2 := fun_mk (st := s_BadNumber) e2_15 e2_16 e2_17
  have bI2 := UI2.binds (ps := ["self", "thing"]) fun _ _ _ _ _ _ us hl => match us, hl with | [_, _], _ => rfl
  have T2 : ExcI K mg "BadNumber" "BadNumber.__init__" s_BadNumber C2 fI2 _ := ⟨⟨⟨nm2, qn2, Nn2, bs2, bm2, sn2, su2, ab2, co2, dd2, qa2, qb2, qc2, qd2, qe2, e2_1, e2_2⟩, e2_3, e2_4, e2_5, e2_6⟩, ⟨e2_7, e2_8, e2_4, e2_9⟩, e2_10, ⟨e2_11, e2_12⟩, UI2, bI2, PySem.W.mg_of X G e2_0, exm_self e2_4 e2_13 e2_5 e2_14⟩
  have UI3 := fun_mk (st := s_BadPool) e3_15 e3_16 e3_17
  have bI3 := UI3.binds (ps := ["self", "thing"]) fun _ _ _ _ _ _ us hl => match us, hl with | [_, _], _ => rfl
  have T3 : ExcI K mg "BadPool" "BadPool.__init__" s_BadPool C3 fI3 _ := ⟨⟨⟨nm3, qn3, Nn3, bs3, bm3, sn3, su3, ab3, co3, dd3, qa3, qb3, qc3, qd3, qe3, e3_1, e3_2⟩, e3_3, e3_4, e3_5, e3_6⟩, ⟨e3_7, e3_8, e3_4, e3_9⟩, e3_10, ⟨e3_11, e3_12⟩, UI3, bI3, PySem.W.mg_of X G e3_0, exm_self e3_4 e3_13 e3_5 e3_14⟩
  have UI4 := fun_mk (st := s_BadWord) e4_15 e4_16 e4_17
  have bI4 := UI4.binds (ps := ["self", "thing"]) fun _ _ _ _ _ _ us hl => match us, hl with | [_, _], _ => rfl
  have T4 : ExcI K mg "BadWord" "BadWord.__init__" s_BadWord C4 fI4 _ := ⟨⟨⟨nm4, qn4, Nn4, bs4, bm4, sn4, su4, ab4, co4, dd4, qa4, qb4, qc4, qd4, qe4, e4_1, e4_2⟩, e4_3, e4_4, e4_5, e4_6⟩, ⟨e4_7, e4_8, e4_4, e4_9⟩, e4_10, ⟨e4_11, e4_12⟩, UI4, bI4, PySem.W.mg_of X G e4_0, exm_self e4_4 e4_13 e4_5 e4_14⟩
  have Kn : KwB K (PySem.W.fnOf "next_turn" "next_turn" (defArgs s_next_turn) (defBody s_next_turn) (defScope s_next_turn) .none kV11 dc11 pm11 an11 cd11 ct11) ["pool", "counts"] ["counts", "pool"] List.reverse List.reverse := ⟨fun s ws hl => match ws, hl with | [y0, y1], _ => .of_eq rfl, fun _ r => vals_rev r⟩
  have Ex : Exs K 5 (fun k => match k with | 0 => C0 | 1 => C1 | 2 => C2 | 3 => C3 | _ => C4) CG := exs_mk (fun k hk => match k, hk with | 0, _ => ⟨e0_7, e0_8, e0_4, e0_9, e0_10, xc0, xm0, e0_5, (congrArg Option.isSome e0_13).trans rfl⟩ | 1, _ => ⟨e1_7, e1_8, e1_4, e1_9, e1_10, xc1, xm1, e1_5, (congrArg Option.isSome e1_13).trans rfl⟩ | 2, _ => ⟨e2_7, e2_8, e2_4, e2_9, e2_10, xc2, xm2, e2_5, (congrArg Option.isSome e2_13).trans rfl⟩ | 3, _ => ⟨e3_7, e3_8, e3_4, e3_9, e3_10, xc3, xm3, e3_5, (congrArg Option.isSome e3_13).trans rfl⟩ | 4, _ => ⟨e4_7, e4_8, e4_4, e4_9, e4_10, xc4, xm4, e4_5, (congrArg Option.isSome e4_13).trans rfl⟩) xs0 xs1
    (fun k hk j hj => match k, hk, j, hj with | 0, _, 0, _ => e0_14 | 0, _, 1, _ => xp0_1 | 0, _, 2, _ => xp0_2 | 0, _, 3, _ => xp0_3 | 0, _, 4, _ => xp0_4 | 1, _, 0, _ => xp1_0 | 1, _, 1, _ => e1_14 | 1, _, 2, _ => xp1_2 | 1, _, 3, _ => xp1_3 | 1, _, 4, _ => xp1_4 | 2, _, 0, _ => xp2_0 | 2, _, 1, _ => xp2_1 | 2, _, 2, _ => e2_14 | 2, _, 3, _ => xp2_3 | 2, _, 4, _ => xp2_4 | 3, _, 0, _ => xp3_0 | 3, _, 1, _ => xp3_1 | 3, _, 2, _ => xp3_2 | 3, _, 3, _ => e3_14 | 3, _, 4, _ => xp3_4 | 4, _, 0, _ => xp4_0 | 4, _, 1, _ => xp4_1 | 4, _, 2, _ => xp4_2 | 4, _, 3, _ => xp4_3 | 4, _, 4, _ => e4_14) xg1 ((congrArg Option.isSome xg2).trans rfl) xg3 (fun k hk => match k, hk with | 0, _ => xh0 | 1, _ => xh1 | 2, _ => xh2 | 3, _ => xh3 | 4, _ => xh4)
  have gE0 := PySem.W.mg_of X G e0_0
  have gE1 := PySem.W.mg_of X G e1_0
  have gE2 := PySem.W.mg_of X G e2_0
  have gE3 := PySem.W.mg_of X G e3_0
  have gE4 := PySem.W.mg_of X G e4_0
  have gG := PySem.W.mg_of X G xg0
  have hT := own fa (PySem.W.mg_of X G a41) cA Pt _ _ _ _ _ _ l41 rfl rfl m0 m1
  refine ⟨PySem.W.fnOf "law" "law" (defArgs s_law) (defBody s_law) (defScope s_law) .none kV41 dc41 pm41 an41 (.ref cA) ct41, cA, Pt, hT, m3, codeB_in m0 m2, fun s v => .of_eq rfl, fun base _ _ TB => ?_⟩
  have Gint : FnOk l.prog w K mg base CX0 _ _ _ _ _ := ok_intG F0 Cn
  have Gword : FnOk l.prog w K mg base CX0 _ _ _ _ _ := ok_wordG F1 Cn
  have Gshare : FnOk l.prog w K mg base CX0 _ _ _ _ _ := ok_shareG F3 Cn F1 F0
  have Gpool : FnOk l.prog w K mg base CX0 _ _ _ _ _ := ok_poolG F2 Cn F3 Gshare
  have Gafter : FnOk l.prog w K mg base CX0 _ _ _ _ _ := ok_after F8 B F7
  have Gfirst : FnOk l.prog w K mg base CX0 _ _ _ _ _ := ok_first F9 B F8 Gafter
  have Gfrom : FnOk l.prog w K mg base CX0 _ _ _ _ _ := ok_from F10 B F7 F9 Gfirst
  have Gloads : FnOk l.prog w K mg base CX0 _ _ _ _ _ := ok_loadsG F5 Cn F0
  have Gcounts : FnOk l.prog w K mg base CX0 _ _ _ _ _ := ok_countsG F6 B F5 Gloads F10 Gfrom
  have Gnext : FnOk l.prog w K mg base (L2N.CX l.prog w) _ _ _ _ _ := ok_nextA F11 Cn F2 Gpool F6 Gcounts F8 Gafter T3 T0
  have Gturns : FnOk l.prog w K mg base (L2N.CX l.prog w) _ _ _ _ _ := ok_turnsA F12 Cn (PySem.W.mg_of X G x3) F2 Gpool F0 Gint F9 Gfirst T3 T2
  have Gca : FnOk l.prog w K mg base (L2N.CX l.prog w) _ _ _ _ _ := ok_afterA F13 Cn F2 Gpool F0 Gint F10 Gfrom T3 T2
  have Glot : FnOk l.prog w K mg base CX0 _ _ _ _ _ := ok_lotA B.n_sorted F4 Cn F0 Gint
  have Gscore : FnOk l.prog w K mg base (L2N.CX l.prog w) _ _ _ _ _ := ok_scoreA F17 Cn (PySem.W.mg_of X G x4) (PySem.W.mg_of X G x5) (PySem.W.mg_of X G x6) B.n_ord F1 Gword T4
  have Gcheck : FnOk l.prog w K mg base (L2N.CX l.prog w) _ _ _ _ _ := ok_checkA F16 Cn F2 Gpool F4 Glot T3 T1
  have Glb : FnOk l.prog w K mg base (L2N.CX l.prog w) _ _ _ _ _ := ok_lbA (fI := 0) F14 Cn F16 Gcheck F5 Gloads T0
  have Gbk : FnOk l.prog w K mg base (L2N.CX l.prog w) _ _ _ _ _ := ok_bkA F15 Cn F16 Gcheck F17 Gscore
  have Glscore : FnOk l.prog w K mg base CX0 _ _ _ _ _ := ok_lscore F28 B
  have Gllb : FnOk l.prog w K mg base CX0 _ _ _ _ _ := ok_llb F30 B
  have Glbk : FnOk l.prog w K mg base CX0 _ _ _ _ _ := ok_lbk F29 B F28 Glscore
  have Glint : FnOk l.prog w K mg base CX0 _ _ _ _ _ := ok_lint F21 B
  have Gltup : FnOk l.prog w K mg base CX0 _ _ _ _ _ := ok_ltup F22 B
  have Glword : FnOk l.prog w K mg base CX0 _ _ _ _ _ := ok_lword F23 B
  have Glpool : FnOk l.prog w K mg base CX0 _ _ _ _ _ := ok_lpool F24 B F23 Glword F21 Glint F22 Gltup
  have Gllot : FnOk l.prog w K mg base CX0 _ _ _ _ _ := ok_llot F25 B F21 Glint
  have Glnext : FnOk l.prog w K mg base CX0 _ _ _ _ _ := ok_lnext F26 B
  have Glcounts : FnOk l.prog w K mg base CX0 _ _ _ _ _ := ok_lcounts F27 B F26 Glnext
  have Glare : FnOk l.prog w K mg base CX0 _ _ _ _ _ := ok_lare F35 B F22 Gltup F21 Glint F27 Glcounts
  have Glap : FnOk l.prog w K mg base CX0 _ _ _ _ _ := ok_lap F36 B F35 Glare F26 Glnext F21 Glint F27 Glcounts F25 Gllot F23 Glword F29 Glbk F22 Gltup F30 Gllb
  have Gldue : FnOk l.prog w K mg base CX0 _ _ _ _ _ := ok_ldue F37 B F24 Glpool F23 Glword F28 Glscore F36 Glap
  have Glbey : FnOk l.prog w K mg base CX0 _ _ _ _ _ := ok_lbey F39 B F37 Gldue
  have Gcalled : FnOk l.prog w K mg base (L2N.CX l.prog w) _ _ _ _ _ := ok_called (cl := fun k => match k with | 0 => C0 | 1 => C1 | 2 => C2 | 3 => C3 | _ => C4) F38 B F2 Gpool F17 Gscore F11 Gnext Kn F12 Gturns F13 Gca F15 Gbk F14 Glb
  have Gdeck : FnOk l.prog w K mg base CX0 _ _ _ _ _ := ok_deck F18 B
  have Gdraw : FnOk l.prog w K mg base CX0 _ _ _ _ _ := ok_draw F19 B
  have Gpick : FnOk l.prog w K mg base CX0 _ _ _ _ _ := ok_pick F20 B F19
  have Gmkw : FnOk l.prog w K mg base CX0 _ _ _ _ _ := ok_mkword F31 B F20 Gpick
  have Gmkws : FnOk l.prog w K mg base CX0 _ _ _ _ _ := ok_mkwords F32 B F31 Gmkw
  have Gany : FnG l.prog w K mg base 3 _ _ _ _ := ok_lany F34 B F20 Gpick
  have Gargs : FnG l.prog w K mg base 5 _ _ _ _ := ok_args F40 B F32 Gmkws F20 Gpick F19 Gdraw F27 Glcounts F31 Gmkw F34 Gany
  exact ok_law F41 Cn rfl TB Ex gE0 gE1 gE2 gE3 gE4 gG F18 Gdeck F20 Gpick F40 Gargs F39 Glbey F37 Gldue F38 Gcalled F33
end Ag

end
/-! ## Tail -/
open PySem PySem.W PyProof.Rows
set_option maxRecDepth 100000 in
set_option maxHeartbeats 0 in
theorem PySem.Challenge.cw_answergate_k21_refusals_of_picks_holds : PySem.Challenge.rw_answergate_k21_refusals_of_picks.Holds := by
  w_on; o_law; k_head; (case hw => w_witness2)
  k_fill
  refine Ag.walkGT (l := PySem.Challenge.rw_answergate_k21_refusals_of_picks) (n := 63) (k := 10) (x := "_law_script") (y := "law") (sp := Ag.spLaw) rfl (by decide) rfl ⟨rfl, by decide, by decide⟩ (by decide +kernel) (fun w h Y => PySem.W.km_in_of Y) ?F (fun Pt K H a ns hl hP hS => ⟨a, ns, rfl, hS, hl, fun y hy => by rw [List.mem_singleton.mp hy]; exact LamX.TabS.nil hP, fun _ => rfl⟩)
  case F =>
    intro w mg fa h KX G hmg own
    refine' Ag.all_mk KX G hmg own ?ya0 ?yl0 ?yc0 ?yk0 ?ya1 ?yl1 ?yc1 ?yk1 ?ya2 ?yl2 ?yc2 ?yk2 ?ya3 ?yl3 ?yc3 ?yk3 ?ya4 ?yl4 ?yc4 ?yk4 ?ya5 ?yl5 ?yc5 ?yk5 ?ya6 ?yl6 ?yc6 ?yk6 ?ya7 ?yl7 ?yc7 ?yk7 ?ya8 ?yl8 ?yc8 ?yk8 ?ya9 ?yl9 ?yc9 ?yk9 ?ya10 ?yl10 ?yc10 ?yk10 ?ya11 ?yl11 ?yc11 ?yk11 ?ya12 ?yl12 ?yc12 ?yk12 ?ya13 ?yl13 ?yc13 ?yk13 ?ya14 ?yl14 ?yc14 ?yk14 ?ya15 ?yl15 ?yc15 ?yk15 ?ya16 ?yl16 ?yc16 ?yk16 ?ya17 ?yl17 ?yc17 ?yk17 ?ya18 ?yl18 ?yc18 ?yk18 ?ya19 ?yl19 ?yc19 ?yk19 ?ya20 ?yl20 ?yc20 ?yk20 ?ya21 ?yl21 ?yc21 ?yk21 ?ya22 ?yl22 ?yc22 ?yk22 ?ya23 ?yl23 ?yc23 ?yk23 ?ya24 ?yl24 ?yc24 ?yk24 ?ya25 ?yl25 ?yc25 ?yk25 ?ya26 ?yl26 ?yc26 ?yk26 ?ya27 ?yl27 ?yc27 ?yk27 ?ya28 ?yl28 ?yc28 ?yk28 ?ya29 ?yl29 ?yc29 ?yk29 ?ya30 ?yl30 ?yc30 ?yk30 ?ya31 ?yl31 ?yc31 ?yk31 ?ya32 ?yl32 ?yc32 ?yk32 ?ya33 ?yl33 ?yc33 ?yk33 ?ya34 ?yl34 ?yc34 ?yk34 ?ya35 ?yl35 ?yc35 ?yk35 ?ya36 ?yl36 ?yc36 ?yk36 ?ya37 ?yl37 ?yc37 ?yk37 ?ya38 ?yl38 ?yc38 ?yk38 ?ya39 ?yl39 ?yc39 ?yk39 ?ya40 ?yl40 ?yc40 ?yk40 ?ya41 ?yl41 ?yc41 ?yk41 ?yz0 ?yz1 ?yz2 ?yz3 ?yz4 ?yz5 ?yz6 ?yz7 ?yz8 ?yz9 ?yz10 ?yz11 ?yz12 ?yz13 ?yz14 ?yz15 ?yz16 ?yz17 ?yz18 ?yx0 ?yx1 ?yx2 ?yx3 ?yx4 ?yx5 ?yx6 ?ye0_0 ?ye0_1 ?ye0_2 ?ye0_3 ?ye0_4 ?ye0_5 ?ye0_6 ?ye0_7 ?ye0_8 ?ye0_9 ?ye0_10 ?ye0_11 ?ye0_12 ?ye0_13 ?ye0_14 ?ye0_15 ?ye0_16 ?ye0_17 ?ye1_0 ?ye1_1 ?ye1_2 ?ye1_3 ?ye1_4 ?ye1_5 ?ye1_6 ?ye1_7 ?ye1_8 ?ye1_9 ?ye1_10 ?ye1_11 ?ye1_12 ?ye1_13 ?ye1_14 ?ye1_15 ?ye1_16 ?ye1_17 ?ye2_0 ?ye2_1 ?ye2_2 ?ye2_3 ?ye2_4 ?ye2_5 ?ye2_6 ?ye2_7 ?ye2_8 ?ye2_9 ?ye2_10 ?ye2_11 ?ye2_12 ?ye2_13 ?ye2_14 ?ye2_15 ?ye2_16 ?ye2_17 ?ye3_0 ?ye3_1 ?ye3_2 ?ye3_3 ?ye3_4 ?ye3_5 ?ye3_6 ?ye3_7 ?ye3_8 ?ye3_9 ?ye3_10 ?ye3_11 ?ye3_12 ?ye3_13 ?ye3_14 ?ye3_15 ?ye3_16 ?ye3_17 ?ye4_0 ?ye4_1 ?ye4_2 ?ye4_3 ?ye4_4 ?ye4_5 ?ye4_6 ?ye4_7 ?ye4_8 ?ye4_9 ?ye4_10 ?ye4_11 ?ye4_12 ?ye4_13 ?ye4_14 ?ye4_15 ?ye4_16 ?ye4_17 ?yxg0 ?yxg1 ?yxg2 ?yxg3 ?yxs0 ?yxs1 ?yxc0 ?yxm0 ?yxh0 ?yxp0_1 ?yxp0_2 ?yxp0_3 ?yxp0_4 ?yxc1 ?yxm1 ?yxh1 ?yxp1_0 ?yxp1_2 ?yxp1_3 ?yxp1_4 ?yxc2 ?yxm2 ?yxh2 ?yxp2_0 ?yxp2_1 ?yxp2_3 ?yxp2_4 ?yxc3 ?yxm3 ?yxh3 ?yxp3_0 ?yxp3_1 ?yxp3_2 ?yxp3_4 ?yxc4 ?yxm4 ?yxh4 ?yxp4_0 ?yxp4_1 ?yxp4_2 ?yxp4_3 ?ym0 ?ym1 ?ym2 ?ym3
    (case ya0 => k_is); (case yl0 => k_is); (case yc0 => k_is); (case yk0 => k_is)
    (case ya1 => k_is); (case yl1 => k_is); (case yc1 => k_is); (case yk1 => k_is)
    (case ya2 => k_is); (case yl2 => k_is); (case yc2 => k_is); (case yk2 => k_is)
    (case ya3 => k_is); (case yl3 => k_is); (case yc3 => k_is); (case yk3 => k_is)
    (case ya4 => k_is); (case yl4 => k_is); (case yc4 => k_is); (case yk4 => k_is)
    (case ya5 => k_is); (case yl5 => k_is); (case yc5 => k_is); (case yk5 => k_is)
    (case ya6 => k_is); (case yl6 => k_is); (case yc6 => k_is); (case yk6 => k_is)
    (case ya7 => k_is); (case yl7 => k_is); (case yc7 => k_is); (case yk7 => k_is)
    (case ya8 => k_is); (case yl8 => k_is); (case yc8 => k_is); (case yk8 => k_is)
    (case ya9 => k_is); (case yl9 => k_is); (case yc9 => k_is); (case yk9 => k_is)
    (case ya10 => k_is); (case yl10 => k_is); (case yc10 => k_is); (case yk10 => k_is)
    (case ya11 => k_is); (case yl11 => k_is); (case yc11 => k_is); (case yk11 => k_is)
    (case ya12 => k_is); (case yl12 => k_is); (case yc12 => k_is); (case yk12 => k_is)
    (case ya13 => k_is); (case yl13 => k_is); (case yc13 => k_is); (case yk13 => k_is)
    (case ya14 => k_is); (case yl14 => k_is); (case yc14 => k_is); (case yk14 => k_is)
    (case ya15 => k_is); (case yl15 => k_is); (case yc15 => k_is); (case yk15 => k_is)
    (case ya16 => k_is); (case yl16 => k_is); (case yc16 => k_is); (case yk16 => k_is)
    (case ya17 => k_is); (case yl17 => k_is); (case yc17 => k_is); (case yk17 => k_is)
    (case ya18 => k_is); (case yl18 => k_is); (case yc18 => k_is); (case yk18 => k_is)
    (case ya19 => k_is); (case yl19 => k_is); (case yc19 => k_is); (case yk19 => k_is)
    (case ya20 => k_is); (case yl20 => k_is); (case yc20 => k_is); (case yk20 => k_is)
    (case ya21 => k_is); (case yl21 => k_is); (case yc21 => k_is); (case yk21 => k_is)
    (case ya22 => k_is); (case yl22 => k_is); (case yc22 => k_is); (case yk22 => k_is)
    (case ya23 => k_is); (case yl23 => k_is); (case yc23 => k_is); (case yk23 => k_is)
    (case ya24 => k_is); (case yl24 => k_is); (case yc24 => k_is); (case yk24 => k_is)
    (case ya25 => k_is); (case yl25 => k_is); (case yc25 => k_is); (case yk25 => k_is)
    (case ya26 => k_is); (case yl26 => k_is); (case yc26 => k_is); (case yk26 => k_is)
    (case ya27 => k_is); (case yl27 => k_is); (case yc27 => k_is); (case yk27 => k_is)
    (case ya28 => k_is); (case yl28 => k_is); (case yc28 => k_is); (case yk28 => k_is)
    (case ya29 => k_is); (case yl29 => k_is); (case yc29 => k_is); (case yk29 => k_is)
    (case ya30 => k_is); (case yl30 => k_is); (case yc30 => k_is); (case yk30 => k_is)
    (case ya31 => k_is); (case yl31 => k_is); (case yc31 => k_is); (case yk31 => k_is)
    (case ya32 => k_is); (case yl32 => k_is); (case yc32 => k_is); (case yk32 => k_is)
    (case ya33 => k_is); (case yl33 => k_is); (case yc33 => k_is); (case yk33 => k_is)
    (case ya34 => k_is); (case yl34 => k_is); (case yc34 => k_is); (case yk34 => k_is)
    (case ya35 => k_is); (case yl35 => k_is); (case yc35 => k_is); (case yk35 => k_is)
    (case ya36 => k_is); (case yl36 => k_is); (case yc36 => k_is); (case yk36 => k_is)
    (case ya37 => k_is); (case yl37 => k_is); (case yc37 => k_is); (case yk37 => k_is)
    (case ya38 => k_is); (case yl38 => k_is); (case yc38 => k_is); (case yk38 => k_is)
    (case ya39 => k_is); (case yl39 => k_is); (case yc39 => k_is); (case yk39 => k_is)
    (case ya40 => k_is); (case yl40 => k_is); (case yc40 => k_is); (case yk40 => k_is)
    (case ya41 => k_is); (case yl41 => k_is); (case yc41 => k_is); (case yk41 => k_is)
    (case yz0 => k_is); (case yz1 => k_is); (case yz2 => k_is); (case yz3 => k_is); (case yz4 => k_is); (case yz5 => k_is); (case yz6 => k_is); (case yz7 => k_is); (case yz8 => k_is); (case yz9 => k_is); (case yz10 => k_is); (case yz11 => k_is); (case yz12 => k_is); (case yz13 => k_is); (case yz14 => k_is); (case yz15 => k_is); (case yz16 => k_is); (case yz17 => k_is); (case yz18 => k_is)
    (case yx0 => k_is); (case yx1 => k_is); (case yx2 => k_is); (case yx3 => k_is); (case yx4 => k_is); (case yx5 => k_is); (case yx6 => k_is)
    (case ye0_0 => k_is); (case ye0_1 => k_is); (case ye0_2 => rfl); (case ye0_3 => k_is); (case ye0_4 => k_is); (case ye0_5 => k_is); (case ye0_6 => k_is); (case ye0_7 => k_is); (case ye0_8 => k_is); (case ye0_9 => k_is); (case ye0_10 => k_is); (case ye0_11 => k_is); (case ye0_12 => k_is); (case ye0_13 => k_is); (case ye0_14 => k_is); (case ye0_15 => k_is); (case ye0_16 => k_is); (case ye0_17 => k_is)
    (case ye1_0 => k_is); (case ye1_1 => k_is); (case ye1_2 => rfl); (case ye1_3 => k_is); (case ye1_4 => k_is); (case ye1_5 => k_is); (case ye1_6 => k_is); (case ye1_7 => k_is); (case ye1_8 => k_is); (case ye1_9 => k_is); (case ye1_10 => k_is); (case ye1_11 => k_is); (case ye1_12 => k_is); (case ye1_13 => k_is); (case ye1_14 => k_is); (case ye1_15 => k_is); (case ye1_16 => k_is); (case ye1_17 => k_is)
    (case ye2_0 => k_is); (case ye2_1 => k_is); (case ye2_2 => rfl); (case ye2_3 => k_is); (case ye2_4 => k_is); (case ye2_5 => k_is); (case ye2_6 => k_is); (case ye2_7 => k_is); (case ye2_8 => k_is); (case ye2_9 => k_is); (case ye2_10 => k_is); (case ye2_11 => k_is); (case ye2_12 => k_is); (case ye2_13 => k_is); (case ye2_14 => k_is); (case ye2_15 => k_is); (case ye2_16 => k_is); (case ye2_17 => k_is)
    (case ye3_0 => k_is); (case ye3_1 => k_is); (case ye3_2 => rfl); (case ye3_3 => k_is); (case ye3_4 => k_is); (case ye3_5 => k_is); (case ye3_6 => k_is); (case ye3_7 => k_is); (case ye3_8 => k_is); (case ye3_9 => k_is); (case ye3_10 => k_is); (case ye3_11 => k_is); (case ye3_12 => k_is); (case ye3_13 => k_is); (case ye3_14 => k_is); (case ye3_15 => k_is); (case ye3_16 => k_is); (case ye3_17 => k_is)
    (case ye4_0 => k_is); (case ye4_1 => k_is); (case ye4_2 => rfl); (case ye4_3 => k_is); (case ye4_4 => k_is); (case ye4_5 => k_is); (case ye4_6 => k_is); (case ye4_7 => k_is); (case ye4_8 => k_is); (case ye4_9 => k_is); (case ye4_10 => k_is); (case ye4_11 => k_is); (case ye4_12 => k_is); (case ye4_13 => k_is); (case ye4_14 => k_is); (case ye4_15 => k_is); (case ye4_16 => k_is); (case ye4_17 => k_is)
    (case yxg0 => k_is)
    (case yxg1 => k_is)
    (case yxg2 => k_is)
    (case yxg3 => k_is)
    (case yxs0 => k_is)
    (case yxs1 => k_is)
    (case yxc0 => k_is)
    (case yxm0 => k_is)
    (case yxh0 => k_is)
    (case yxp0_1 => k_is)
    (case yxp0_2 => k_is)
    (case yxp0_3 => k_is)
    (case yxp0_4 => k_is)
    (case yxc1 => k_is)
    (case yxm1 => k_is)
    (case yxh1 => k_is)
    (case yxp1_0 => k_is)
    (case yxp1_2 => k_is)
    (case yxp1_3 => k_is)
    (case yxp1_4 => k_is)
    (case yxc2 => k_is)
    (case yxm2 => k_is)
    (case yxh2 => k_is)
    (case yxp2_0 => k_is)
    (case yxp2_1 => k_is)
    (case yxp2_3 => k_is)
    (case yxp2_4 => k_is)
    (case yxc3 => k_is)
    (case yxm3 => k_is)
    (case yxh3 => k_is)
    (case yxp3_0 => k_is)
    (case yxp3_1 => k_is)
    (case yxp3_2 => k_is)
    (case yxp3_4 => k_is)
    (case yxc4 => k_is)
    (case yxm4 => k_is)
    (case yxh4 => k_is)
    (case yxp4_0 => k_is)
    (case yxp4_1 => k_is)
    (case yxp4_2 => k_is)
    (case yxp4_3 => k_is)
    (case ym0 => k_is)
    (case ym1 => rfl)
    (case ym2 => rfl)
    (case ym3 => rfl)

