import PyProof.Rows.All
import Wide.All
import OpenK.AllK
import Wide.FinOn
import HandS.ForMost
import HandS.IsInst
import HandS.FStr
import HandS.StrMore
import HandS.Style
import HandS.SortInts
import HandS.Wide
import HandS.TupAny
import HandS.TupMul
import PyProof.StrBlock2
import PyProof.ReprRoads
import PyProof.ReprText
import HandS.Codes
import PyProof.P3In
import PyProof.ReprBulk
import PyProof.EqAt
import PyProof.EqKinds
import PyProof.FactsAll.subtypes_3
import PyProof.FactsAll.subtypes_4
import PyProof.FactsAll.dict_1
import HandS.Walk
import PyProof.Draws
import PyProof.EnumFor
import PyProof.EnumMake
import KE.KExcInit
import HandS.ExcInit
import HandS.ExcField
import HandS.ExcCtx
import HandS.Star
import PyProof.ListStr
import HandS.Conv
import PyProof.NeKinds
import HandS.Hot
import HandS.HotCalls
import HandS.ExcIs
import KE.KExcIs
import KE.KTryMore
import HandS.Lambda
import HandS.Flow
import PyProof.Rows.IntBool
import HandS.EndOwn
import HandS.NestedK
import PySem.Challenge.RW_answergate_k23_any_values_as_marks_and_r
set_option Elab.async false
/-! ## Base0 -/
section
set_option linter.all false
set_option maxRecDepth 100000
namespace Ag
open PySem PySem.Spec PyProof.Rows L2
/-! ### a def's promise where it is known that no repr runs around the call -/
structure FnG (P : Program) (w : World) (K : PySem.W.Frag) (mg : Str → Option Value) (base : Heap) (k : Nat) (f : Addr) (fd : FuncData) (ps : List Str) (sp : Sp) : Prop where
  len : ∀ vs H Q E, sp vs H Q E → vs.length = ps.length
  run : ∀ (A : Around) (outer : List Env) (s : Shared) (H : Hp) (args : Args) (us : List Value) (vs : List V) (Q : VK) (E : XK), Room k A → A.guards = some [] →
    Env0 P w K mg base A outer s H → BindsTo s fd args (ps.zip us) → Vals vs us → sp vs H Q E → codeAny (model P w) A (.call (.ref f) args) (CR CX0 outer P w H s Q E) s
theorem FnG.of {P : Program} {w : World} {K : PySem.W.Frag} {mg : Str → Option Value} {base : Heap} {k : Nat} {f : Addr} {fd : FuncData} {ps : List Str} {sp : Sp} (F : FnOk P w K mg base CX0 k f fd ps sp) :
    FnG P w K mg base k f fd ps sp := ⟨F.len, fun A outer s H args us vs Q E hr _ => F.run A outer s H args us vs Q E hr⟩
theorem g_deeper {A : Around} {env : Env} (h : A.guards = some []) : (A.deeper env).guards = some [] := by
  first | exact h | (simp [Around.deeper, h])
section
variable {P : Program} {w : World} {K : PySem.W.Frag} {mg : Str → Option Value} {base : Heap}
theorem okG {x qual : Str} {st : Stmt} {f : Addr} {fd : FuncData} {N ps : List Str} {k : Nat} {sp : Sp} (F : Fun K x qual st f fd) (S : FnScope N ps (defScope st))
    (len : ∀ vs H Q E, sp vs H Q E → vs.length = ps.length)
    (hbody : ∀ (cdv : Value) (A : Around) (outer : List Env) (s : Shared) (H : Hp) (vs : List V) (Q : VK) (E : XK), Room k (A.deeper (envOfC qual (defScope st) s.heap.objs.size f cdv)) →
      (A.deeper (envOfC qual (defScope st) s.heap.objs.size f cdv)).guards = some [] → sp vs H Q E →
      ∃ t, PSs (cxOf CX0 P w K mg base N qual (defScope st) f cdv A outer s H E).nox (defBody st) t ∧ t { nx := fun _ H' => Q .non H', rt := Q } (start N vs) H) :
    FnG P w K mg base (k + 1) f fd ps sp := by
  obtain ⟨oc, od, kV, doc, pm, an, cdv, ct, osl, rfl, lk, hcd⟩ := F.ex
  refine ⟨len, ?_⟩
  intro A outer s H args us vs Q E hr hg env0 hb rel hsp
  have hlen := len vs H Q E hsp
  have below : ∀ b o, base.get? b = some o → s.heap.get? b = some o := fun b o e => (env0.bs b o e).1
  have KX : K.In s.heap := env0.mod.kin.keeps below
  have noLim : s.heap.NoLimit := env0.mod.nolimit.keeps below
  have kinds : ∀ y ∈ ps.zip us, (defScope st).names.lookup y.1 = some .local ∨ ((defScope st).names.lookup y.1 = some .cell ∧ ((cellsFrom (s.heap.objs.size + 1) (defScope st).names []).lookup y.1).isSome = true) := by
    rintro ⟨n, v⟩ hy
    exact (S.par n (List.of_mem_zip hy).1).imp id fun q => ⟨q, PySem.W.cellsFrom_some _ _ _ (.inl q)⟩
  refine codeAny_call_function hr.depth (KX f _ lk) rfl S.co S.gen rfl (PySem.W.codeRec_of KX hcd) (hb _ _ _ _ (wpAny_newFunctionEnv_cells S.kind kinds ?_))
  intro env he s1 x
  subst he
  refine ⟨noLim.keeps x.toInCall.keep, codeAny_func ?_⟩
  obtain ⟨t, ht, hq⟩ := hbody cdv A outer s H vs Q E (hr.deeper _) (g_deeper hg) hsp
  have I := inv_start (CX := CX0) (E := E) S hr.hd env0 hlen rel x
  refine wpAny_mono (ht.nox.run [] s1 (start N vs) H _ I hq) (fun fl s' hs => ?_) (fun e s' hs => hs)
  cases fl with
  | brk => exact hs.elim fun _ z => z.elim fun _ z => z.2.elim
  | cont => exact hs.elim fun _ z => z.elim fun _ z => z.2.elim
  | next =>
    obtain ⟨σ', H', J, q⟩ := hs
    exact ⟨.non, H', J.os, J.bare, J.base, J.hok, rfl, q⟩
  | ret u =>
    obtain ⟨v, σ', H', J, rv, q⟩ := hs
    exact ⟨v, H', J.os, J.bare, J.base, J.hok, rv, q⟩
end
section
variable {X : Cx} {k : Nat} {f : Addr} {fd : FuncData} {ps : List Str} {sp : Sp} {x : Str} {p pos : Pos} {e : Expr} {es : List Expr} {t : TA}
theorem run_G {pins : List (Addr × Obj)} {σ : L2.St} {H : Hp} {s : Shared} {Q : VK} {us : List Value} {vs : List V} {args : Args} (F : FnG X.prog X.w X.K X.mg X.base k f fd ps sp) (hr : Room k X.A) (hG : X.A.guards = some [])
    (I : Inv X pins σ H s) (hb : BindsTo s fd args (ps.zip us)) (r : Vals vs us) (h : sp vs H Q E0) : codeAny (model X.prog X.w) X.A (.call (.ref f) args) (fun r s' => ∃ u, r = .ok (.ret u) ∧ EP X pins σ Q u s') s := by
  refine codeAny_mono (F.run X.A X.stack s H args us vs Q E0 hr hG I.env0 hb r h) ?_
  intro r s' hq
  match r, hq with
  | .error e, hq => exact hq.elim
  | .ok (.ret u), hq => exact ⟨u, rfl, I.after hq⟩
/-- f(e, ..) -/
theorem pe_callG (F : FnG X.prog X.w X.K X.mg X.base k f fd ps sp) (hr : Room k X.A) (hG : X.A.guards = some []) (hg : Gl X x) (hm : X.mg x = some (.ref f)) (hk : PySem.W.keepIn X.K (.ref f) = true) (hb : Binds X.K fd ps [])
    (ha : PA X (e :: es) t) (hdb : (x == ("__debug__" : Str)) = false := by decide) (he : starEach (e :: es) X.env = (false, eval e X.env) :: starEach es X.env := by rfl) (hpl : (backTo pos (starEach es X.env)).any (·.1) = false := by rfl) :
    PE X (.Call (.Name x p) (e :: es) [] pos) (tCall sp [] E0 t) := by
  constructor
  intro pins s σ H Q I h
  refine wpAny_Call_Name_kw (ld_glob I hg hm (PySem.W.callWith_K (h₀ := X.base) I.ok.mod.kin hk (thn (ha.run pos pins s σ H _ I h) ?_) he hpl) hdb)
  rintro us s1 ⟨vs, H1, I1, r, q⟩
  rw [List.append_nil] at q
  have hl : us.length = ps.length := by rw [← r.length]; exact F.len _ _ _ _ q
  have z := hb s1 us I1.kIn (by rw [List.append_nil]; exact hl)
  rw [List.append_nil] at z
  refine ⟨I1.kIn, ?_⟩
  show wpAny _ _ (call (.ref f) us) _ _ _
  refine wpAny_call (codeAny_mono (run_G F hr hG I1 z r q) ?_)
  rintro r s' ⟨u, rfl, z⟩
  exact z
/-- f(k = e, ..), keywords alone -/
structure KwB (K : PySem.W.Frag) (fd : FuncData) (ps ks : List Str) (gv : List Value → List Value) (gV : List V → List V) : Prop where
  to : ∀ (s : Shared) (ws : List Value), ws.length = ks.length → BindsTo s fd ⟨[], ks.zip ws⟩ (ps.zip (gv ws))
  rel : ∀ {zs : List V} {ws : List Value}, zs.length = ks.length → Vals zs ws → Vals (gV zs) (gv ws)
def tCallKw (sp : Sp) (n : Nat) (gV : List V → List V) (t : TA) : TE := fun σ H Q => t σ H fun zs H2 => zs.length = n ∧ sp (gV zs) H2 Q E0
variable {ks : List Str} {gv : List Value → List Value} {gV : List V → List V} {kws : List Keyword}
theorem pe_callKwG (F : FnG X.prog X.w X.K X.mg X.base k f fd ps sp) (hr : Room k X.A) (hG : X.A.guards = some []) (hg : Gl X x) (hm : X.mg x = some (.ref f)) (hk : PySem.W.keepIn X.K (.ref f) = true) (hb : KwB X.K fd ps ks gv gV)
    (ha : PK X kws t) (hall : (backToKw pos (keywordEach kws X.env)).all (·.1.isSome) = true := by rfl) (hks : (backToKw pos (keywordEach kws X.env)).filterMap (·.1) = ks := by rfl) (hdb : (x == ("__debug__" : Str)) = false := by decide)
    (hpl : ((backTo pos (starEach [] X.env)).any (·.1) || (backToKw pos (keywordEach kws X.env)).any (·.1.isNone)) = false := by rfl) : PE X (.Call (.Name x p) [] kws pos) (tCallKw sp ks.length gV t) := by
  constructor
  intro pins s σ H Q I h
  refine wpAny_Call_Name_kw (ld_glob I hg hm (PySem.W.callWith_KW0 (h₀ := X.base) I.ok.mod.kin hk hall (thn (ha.run pos pins s σ H _ I h) ?_) hpl) hdb)
  rintro ws s2 ⟨zs, H2, I2, rz, l, q⟩
  refine ⟨I2.kIn, ?_⟩
  rw [hks]
  refine wpAny_call (codeAny_mono (run_G (args := ⟨[], ks.zip ws⟩) F hr hG I2 (hb.to s2 ws (by rw [← rz.length]; exact l)) (hb.rel l rz) q) ?_)
  rintro r s' ⟨u, rfl, z⟩
  exact z
/-! ### repr of data -/
theorem call_repr_data (hu : X.A.units + 66 < cLine) (hG : X.A.guards = some []) : CallR X (.builtin "repr") (fun xs H Q => ∃ x d, xs = [x] ∧ Dp X.K H x d ∧ d.showable = true ∧ d.hasDict = false ∧ d.depth ≤ 64 ∧ d.shown.length ≤ sizeLine ∧ Q (.str d.shown) H) := by
  intro pins s σ H vs us Q I r h
  obtain ⟨x, d, rfl, hd, h1, h2, h3, h4, q⟩ := h
  obtain ⟨u, rfl, ru⟩ := vals1 r
  cases x with
  | ref a =>
    obtain ⟨as, rd⟩ := Dp.reads I d (.ref a) u hd ru
    obtain rfl : u = Value.ref a := ru
    refine repr_of_reads' rd h1 (fun z => by rw [h2] at z; cases z) hG (by omega) (fun _ _ e => e) (fun h' u tk kp => ?_) h4
    exact ⟨.str d.shown, H, I.kept kp, ⟨_, rfl⟩, q⟩
  | non =>
    cases hd
    obtain rfl : u = Value.none := ru
    exact PySem.P.repr_of_none ⟨.str _, H, I.tok _, ⟨_, rfl⟩, by rw [PyData.shown_none] at q; exact q⟩
  | bl b =>
    cases hd
    obtain rfl : u = Value.bool b := ru
    exact PySem.P.repr_of_bool ⟨.str _, H, I.tok _, ⟨_, rfl⟩, by rw [PyData.shown_bool] at q; exact q⟩
  | int i =>
    cases hd
    obtain ⟨t, rfl⟩ := ru
    exact PySem.P.repr_of_int (by simpa [PyData.showable] using h1) ⟨.str _, H, I.tok _, ⟨_, rfl⟩, by rw [PyData.shown_int] at q; exact q⟩
  | str z =>
    cases hd
    obtain ⟨t, rfl⟩ := ru
    rw [PyData.shown_str] at q h4
    exact PySem.P.repr_of_str ⟨.str _, H, I.tok _, ⟨_, rfl⟩, q⟩ h4
  | byt b => cases hd
  | flt b => cases hd
  | ty n => cases hd
end
end Ag

end
/-! ## Prog -/
section
set_option linter.all false
set_option maxRecDepth 100000
namespace Ag
open PySem PySem.Spec PyProof.Rows L2
/-! ### the text by places -/
def top (i : Nat) : Stmt := PySem.Challenge.pw_answergate_k23_any_values_as_marks_and_r.main.body.getD i (.Pass ⟨0, 0, 0, 0⟩)
abbrev s_is_integer : Stmt := top 1
abbrev N_is_integer : List Str := ["thing"]
theorem sc_is_integer : FnScope N_is_integer ["thing"] (defScope s_is_integer) := ⟨rfl, rfl, rfl, by decide +kernel, rfl, by decide +kernel, by decide +kernel⟩
abbrev s_is_health_rule : Stmt := top 10
abbrev N_is_health_rule : List Str := ["thing", "_", "first", "most", "number"]
theorem sc_is_health_rule : FnScope N_is_health_rule ["thing"] (defScope s_is_health_rule) := ⟨rfl, rfl, rfl, by decide +kernel, rfl, by decide +kernel, by decide +kernel⟩
abbrev s_is_mark : Stmt := top 11
abbrev N_is_mark : List Str := ["rule", "thing", "is_up", "run", "wait", "due", "rise", "fall", "first", "_", "number"]
theorem sc_is_mark : FnScope N_is_mark ["rule", "thing"] (defScope s_is_mark) := ⟨rfl, rfl, rfl, by decide +kernel, rfl, by decide +kernel, by decide +kernel⟩
abbrev s_doubled_waits : Stmt := top 12
abbrev N_doubled_waits : List Str := ["rule", "_", "first", "most", "waits"]
theorem sc_doubled_waits : FnScope N_doubled_waits ["rule"] (defScope s_doubled_waits) := ⟨rfl, rfl, rfl, by decide +kernel, rfl, by decide +kernel, by decide +kernel⟩
abbrev s_new_mark : Stmt := top 13
abbrev N_new_mark : List Str := ["rule", "_", "first"]
theorem sc_new_mark : FnScope N_new_mark ["rule"] (defScope s_new_mark) := ⟨rfl, rfl, rfl, by decide +kernel, rfl, by decide +kernel, by decide +kernel⟩
abbrev s_looked : Stmt := top 14
abbrev N_looked : List Str := ["rule", "mark", "is_good", "now", "rise", "fall", "first", "most", "is_up", "run", "wait", "_"]
theorem sc_looked : FnScope N_looked ["rule", "mark", "is_good", "now"] (defScope s_looked) := ⟨rfl, rfl, rfl, by decide +kernel, rfl, by decide +kernel, by decide +kernel⟩
abbrev s_is_due : Stmt := top 15
abbrev N_is_due : List Str := ["rule", "mark", "now"]
theorem sc_is_due : FnScope N_is_due ["rule", "mark", "now"] (defScope s_is_due) := ⟨rfl, rfl, rfl, by decide +kernel, rfl, by decide +kernel, by decide +kernel⟩
abbrev s__law_deck : Stmt := top 17
abbrev N__law_deck : List Str := ["_law_script", "_law_mixed", "_law_cell"]
theorem sc__law_deck : FnScope N__law_deck ["_law_script"] (defScope s__law_deck) := ⟨rfl, rfl, rfl, by decide +kernel, rfl, by decide +kernel, by decide +kernel⟩
abbrev s__law_draw : Stmt := top 18
abbrev N__law_draw : List Str := ["_law_deck_here", "_law_many", "_law_figure", "_law_cell"]
theorem sc__law_draw : FnScope N__law_draw ["_law_deck_here", "_law_many"] (defScope s__law_draw) := ⟨rfl, rfl, rfl, by decide +kernel, rfl, by decide +kernel, by decide +kernel⟩
abbrev s__law_pick : Stmt := top 19
abbrev N__law_pick : List Str := ["_law_deck_here", "_law_some"]
theorem sc__law_pick : FnScope N__law_pick ["_law_deck_here", "_law_some"] (defScope s__law_pick) := ⟨rfl, rfl, rfl, by decide +kernel, rfl, by decide +kernel, by decide +kernel⟩
abbrev s__law_is_int : Stmt := top 20
abbrev N__law_is_int : List Str := ["_law_thing", "_law_low", "_law_high"]
theorem sc__law_is_int : FnScope N__law_is_int ["_law_thing", "_law_low", "_law_high"] (defScope s__law_is_int) := ⟨rfl, rfl, rfl, by decide +kernel, rfl, by decide +kernel, by decide +kernel⟩
abbrev s__law_is_tuple : Stmt := top 21
abbrev N__law_is_tuple : List Str := ["_law_thing", "_law_many"]
theorem sc__law_is_tuple : FnScope N__law_is_tuple ["_law_thing", "_law_many"] (defScope s__law_is_tuple) := ⟨rfl, rfl, rfl, by decide +kernel, rfl, by decide +kernel, by decide +kernel⟩
abbrev s__law_is_rule : Stmt := top 22
abbrev N__law_is_rule : List Str := ["_law_thing", "_law_one"]
theorem sc__law_is_rule : FnScope N__law_is_rule ["_law_thing"] (defScope s__law_is_rule) := ⟨rfl, rfl, rfl, by decide +kernel, rfl, by decide +kernel, by decide +kernel⟩
abbrev s__law_is_mark : Stmt := top 23
abbrev N__law_is_mark : List Str := ["_law_rule", "_law_thing", "_law_rise", "_law_fall", "_law_first", "_law_most", "_law_waits", "_law_turn", "_law_one"]
theorem sc__law_is_mark : FnScope N__law_is_mark ["_law_rule", "_law_thing"] (defScope s__law_is_mark) := ⟨rfl, rfl, rfl, by decide +kernel, rfl, by decide +kernel, by decide +kernel⟩
abbrev s__law_looked : Stmt := top 24
abbrev N__law_looked : List Str := ["_law_rule", "_law_mark", "_law_is_good", "_law_now", "_law_is_up", "_law_run", "_law_wait", "_law_due_here"]
theorem sc__law_looked : FnScope N__law_looked ["_law_rule", "_law_mark", "_law_is_good", "_law_now"] (defScope s__law_looked) := ⟨rfl, rfl, rfl, by decide +kernel, rfl, by decide +kernel, by decide +kernel⟩
abbrev s__law_tried : Stmt := top 25
abbrev N__law_tried : List Str := ["_law_call", "_law_told", "_law_words", "e", "_law_word", "_law_is_it"]
theorem sc__law_tried : FnScope N__law_tried ["_law_call"] (defScope s__law_tried) := ⟨rfl, rfl, rfl, by decide +kernel, rfl, by decide +kernel, by decide +kernel⟩
abbrev s__law_near : Stmt := top 26
abbrev N__law_near : List Str := ["_law_deck_here", "_law_thing", "_law_at", "_law_way", "_law_one", "_law_some"]
theorem sc__law_near : FnScope N__law_near ["_law_deck_here", "_law_thing"] (defScope s__law_near) := ⟨rfl, rfl, rfl, by decide +kernel, rfl, by decide +kernel, by decide +kernel⟩
abbrev s__law_drawn_mark : Stmt := top 27
abbrev N__law_drawn_mark : List Str := ["_law_deck_here", "_law_rule", "_law_wait", "_law_found", "_law_turn"]
theorem sc__law_drawn_mark : FnScope N__law_drawn_mark ["_law_deck_here", "_law_rule"] (defScope s__law_drawn_mark) := ⟨rfl, rfl, rfl, by decide +kernel, rfl, by decide +kernel, by decide +kernel⟩
abbrev s__law_due : Stmt := top 28
abbrev N__law_due : List Str := ["_law_rule", "_law_mark", "_law_is_good", "_law_now"]
theorem sc__law_due : FnScope N__law_due ["_law_rule", "_law_mark", "_law_is_good", "_law_now"] (defScope s__law_due) := ⟨rfl, rfl, rfl, by decide +kernel, rfl, by decide +kernel, by decide +kernel⟩
abbrev s_law : Stmt := top 29
abbrev N_law : List Str := ["_law_script", "_law_deck_here", "_law_turn", "_law_most", "_law_waits", "_law_rule", "_law_odd", "_law_mark", "_law_due_here", "_law_is_good", "_law_now"]
theorem sc_law : FnScope N_law ["_law_script"] (defScope s_law) := ⟨rfl, rfl, rfl, by decide +kernel, rfl, by decide +kernel, by decide +kernel⟩
abbrev s_BadNumber : Stmt := inClass (top 4) 0
theorem sc_BadNumber : FnScope ["self", "thing"] ["self", "thing"] (defScope s_BadNumber) := ⟨rfl, rfl, rfl, by decide +kernel, rfl, by decide +kernel, by decide +kernel⟩
abbrev s_BadRule : Stmt := inClass (top 5) 0
theorem sc_BadRule : FnScope ["self", "thing"] ["self", "thing"] (defScope s_BadRule) := ⟨rfl, rfl, rfl, by decide +kernel, rfl, by decide +kernel, by decide +kernel⟩
abbrev s_BadMark : Stmt := inClass (top 6) 0
theorem sc_BadMark : FnScope ["self", "thing"] ["self", "thing"] (defScope s_BadMark) := ⟨rfl, rfl, rfl, by decide +kernel, rfl, by decide +kernel, by decide +kernel⟩
abbrev s_BadBool : Stmt := inClass (top 7) 0
theorem sc_BadBool : FnScope ["self", "thing"] ["self", "thing"] (defScope s_BadBool) := ⟨rfl, rfl, rfl, by decide +kernel, rfl, by decide +kernel, by decide +kernel⟩
structure Fn (K : PySem.W.Frag) (mg : Str → Option Value) (x : Str) (st : Stmt) (ps : List Str) (f : Addr) (fd : FuncData) : Prop where
  F : Fun K x x st f fd
  b : Binds K fd ps []
  g : mg x = some (.ref f)
structure Blt (mg : Str → Option Value) : Prop where
  n_len : mg "len" = none
  n_int : mg "int" = none
  n_str : mg "str" = none
  n_isinstance : mg "isinstance" = none
  n_range : mg "range" = none
  n_tuple : mg "tuple" = none
  n_list : mg "list" = none
  n_max : mg "max" = none
  n_min : mg "min" = none
  n_sorted : mg "sorted" = none
  n_repr : mg "repr" = none
  n_bool : mg "bool" = none
  n_all : mg "all" = none
structure Con (mg : Str → Option Value) (tr : Tok) : Prop extends Blt mg where
  g_RULE_MOST : mg "RULE_MOST" = some (.int 99 tr)
end Ag

end
/-! ## Math1 -/
section
set_option linter.all false
namespace Ag
open PySem
/-! ### decimal texts -/
abbrev numL := TL.numL
abbrev digitsVal := NumText.digitsVal
def plainC (c : Nat) : Bool := decide (32 ≤ c) && decide (c ≤ 126)
def digC (c : Nat) : Bool := decide (48 ≤ c) && decide (c ≤ 57)
def plainL (l : List Nat) : Bool := l.all plainC
def isDec (l : List Nat) (m : Nat) : Bool := decide (numL (digitsVal l) = l) && decide (digitsVal l ≤ m)
theorem dv_snoc (l : List Nat) (c : Nat) : digitsVal (l ++ [c]) = digitsVal l * 10 + (c - 48) := by
  show List.foldl _ 0 (l ++ [c]) = _
  rw [List.foldl_append]
  rfl
theorem isDec_iff {l : List Nat} {m : Nat} : isDec l m = true ↔ ∃ k, k ≤ m ∧ l = numL k := by
  unfold isDec
  rw [Bool.and_eq_true, decide_eq_true_eq, decide_eq_true_eq]
  constructor
  · rintro ⟨a, b⟩
    exact ⟨_, b, a.symm⟩
  · rintro ⟨k, hk, rfl⟩
    have e : digitsVal (numL k) = k := TL.numL_val k
    rw [e]
    exact ⟨rfl, hk⟩
theorem numL_all (k : Nat) : ∀ c ∈ numL k, 48 ≤ c ∧ c ≤ 57 := TL.numL_digits k
theorem numL_ne (k : Nat) : numL k ≠ [] := TL.numL_ne k
theorem numL_val (k : Nat) : digitsVal (numL k) = k := TL.numL_val k
theorem numL_zero_head : ∀ (k : Nat) (l : List Nat), numL k = 48 :: l → k = 0 := by
  intro k
  induction k using Nat.strongRecOn with
  | ind k ih =>
    intro l h
    by_cases hk : k < 10
    · have e : numL k = [48 + k] := TL.numL_lt hk
      rw [e] at h
      injection h with h1 h2
      omega
    · have e : numL k = numL (k / 10) ++ [48 + k % 10] := TL.numL_step (by omega)
      rw [e] at h
      have hne := numL_ne (k / 10)
      cases hq : numL (k / 10) with
      | nil => exact absurd hq hne
      | cons d r =>
        rw [hq] at h
        injection h with h1 h2
        subst h1
        have z := ih (k / 10) (by omega) r hq
        omega
/-- one more digit -/
theorem isDec_snoc {s : List Nat} {c m : Nat} (hs : s = [] ∨ ∃ k, s = numL k) :
    isDec (s ++ [c]) m = (digC c && decide (s ≠ [48]) && decide (digitsVal (s ++ [c]) ≤ m)) := by
  rw [Bool.eq_iff_iff, isDec_iff]
  simp only [Bool.and_eq_true, decide_eq_true_eq, digC]
  constructor
  · rintro ⟨k, hk, e⟩
    have hc : 48 ≤ c ∧ c ≤ 57 := numL_all k c (by rw [← e]; simp)
    refine ⟨⟨hc, ?_⟩, ?_⟩
    · rintro rfl
      have z := numL_zero_head k [c] e.symm
      subst z
      have e2 : numL 0 = [48] := TL.numL_lt (by decide)
      rw [e2] at e
      simp at e
    · rw [e, numL_val]
      exact hk
  · rintro ⟨⟨hc, hne⟩, hv⟩
    refine ⟨digitsVal (s ++ [c]), hv, ?_⟩
    rw [dv_snoc]
    rcases hs with rfl | ⟨k, rfl⟩
    · show [c] = numL (0 * 10 + (c - 48))
      have e : numL (0 * 10 + (c - 48)) = [48 + (0 * 10 + (c - 48))] := TL.numL_lt (by omega)
      rw [e]
      congr 1
      omega
    · rw [numL_val]
      have hk : k ≠ 0 := by
        rintro rfl
        exact hne (TL.numL_lt (by decide))
      have e : numL (k * 10 + (c - 48)) = numL ((k * 10 + (c - 48)) / 10) ++ [48 + (k * 10 + (c - 48)) % 10] := TL.numL_step (by omega)
      rw [e, show (k * 10 + (c - 48)) / 10 = k by omega, show 48 + (k * 10 + (c - 48)) % 10 = c by omega]
theorem isDec_nil (m : Nat) : isDec [] m = false := by
  cases h : isDec [] m with
  | false => rfl
  | true =>
    obtain ⟨k, _, e⟩ := isDec_iff.mp h
    exact absurd e.symm (numL_ne k)
theorem numL_len3 {k : Nat} (h : k ≤ 200) : (numL k).length ≤ 3 := TL.numL_len (by decide) (by omega)
/-! ### reading, sign by sign -/
inductive Out where
  | read (ts : List (List Nat)) (r : List Nat)
  | wrong (ts : List (List Nat)) (k : Nat)
  deriving DecidableEq
def Out.pre (ts : List (List Nat)) (i : Nat) : Out → Out
  | .read us r => .read (ts ++ us) r
  | .wrong us k => .wrong (ts ++ us) (i + k)
theorem Out.pre_pre (ts us : List (List Nat)) (i j : Nat) (o : Out) : (o.pre us j).pre ts i = o.pre (ts ++ us) (i + j) := by
  cases o <;> simp [Out.pre, Nat.add_assoc]
theorem Out.pre_nil (o : Out) : o.pre [] 0 = o := by cases o <;> simp [Out.pre]
def glue (s : List Nat) : Option (List Nat) → List Nat
  | none => s
  | some t => s ++ 58 :: t
/-- one sign: none if it is wrong; else the text that is complete, if there is one, and the next state -/
def stp (s : List Nat) (t : Option (List Nat)) (c : Nat) : Option (Option (List Nat) × List Nat × Option (List Nat)) :=
  match t with
  | none => if c = 58 ∧ s ≠ [] then some (none, s, some []) else if isDec (s ++ [c]) 200 = true then some (none, s ++ [c], none) else none
  | some t => if t.length < digitsVal s then (if plainC c = true then some (none, s, some (t ++ [c])) else none) else if c = 44 then some (some t, [], none) else none
def lr (s : List Nat) (t : Option (List Nat)) : List Nat → Out
  | [] => .read [] (glue s t)
  | c :: cs => match stp s t c with
    | none => .wrong [] 0
    | some (o, s', t') => (lr s' t' cs).pre o.toList 1
/-- states that can be -/
def Vd (s : List Nat) : Option (List Nat) → Prop
  | none => s = [] ∨ ∃ k, k ≤ 200 ∧ s = numL k
  | some t => (∃ k, k ≤ 200 ∧ s = numL k ∧ t.length ≤ k) ∧ plainL t = true
theorem plainL_snoc {t : List Nat} {c : Nat} : plainL (t ++ [c]) = (plainL t && plainC c) := by
  simp [plainL, List.all_append]
theorem Vd.step {s : List Nat} {t : Option (List Nat)} {c : Nat} (v : Vd s t) {o : Option (List Nat)} {s' : List Nat} {t' : Option (List Nat)} (h : stp s t c = some (o, s', t')) : Vd s' t' := by
  cases t with
  | none =>
    simp only [stp] at h
    split at h
    · rename_i q
      cases h
      rcases v with rfl | ⟨k, hk, e⟩
      · exact absurd rfl q.2
      · exact ⟨⟨k, hk, e, Nat.zero_le _⟩, rfl⟩
    · split at h
      · rename_i q
        cases h
        exact .inr (isDec_iff.mp q)
      · cases h
  | some t =>
    simp only [stp] at h
    obtain ⟨⟨k, hk, e, hl⟩, hp⟩ := v
    split at h
    · rename_i q
      split at h
      · rename_i hc
        cases h
        refine ⟨⟨k, hk, e, ?_⟩, by rw [plainL_snoc, hp, hc]; rfl⟩
        rw [e, numL_val] at q
        simp
        omega
      · cases h
    · split at h
      · cases h
        exact .inl rfl
      · cases h
/-- the state of a rest -/
def spS (r : List Nat) : List Nat := match TL.par [58] [] r with | some (p, _) => p | none => r
def spT (r : List Nat) : Option (List Nat) := match TL.par [58] [] r with | some (_, q) => some q | none => none
theorem colon_free {k : Nat} : 58 ∉ numL k := TL.numL_free (.inr (by decide))
theorem Vd.free {s : List Nat} {t : Option (List Nat)} (v : Vd s t) : 58 ∉ s := by
  cases t with
  | none =>
    rcases v with rfl | ⟨k, _, rfl⟩
    · exact List.not_mem_nil
    · exact colon_free
  | some t =>
    obtain ⟨⟨k, _, rfl, _⟩, _⟩ := v
    exact colon_free
theorem par_glue {s : List Nat} {t : Option (List Nat)} (h : 58 ∉ s) : TL.par [58] [] (glue s t) = t.map fun t => (s, t) := by
  cases t with
  | none => exact SX.par_head_none h
  | some t => exact SX.par_head t h
theorem sp_glue {s : List Nat} {t : Option (List Nat)} (v : Vd s t) : spS (glue s t) = s ∧ spT (glue s t) = t := by
  unfold spS spT
  rw [par_glue v.free]
  cases t <;> exact ⟨rfl, rfl⟩
/-- reading leads to a rest -/
theorem lr_rest : ∀ (l : List Nat) {s : List Nat} {t : Option (List Nat)} {ts : List (List Nat)} {r : List Nat}, Vd s t → lr s t l = .read ts r → ∃ s' t', Vd s' t' ∧ r = glue s' t'
  | [], s, t, ts, r, v, h => by
    simp only [lr] at h
    cases h
    exact ⟨s, t, v, rfl⟩
  | c :: cs, s, t, ts, r, v, h => by
    simp only [lr] at h
    cases hs : stp s t c with
    | none => rw [hs] at h; cases h
    | some p =>
      obtain ⟨o, s', t'⟩ := p
      rw [hs] at h
      simp only at h
      cases hl : lr s' t' cs with
      | wrong us k => rw [hl] at h; cases h
      | read us r' =>
        rw [hl] at h
        cases h
        exact lr_rest cs (v.step hs) hl
/-- two strings, one behind the other -/
def Out.thn (n : Nat) (o : Out) (k : List Nat → Out) : Out := match o with
  | .read ts r => (k r).pre ts n
  | .wrong ts i => .wrong ts i
theorem lr_app : ∀ (a b : List Nat) {s : List Nat} {t : Option (List Nat)}, Vd s t → lr s t (a ++ b) = (lr s t a).thn a.length fun r => lr (spS r) (spT r) b
  | [], b, s, t, v => by
    show lr s t b = (lr (spS (glue s t)) (spT (glue s t)) b).pre [] 0
    rw [(sp_glue v).1, (sp_glue v).2, Out.pre_nil]
  | c :: cs, b, s, t, v => by
    show lr s t (c :: (cs ++ b)) = _
    simp only [lr]
    cases hs : stp s t c with
    | none => rfl
    | some p =>
      obtain ⟨o, s', t'⟩ := p
      simp only
      rw [lr_app cs b (v.step hs)]
      cases lr s' t' cs with
      | wrong us k => rfl
      | read us r' =>
        show Out.pre o.toList 1 (Out.pre us cs.length (lr (spS r') (spT r') b)) = Out.pre (o.toList ++ us) (cs.length + 1) (lr (spS r') (spT r') b)
        rw [Out.pre_pre, Nat.add_comm 1]
/-! ### the program's way: one frame after the other -/
/-- how many of the signs are digits of a length -/
def dgs (s : List Nat) : List Nat → Nat
  | [] => 0
  | c :: cs => if isDec (s ++ [c]) 200 = true then dgs (s ++ [c]) cs + 1 else 0
theorem dgs_le : ∀ (l s : List Nat), dgs s l ≤ l.length
  | [], _ => Nat.le_refl _
  | c :: cs, s => by
    unfold dgs
    split
    · have := dgs_le cs (s ++ [c])
      simp
      exact this
    · exact Nat.zero_le _
theorem lr_dgs : ∀ (l : List Nat) {s : List Nat}, Vd s none → lr s none l = (lr (s ++ l.take (dgs s l)) none (l.drop (dgs s l))).pre [] (dgs s l) ∧ Vd (s ++ l.take (dgs s l)) none ∧
    (∀ c cs, l.drop (dgs s l) = c :: cs → isDec (s ++ l.take (dgs s l) ++ [c]) 200 = false)
  | [], s, v => by
    refine ⟨?_, ?_, fun c cs h => ?_⟩
    · simp [dgs, Out.pre_nil]
    · simpa [dgs] using v
    · simp at h
  | c :: cs, s, v => by
    by_cases h : isDec (s ++ [c]) 200 = true
    · have hd : dgs s (c :: cs) = dgs (s ++ [c]) cs + 1 := by
        show (if isDec (s ++ [c]) 200 = true then _ else _) = _
        rw [if_pos h]
      have hc : c ≠ 58 := by
        obtain ⟨k, _, e⟩ := isDec_iff.mp h
        have := numL_all k c (by rw [← e]; simp)
        omega
      have v' : Vd (s ++ [c]) none := .inr (isDec_iff.mp h)
      obtain ⟨i1, i2, i3⟩ := lr_dgs cs v'
      have es : stp s none c = some (none, s ++ [c], none) := by
        show (if c = 58 ∧ s ≠ [] then _ else if isDec (s ++ [c]) 200 = true then _ else _) = _
        rw [if_neg (fun z => hc z.1), if_pos h]
      have el : lr s none (c :: cs) = (lr (s ++ [c]) none cs).pre [] 1 := by
        simp only [lr, es]
        rfl
      have ea : s ++ [c] ++ cs.take (dgs (s ++ [c]) cs) = s ++ (c :: cs).take (dgs (s ++ [c]) cs + 1) := by simp
      rw [hd, el, i1, Out.pre_pre, ea]
      rw [ea] at i2 i3
      refine ⟨?_, i2, fun d ds hq => i3 d ds (by simpa using hq)⟩
      rw [List.drop_succ_cons, Nat.add_comm]
      rfl
    · have hd : dgs s (c :: cs) = 0 := by
        show (if isDec (s ++ [c]) 200 = true then _ else _) = _
        rw [if_neg h]
      rw [hd]
      refine ⟨by simp [Out.pre_nil], by simpa using v, fun d ds hq => ?_⟩
      simp at hq
      obtain ⟨rfl, rfl⟩ := hq
      simpa using h
/-- how many signs ahead of the first one that no text has -/
def pls : List Nat → Nat
  | [] => 0
  | c :: cs => if plainC c = true then pls cs + 1 else 0
theorem pls_le : ∀ l : List Nat, pls l ≤ l.length
  | [] => Nat.le_refl _
  | c :: cs => by
    unfold pls
    split
    · have := pls_le cs
      simp
      exact this
    · exact Nat.zero_le _
theorem pls_all {l : List Nat} (h : plainL l = true) : pls l = l.length := by
  induction l with
  | nil => rfl
  | cons c cs ih =>
    have h' : plainC c = true ∧ plainL cs = true := by simpa [plainL] using h
    show (if plainC c = true then pls cs + 1 else 0) = _
    rw [if_pos h'.1, ih h'.2]
    rfl
theorem pls_lt {l : List Nat} (h : plainL l = false) : pls l < l.length ∧ ∃ c, l[pls l]? = some c ∧ plainC c = false := by
  induction l with
  | nil => cases h
  | cons c cs ih =>
    by_cases hc : plainC c = true
    · have h' : plainL cs = false := by
        have z : (plainC c && plainL cs) = false := h
        rw [hc] at z
        exact z
      obtain ⟨a, d, b1, b2⟩ := ih h'
      have e : pls (c :: cs) = pls cs + 1 := by
        show (if plainC c = true then pls cs + 1 else 0) = _
        rw [if_pos hc]
      rw [e]
      exact ⟨by simp; exact a, d, by simpa using b1, b2⟩
    · have e : pls (c :: cs) = 0 := by
        show (if plainC c = true then pls cs + 1 else 0) = _
        rw [if_neg hc]
      rw [e]
      exact ⟨by simp, c, by simp, by simpa using hc⟩
theorem pls_plain : ∀ l : List Nat, plainL (l.take (pls l)) = true
  | [] => rfl
  | c :: cs => by
    by_cases hc : plainC c = true
    · have e : pls (c :: cs) = pls cs + 1 := by
        show (if plainC c = true then pls cs + 1 else 0) = _
        rw [if_pos hc]
      rw [e, List.take_succ_cons]
      show (plainC c && plainL (cs.take (pls cs))) = true
      rw [hc, pls_plain cs]
      rfl
    · have e : pls (c :: cs) = 0 := by
        show (if plainC c = true then pls cs + 1 else 0) = _
        rw [if_neg hc]
      rw [e]
      rfl
/-- the signs of a text -/
theorem lr_text : ∀ (a : List Nat) (l : List Nat) {s t : List Nat}, plainL a = true → t.length + a.length ≤ digitsVal s → lr s (some t) (a ++ l) = (lr s (some (t ++ a)) l).pre [] a.length
  | [], l, s, t, _, _ => by simp [Out.pre_nil]
  | c :: cs, l, s, t, hp, hl => by
    have hp' : plainC c = true ∧ plainL cs = true := by simpa [plainL] using hp
    simp only [List.length_cons] at hl
    have es : stp s (some t) c = some (none, s, some (t ++ [c])) := by
      show (if t.length < digitsVal s then _ else _) = _
      rw [if_pos (by omega), if_pos hp'.1]
    have el : lr s (some t) (c :: (cs ++ l)) = (lr s (some (t ++ [c])) (cs ++ l)).pre [] 1 := by
      simp only [lr, es]
      rfl
    show lr s (some t) (c :: (cs ++ l)) = _
    rw [el, lr_text cs l hp'.2 (by simp; omega), Out.pre_pre]
    simp [Nat.add_comm]
/-- what next_frame tells of the signs from its start on -/
inductive Nf where
  | part (at_ : Nat) | wrong (at_ : Nat) | whole (t : List Nat) (at_ : Nat)
def nf (l : List Nat) : Nf :=
  let k := dgs [] l
  if k = l.length then .part k else
  if k = 0 ∨ l[k]? ≠ some 58 then .wrong k else
  let n := digitsVal (l.take k)
  let part := (l.drop (k + 1)).take n
  let e := k + 1 + pls part
  if e = l.length then .part e else
  if l[e]? ≠ some 44 then .wrong e else .whole part (k + 1 + n + 1)
theorem nf_lr (l : List Nat) : match nf l with
    | .part _ => ∃ r, lr [] none l = .read [] r ∧ r = l
    | .wrong k => lr [] none l = .wrong [] k ∧ k < l.length
    | .whole t k => lr [] none l = (lr [] none (l.drop k)).pre [t] k ∧ k ≤ l.length ∧ 0 < k := by
  obtain ⟨h1, h2, h3⟩ := lr_dgs l (s := []) (.inl rfl)
  simp only [List.nil_append] at h1 h2 h3
  have hk := dgs_le l []
  generalize hkk : dgs [] l = k at h1 h2 h3 hk
  unfold nf
  rw [hkk]
  by_cases e1 : k = l.length
  · simp only [e1, if_true]
    rw [h1, e1, List.take_length, List.drop_length]
    exact ⟨l, by simp [lr, glue, Out.pre], rfl⟩
  · simp only [if_neg e1]
    have hlt : k < l.length := by omega
    obtain ⟨c, hc⟩ : ∃ c, l[k]? = some c := ⟨l[k], by simp [hlt]⟩
    have hd : l.drop k = c :: l.drop (k + 1) := by
      rw [List.drop_eq_getElem_cons hlt]
      congr 1
      rw [List.getElem?_eq_getElem hlt] at hc
      exact Option.some.inj hc
    have nd := h3 c _ hd
    by_cases e2 : k = 0 ∨ l[k]? ≠ some 58
    · simp only [if_pos e2]
      refine ⟨?_, hlt⟩
      rw [h1, hd]
      have es : stp (l.take k) none c = none := by
        show (if c = 58 ∧ l.take k ≠ [] then _ else if isDec (l.take k ++ [c]) 200 = true then _ else none) = _
        rw [if_neg, if_neg (by rw [nd]; decide)]
        rintro ⟨rfl, hn⟩
        rcases e2 with rfl | e2
        · exact hn rfl
        · exact e2 hc
      simp only [lr, es]
      simp [Out.pre]
    · simp only [if_neg e2]
      have hk0 : k ≠ 0 := fun z => e2 (.inl z)
      have hc58 : c = 58 := by
        by_cases q : c = 58
        · exact q
        · exact absurd (.inr (by rw [hc]; simpa using q)) e2
      subst hc58
      have hne : l.take k ≠ [] := by
        intro z
        have := congrArg List.length z
        rw [List.length_take, List.length_nil] at this
        omega
      have es : stp (l.take k) none 58 = some (none, l.take k, some []) := by
        show (if 58 = 58 ∧ l.take k ≠ [] then _ else _) = _
        rw [if_pos ⟨rfl, hne⟩]
      have h4 : lr [] none l = (lr (l.take k) (some []) (l.drop (k + 1))).pre [] (k + 1) := by
        rw [h1, hd]
        simp only [lr, es]
        rw [Out.pre_pre]
        rfl
      generalize hn : digitsVal (l.take k) = n
      generalize hm : l.drop (k + 1) = m at h4
      have hml : m.length = l.length - (k + 1) := by rw [← hm, List.length_drop]
      generalize hp : m.take n = part
      have hpm : m = part ++ m.drop n := by rw [← hp, List.take_append_drop]
      have hpl : part.length ≤ n := by rw [← hp, List.length_take]; omega
      have hb := pls_le part
      have hsp : m = part.take (pls part) ++ m.drop (pls part) := by
        have e : part.take (pls part) = m.take (pls part) := by
          rw [← hp, List.take_take, Nat.min_eq_left (by rw [hp]; omega)]
        rw [e, List.take_append_drop]
      have h5 : lr [] none l = (lr (l.take k) (some (part.take (pls part))) (m.drop (pls part))).pre [] (k + 1 + pls part) := by
        rw [h4]
        conv => lhs; rw [hsp]
        rw [lr_text _ _ (pls_plain part) (by rw [hn, List.length_take]; simp; omega), Out.pre_pre, List.length_take, Nat.min_eq_left hb]
        simp
      have hpm2 : part.length ≤ m.length := by rw [← hp, List.length_take]; omega
      by_cases e3 : k + 1 + pls part = l.length
      · simp only [if_pos e3]
        refine ⟨l, ?_, rfl⟩
        have hd0 : m.drop (pls part) = [] := List.drop_eq_nil_of_le (by omega)
        have ht0 : part.take (pls part) = m := by
          rw [hd0, List.append_nil] at hsp
          exact hsp.symm
        rw [h5, hd0, ht0]
        simp only [lr, glue, Out.pre, List.append_nil]
        rw [← hm]
        congr 1
        rw [← hd, List.take_append_drop]
      · simp only [if_neg e3]
        have hlt3 : k + 1 + pls part < l.length := by omega
        have hget : l[k + 1 + pls part]? = m[pls part]? := by rw [← hm, List.getElem?_drop]
        obtain ⟨d, hdd⟩ : ∃ d, m[pls part]? = some d := ⟨m[pls part]'(by omega), by rw [List.getElem?_eq_getElem (by omega)]⟩
        have hmd : m.drop (pls part) = d :: m.drop (pls part + 1) := by
          rw [List.drop_eq_getElem_cons (by omega)]
          congr 1
          rw [List.getElem?_eq_getElem (by omega)] at hdd
          exact Option.some.inj hdd
        rw [hget, hdd]
        have hcase : (pls part = n ∧ part.length = n) ∨ (pls part < n ∧ plainC d = false) := by
          cases hpp : plainL part with
          | true =>
            have e := pls_all hpp
            left
            have : part.length = n := by
              rw [e] at hlt3
              rw [← hp, List.length_take] at hlt3 ⊢
              omega
            omega
          | false =>
            obtain ⟨a, c', b1, b2⟩ := pls_lt hpp
            right
            refine ⟨by omega, ?_⟩
            have : part[pls part]? = m[pls part]? := by
              conv => rhs; rw [hpm]
              rw [List.getElem?_append_left a]
            rw [this, hdd] at b1
            rw [Option.some.inj b1]
            exact b2
        have htl : (part.take (pls part)).length = pls part := by rw [List.length_take, Nat.min_eq_left hb]
        by_cases e4 : d = 44
        · subst e4
          rw [if_neg (by simp)]
          rcases hcase with ⟨q1, q2⟩ | ⟨q1, q2⟩
          · refine ⟨?_, by omega, by omega⟩
            have et : part.take (pls part) = part := List.take_of_length_le (by omega)
            have es2 : stp (l.take k) (some part) 44 = some (some part, [], none) := by
              show (if part.length < digitsVal (l.take k) then _ else _) = _
              rw [if_neg (by rw [hn]; omega)]
              rfl
            have ed : m.drop (pls part + 1) = l.drop (k + 1 + n + 1) := by
              rw [← hm, List.drop_drop]
              congr 1
              omega
            rw [h5, et, hmd]
            simp only [lr, es2]
            rw [Out.pre_pre, ed]
            simp only [Option.toList, List.nil_append]
            congr 1
            omega
          · exact absurd q2 (by decide)
        · rw [if_pos (by simpa using e4)]
          refine ⟨?_, hlt3⟩
          have es2 : stp (l.take k) (some (part.take (pls part))) d = none := by
            show (if (part.take (pls part)).length < digitsVal (l.take k) then _ else if d = 44 then _ else none) = _
            rcases hcase with ⟨q1, q2⟩ | ⟨q1, q2⟩
            · rw [if_neg (by rw [hn, htl]; omega), if_neg e4]
            · rw [if_pos (by rw [hn, htl]; omega), if_neg (by rw [q2]; decide)]
          rw [h5, hmd]
          simp only [lr, es2]
          simp [Out.pre]
end Ag

end
/-! ## D0 -/
section
set_option linter.all false
set_option maxRecDepth 100000
namespace Ag
open PySem PySem.Spec PyProof.Rows L2
open SX (S S_len S_cat S_inj)
/-! ### data of any depth, dicts too, away from the deck -/
def At (p c : Addr) (H : Hp) (a : Addr) (o : HO) : Prop := a ≠ p ∧ a ≠ c ∧ H a = some o
def kD : Key → PyData
  | .inl i => .int i
  | .inr x => .str x
mutual
inductive Dg (p c : Addr) (H : Hp) : V → PyData → Prop
  | non : Dg p c H .non .none
  | bl (b : Bool) : Dg p c H (.bl b) (.bool b)
  | int (i : Int) : Dg p c H (.int i) (.int i)
  | str (x : Str) : Dg p c H (.str x) (.str x)
  | lst {a : Addr} {xs : List V} {ds : List PyData} : At p c H a (.lst xs) → DgA p c H xs ds → Dg p c H (.ref a) (.list ds)
  | tup {a : Addr} {xs : List V} {ds : List PyData} : At p c H a (.tup xs) → DgA p c H xs ds → Dg p c H (.ref a) (.tuple ds)
  | dic {a : Addr} {kvs : List (Key × V)} {ds : List (PyData × PyData)} : At p c H a (.dK kvs) → DgK p c H kvs ds → Dg p c H (.ref a) (.dict ds)
inductive DgA (p c : Addr) (H : Hp) : List V → List PyData → Prop
  | nil : DgA p c H [] []
  | cons {v : V} {vs : List V} {d : PyData} {ds : List PyData} : Dg p c H v d → DgA p c H vs ds → DgA p c H (v :: vs) (d :: ds)
inductive DgK (p c : Addr) (H : Hp) : List (Key × V) → List (PyData × PyData) → Prop
  | nil : DgK p c H [] []
  | cons {k : Key} {v : V} {kvs : List (Key × V)} {d : PyData} {ds : List (PyData × PyData)} : Dg p c H v d → DgK p c H kvs ds → DgK p c H ((k, v) :: kvs) ((kD k, d) :: ds)
end
/-- what data leans on stays -/
def Kp (p c : Addr) (H H' : Hp) : Prop := ∀ b o, b ≠ p → b ≠ c → H b = some o → H' b = some o
theorem Kp.refl {p c : Addr} {H : Hp} : Kp p c H H := fun _ _ _ _ e => e
theorem Kp.trans {p c : Addr} {H H1 H2 : Hp} (a : Kp p c H H1) (b : Kp p c H1 H2) : Kp p c H H2 := fun x o h1 h2 e => b x o h1 h2 (a x o h1 h2 e)
theorem Kp.same {p c : Addr} {H H' : Hp} (s : Same H H') : Kp p c H H' := fun b o _ _ e => s b o e
theorem At.kp {p c a : Addr} {H H' : Hp} {o : HO} (h : At p c H a o) (g : Kp p c H H') : At p c H' a o := ⟨h.1, h.2.1, g a o h.1 h.2.1 h.2.2⟩
mutual
theorem Dg.kp {p c : Addr} {H H' : Hp} (g : Kp p c H H') : ∀ (d : PyData) (v : V), Dg p c H v d → Dg p c H' v d
  | .none, _, h => by cases h; exact .non
  | .bool _, _, h => by cases h; exact .bl _
  | .int _, _, h => by cases h; exact .int _
  | .str _, _, h => by cases h; exact .str _
  | .list ds, _, h => by
    cases h with
    | lst a b => exact .lst (a.kp g) (DgA.kp g ds _ b)
  | .tuple ds, _, h => by
    cases h with
    | tup a b => exact .tup (a.kp g) (DgA.kp g ds _ b)
  | .dict ds, _, h => by
    cases h with
    | dic a b => exact .dic (a.kp g) (DgK.kp g ds _ b)
theorem DgA.kp {p c : Addr} {H H' : Hp} (g : Kp p c H H') : ∀ (ds : List PyData) (vs : List V), DgA p c H vs ds → DgA p c H' vs ds
  | [], _, h => by cases h; exact .nil
  | d :: ds, _, h => by
    cases h with
    | cons a b => exact .cons (Dg.kp g d _ a) (DgA.kp g ds _ b)
theorem DgK.kp {p c : Addr} {H H' : Hp} (g : Kp p c H H') : ∀ (ds : List (PyData × PyData)) (vs : List (Key × V)), DgK p c H vs ds → DgK p c H' vs ds
  | [], _, h => by cases h; exact .nil
  | (_, d) :: ds, _, h => by
    cases h with
    | cons a b => exact .cons (Dg.kp g d _ a) (DgK.kp g ds _ b)
end
theorem Dg.to {p c : Addr} {H H' : Hp} {v : V} {d : PyData} (h : Dg p c H v d) (g : Kp p c H H') : Dg p c H' v d := Dg.kp g d v h
theorem DgA.to {p c : Addr} {H H' : Hp} {v : List V} {d : List PyData} (h : DgA p c H v d) (g : Kp p c H H') : DgA p c H' v d := DgA.kp g d v h
theorem DgA.len {p c : Addr} {H : Hp} : ∀ {vs : List V} {ds : List PyData}, DgA p c H vs ds → vs.length = ds.length
  | [], [], _ => rfl
  | _ :: _, _ :: _, .cons _ t => by rw [List.length_cons, List.length_cons, DgA.len t]
theorem DgA.at_ {p c : Addr} {H : Hp} : ∀ {vs : List V} {ds : List PyData} {i : Nat} {v : V}, DgA p c H vs ds → vs[i]? = some v → ∃ d, ds[i]? = some d ∧ Dg p c H v d
  | _ :: _, _ :: _, 0, _, .cons h _, e => by
    simp at e
    subst e
    exact ⟨_, rfl, h⟩
  | _ :: _, _ :: _, i + 1, _, .cons _ t, e => DgA.at_ (i := i) t (by simpa using e)
  | [], [], _, _, _, e => by simp at e
theorem DgA.app {p c : Addr} {H : Hp} : ∀ {vs ws : List V} {ds es : List PyData}, DgA p c H vs ds → DgA p c H ws es → DgA p c H (vs ++ ws) (ds ++ es)
  | [], _, [], _, _, h => h
  | _ :: _, _, _ :: _, _, .cons a b, h => .cons a (DgA.app b h)
theorem DgA.take {p c : Addr} {H : Hp} : ∀ {vs : List V} {ds : List PyData} (n : Nat), DgA p c H vs ds → DgA p c H (vs.take n) (ds.take n)
  | [], [], _, _ => by simpa using DgA.nil
  | _ :: _, _ :: _, 0, _ => by simpa using DgA.nil
  | _ :: _, _ :: _, n + 1, .cons a b => .cons a (DgA.take n b)
theorem DgA.drop {p c : Addr} {H : Hp} : ∀ {vs : List V} {ds : List PyData} (n : Nat), DgA p c H vs ds → DgA p c H (vs.drop n) (ds.drop n)
  | [], [], _, _ => by simpa using DgA.nil
  | _ :: _, _ :: _, 0, h => h
  | _ :: _, _ :: _, n + 1, .cons _ b => DgA.drop n b
theorem DgA.rev {p c : Addr} {H : Hp} : ∀ {vs : List V} {ds : List PyData}, DgA p c H vs ds → DgA p c H vs.reverse ds.reverse
  | [], [], _ => .nil
  | _ :: _, _ :: _, .cons a b => by
    rw [List.reverse_cons, List.reverse_cons]
    exact (DgA.rev b).app (.cons a .nil)
/-! ### the machine reads it -/
mutual
/-- no list at any depth -/
def noL : PyData → Bool
  | .none => true
  | .bool _ => true
  | .int _ => true
  | .str _ => true
  | .list _ => false
  | .tuple xs => noLA xs
  | .dict kvs => noLK kvs
def noLA : List PyData → Bool
  | [] => true
  | x :: xs => noL x && noLA xs
def noLK : List (PyData × PyData) → Bool
  | [] => true
  | (_, v) :: r => noL v && noLK r
end
section
variable {X : Cx} {pins : List (Addr × Obj)} {σ : L2.St} {H : Hp} {s : Shared} {p c : Addr}
theorem key_reads {P : Program} {w : World} {h : Heap} {k : Key} {v : Value} (e : (mixKind P w).is k v = true) : Reads h v (kD k) [] := by
  rcases keyIs_shape e with ⟨i, t, rfl, rfl⟩ | ⟨x, t, rfl, rfl⟩
  · exact .int i t
  · exact .str x t
mutual
theorem Dg.reads (I : Inv X pins σ H s) : ∀ (d : PyData) (v : V) (u : Value), Dg p c H v d → RelV v u → ∃ as, Reads s.heap u d as ∧ (noL d = true → sysModules ∉ as)
  | .none, _, _, h, r => by
    cases h
    cases r
    exact ⟨_, .none, by simp⟩
  | .bool b, _, _, h, r => by
    cases h
    cases r
    exact ⟨_, .bool b, by simp⟩
  | .int i, _, _, h, r => by
    cases h
    obtain ⟨t, rfl⟩ := r
    exact ⟨_, .int i t, by simp⟩
  | .str x, _, _, h, r => by
    cases h
    obtain ⟨t, rfl⟩ := r
    exact ⟨_, .str x t, by simp⟩
  | .list ds, _, _, h, r => by
    cases h with
    | lst ha hd =>
      cases r
      obtain ⟨its, rv, ⟨o, n, ho, hc, _, hdt⟩, _⟩ := I.list (SqL.of ha.2.2)
      obtain ⟨as, hr, hn⟩ := DgA.reads I ds _ its hd rv
      exact ⟨_, .list ho hc hdt hr, fun z => by simp [noL] at z⟩
  | .tuple ds, _, _, h, r => by
    cases h with
    | tup ha hd =>
      cases r
      obtain ⟨its, rv, ⟨o, ho, hc, n, hdt⟩, _⟩ := I.tuple (SqT.of ha.2.2)
      obtain ⟨as, hr, hn⟩ := DgA.reads I ds _ its hd rv
      exact ⟨_, .tuple ho hc hdt hr, fun z => hn (by simpa [noL] using z)⟩
  | .dict ds, _, _, h, r => by
    cases h with
    | dic ha hd =>
      cases r
      obtain ⟨_, hsys, vs, kv, o, es, ep, ho, hex, hdt, _, hps, _⟩ := I.hok _ _ ha.2.2
      obtain ⟨as, bs, r1, r2, n1, n2⟩ := DgK.reads I ds _ vs es.toList hd kv hps
      refine ⟨_, .dict ho hex.1 hdt r1 r2, ?_⟩
      intro hl z
      rcases List.mem_append.mp z with z | z
      · rcases List.mem_cons.mp z with z | z
        · rw [← z] at hsys
          simp at hsys
        · exact n1 z
      · exact n2 (by simpa [noL] using hl) z
theorem DgA.reads (I : Inv X pins σ H s) : ∀ (ds : List PyData) (vs : List V) (us : List Value), DgA p c H vs ds → Vals vs us → ∃ as, ReadsAll s.heap us ds as ∧ (noLA ds = true → sysModules ∉ as)
  | [], _, _, h, r => by
    cases h
    cases r
    exact ⟨_, .nil, by simp⟩
  | d :: ds, _, _, h, r => by
    cases h with
    | cons h1 h2 =>
      cases r with
      | cons r1 r2 =>
        obtain ⟨as, q1, n1⟩ := Dg.reads I d _ _ h1 r1
        obtain ⟨bs, q2, n2⟩ := DgA.reads I ds _ _ h2 r2
        have hh : ∀ z : noLA (d :: ds) = true, noL d = true ∧ noLA ds = true := fun z => by simpa [noLA] using z
        exact ⟨_, .cons q1 q2, fun z y => (List.mem_append.mp y).elim (n1 (hh z).1) (n2 (hh z).2)⟩
theorem DgK.reads (I : Inv X pins σ H s) : ∀ (ds : List (PyData × PyData)) (kvs : List (Key × V)) (vs : List (Key × Value)) (es : List DictEntry), DgK p c H kvs ds → KV kvs vs → Pairs (mixKind X.prog X.w) es vs →
    ∃ as bs, ReadsAll s.heap (es.map (·.key)) (ds.map (·.1)) as ∧ ReadsAll s.heap (es.map (·.val)) (ds.map (·.2)) bs ∧ sysModules ∉ as ∧ (noLK ds = true → sysModules ∉ bs)
  | [], _, _, _, h, r, q => by
    cases h
    cases r
    cases q
    exact ⟨_, _, .nil, .nil, by simp, by simp⟩
  | (k, d) :: ds, _, _, _, h, r, q => by
    cases h with
    | cons h1 h2 =>
      cases r with
      | cons r1 r2 =>
        cases q with
        | cons q1 q2 q3 =>
          obtain ⟨e1, e2⟩ := r1
          obtain ⟨as, bs, a1, a2, n1, n2⟩ := DgK.reads I ds _ _ _ h2 r2 q3
          obtain ⟨cs, b1, n3⟩ := Dg.reads I d _ _ h1 e2
          rw [← e1] at q1
          rw [← q2] at b1
          exact ⟨_, _, .cons (key_reads q1) a1, .cons b1 a2, by simpa using n1, fun z y => (List.mem_append.mp y).elim (n3 (by simp [noLK] at z; exact z.1)) (n2 (by simp [noLK] at z; exact z.2))⟩
end
/-- repr of data -/
theorem call_repr_any (hu : X.A.units + 66 < cLine) (hG : X.A.guards = some []) : CallR X (.builtin "repr") (fun xs H Q => ∃ x d p c, xs = [x] ∧ Dg p c H x d ∧ d.showable = true ∧ (d.hasDict = true → noL d = true) ∧ d.depth ≤ 64 ∧ d.shown.length ≤ sizeLine ∧ Q (.str d.shown) H) := by
  intro pins s σ H vs us Q I r h
  obtain ⟨x, d, p, c, rfl, hd, h1, hk, h3, h4, q⟩ := h
  obtain ⟨u, rfl, ru⟩ := vals1 r
  cases x with
  | ref a =>
    obtain ⟨as, rd, na⟩ := Dg.reads I d (.ref a) u hd ru
    obtain rfl : u = Value.ref a := ru
    exact repr_of_reads' rd h1 (fun z => na (hk z)) hG (by omega) (fun _ _ e => e) (fun h' u tk kp => ⟨.str d.shown, H, I.kept kp, ⟨_, rfl⟩, q⟩) h4
  | non =>
    cases hd
    obtain rfl : u = Value.none := ru
    exact PySem.P.repr_of_none ⟨.str _, H, I.tok _, ⟨_, rfl⟩, by rw [PyData.shown_none] at q; exact q⟩
  | bl b =>
    cases hd
    obtain rfl : u = Value.bool b := ru
    exact PySem.P.repr_of_bool ⟨.str _, H, I.tok _, ⟨_, rfl⟩, by rw [PyData.shown_bool] at q; exact q⟩
  | int i =>
    cases hd
    obtain ⟨t, rfl⟩ := ru
    exact PySem.P.repr_of_int (by simpa [PyData.showable] using h1) ⟨.str _, H, I.tok _, ⟨_, rfl⟩, by rw [PyData.shown_int] at q; exact q⟩
  | str z =>
    cases hd
    obtain ⟨t, rfl⟩ := ru
    rw [PyData.shown_str] at q h4
    exact PySem.P.repr_of_str ⟨.str _, H, I.tok _, ⟨_, rfl⟩, q⟩ h4
  | byt b => cases hd
  | flt b => cases hd
  | ty n => cases hd
/-- the type of data -/
def tyD : PyData → String
  | .none => "NoneType"
  | .bool _ => "bool"
  | .int _ => "int"
  | .str _ => "str"
  | .list _ => "list"
  | .tuple _ => "tuple"
  | .dict _ => "dict"
theorem Dg.tyx {K : PySem.W.Frag} {v : V} {d : PyData} (h : Dg p c H v d) : TyX K H v (.type (tyD d)) := by
  cases h with
  | non => exact .base .non
  | bl b => exact .base (.bl b)
  | int i => exact .base (.int i)
  | str x => exact .base (.str x)
  | lst a _ => exact .base (.lst a.2.2)
  | tup a _ => exact .base (.tup a.2.2)
  | dic a _ => exact .base (.dK a.2.2)
def isI : PyData → Bool
  | .int _ => true
  | .bool _ => true
  | _ => false
def isB : PyData → Bool
  | .bool _ => true
  | _ => false
def isS : PyData → Bool
  | .str _ => true
  | _ => false
def isT : PyData → Bool
  | .tuple _ => true
  | _ => false
section
variable {K : PySem.W.Frag}
theorem isi_I (d : PyData) : PySem.W.kitOne K (.type (tyD d)) (.type "int") = some (isI d) := by
  cases d <;> exact kit_ty (by simp only [tyD, isI]; decide +kernel)
theorem isi_B (d : PyData) : PySem.W.kitOne K (.type (tyD d)) (.type "bool") = some (isB d) := by
  cases d <;> exact kit_ty (by simp only [tyD, isB]; decide +kernel)
theorem isi_S (d : PyData) : PySem.W.kitOne K (.type (tyD d)) (.type "str") = some (isS d) := by
  cases d <;> exact kit_ty (by simp only [tyD, isS]; decide +kernel)
theorem isi_T (d : PyData) : PySem.W.kitOne K (.type (tyD d)) (.type "tuple") = some (isT d) := by
  cases d <;> exact kit_ty (by simp only [tyD, isT]; decide +kernel)
end
end
end Ag

end
/-! ## D1 -/
section
set_option linter.all false
set_option maxRecDepth 100000
namespace Ag
open PySem PySem.Spec PyProof.Rows L2
open AutoSeq1 (wpAny_loadPart')
open MeetsSeq SeqAt
/-! ### a dict is no text and no tuple -/
theorem dctS (z : Addr) (es : Array DictEntry) (e1 : Nat) (q : Option Addr) (sl : Array (Option Value)) (b : Str) (k : Tok) :
    Meets (Builtin.«dict.__eq__» ⟨[.ref z, .str b k], []⟩) (fun _ R s => s.heap.get? z = some { cls := .type "dict", dict := q, data := .dict es e1, slots := sl } ∧ R (.ok (.ret .notImplemented)) s) :=
  .of_wp fun pr w A R s y => by
    obtain ⟨hp, g, dr, tk, os⟩ := s
    obtain ⟨hz, y⟩ := y
    have f1 := F.sub_str_dict
    wp_walk using wpAny_loadPart' hz, wpAny_load hz
    exact ⟨_, rfl, y⟩
theorem strD (b : Str) (k : Tok) (z : Addr) (es : Array DictEntry) (e1 : Nat) (q : Option Addr) (sl : Array (Option Value)) :
    Meets (Builtin.«str.__eq__» ⟨[.str b k, .ref z], []⟩) (fun _ R s => s.heap.get? z = some { cls := .type "dict", dict := q, data := .dict es e1, slots := sl } ∧ R (.ok (.ret .notImplemented)) s) :=
  .of_wp fun pr w A R s y => by
    obtain ⟨hp, g, dr, tk, os⟩ := s
    obtain ⟨hz, y⟩ := y
    wp_walk using wpAny_loadPart' hz, wpAny_load hz
    exact ⟨_, rfl, y⟩
theorem dctT (z t : Addr) (es : Array DictEntry) (e1 : Nat) (q q2 : Option Addr) (sl sl2 : Array (Option Value)) (its : Array Value) (n : Nat) :
    Meets (Builtin.«dict.__eq__» ⟨[.ref z, .ref t], []⟩) (fun _ R s => s.heap.get? z = some { cls := .type "dict", dict := q, data := .dict es e1, slots := sl } ∧ s.heap.get? t = some { cls := .type "tuple", dict := q2, data := .seq its n, slots := sl2 } ∧ R (.ok (.ret .notImplemented)) s) :=
  .of_wp fun pr w A R s y => by
    obtain ⟨hp, g, dr, tk, os⟩ := s
    obtain ⟨hz, ht, y⟩ := y
    have f1 := F.sub_tuple_dict
    wp_walk using wpAny_loadPart' hz, wpAny_load hz, wpAny_loadPart' ht, wpAny_load ht
    exact ⟨_, rfl, y⟩
theorem tupD (t z : Addr) (es : Array DictEntry) (e1 : Nat) (q q2 : Option Addr) (sl sl2 : Array (Option Value)) (its : Array Value) (n : Nat) :
    Meets (Builtin.«tuple.__eq__» ⟨[.ref t, .ref z], []⟩) (fun _ R s => s.heap.get? z = some { cls := .type "dict", dict := q, data := .dict es e1, slots := sl } ∧ s.heap.get? t = some { cls := .type "tuple", dict := q2, data := .seq its n, slots := sl2 } ∧ R (.ok (.ret .notImplemented)) s) :=
  .of_wp fun pr w A R s y => by
    obtain ⟨hp, g, dr, tk, os⟩ := s
    obtain ⟨hz, ht, y⟩ := y
    have f1 := F.sub_dict_tuple
    wp_walk using wpAny_loadPart' hz, wpAny_load hz, wpAny_loadPart' ht, wpAny_load ht
    exact ⟨_, rfl, y⟩
section
variable {A : Around} {s : Shared}
theorem eq_strD {z : Addr} {o : Obj} {es : Array DictEntry} {e1 : Nat} (b : Str) (k : Tok) (ho : s.heap.get? z = some o) (hc : o.cls = .type "dict") (hd : o.data = .dict es e1) (hu : A.units < cLine) : EqAt A s (.str b k) (.ref z) false := by
  intro pr w E Q y
  obtain ⟨cls, q, data, sl⟩ := o
  simp only at hc hd
  subst hc hd
  unfold eqBool
  refine wpAny_holding (wpAny_ite_split (fun hab => absurd (eq_of_beq hab) nofun) fun _ => ?_)
  refine wpAny_bind ?_
  refine rc_eq_decline_or (k := false) (typeIs_str s b k) ⟨_, ho, rfl⟩ (by decide) F.sub_dict_str F.slot_str_eq F.slot_dict_eq_refl ?_ ?_ ?_ (.inr hu) (wpAny_truthy_bool y)
  · exact fun _ hq => call_meets F.slot_str_eq (typeIs_str s b k) F.entry_str_eq (F.args_str_eq_2 _ _) (strD b k z es e1 q sl) ⟨ho, hq⟩
  · exact fun _ hq => call_meets F.slot_dict_eq_refl ⟨_, ho, rfl⟩ F.entry_dict_eq (F.args_dict_eq_2 _ _) (dctS z es e1 q sl b k) ⟨ho, hq⟩
  · exact fun _ hq => wpAny_of_eq (rfl : isSame (.str b k) (.ref z) = pure false) hq
theorem ne_dt {z t : Addr} {o u : Obj} (ho : s.heap.get? z = some o) (hc : o.cls = .type "dict") (hu : s.heap.get? t = some u) (hc2 : u.cls = .type "tuple") : z ≠ t := by
  rintro rfl
  rw [ho] at hu
  cases hu
  rw [hc] at hc2
  exact absurd (Value.type.inj hc2) (by decide)
theorem rc_dictT {z t : Addr} {o : Obj} {es : Array DictEntry} {e1 : Nat} {its : Array Value} (ho : s.heap.get? z = some o) (hc : o.cls = .type "dict") (hd : o.data = .dict es e1) (ht : s.heap.IsTuple t its) (hu : A.units < cLine) :
    RcAt A s (.ref z) (.ref t) false := by
  intro pr w E Q y
  obtain ⟨u, hu1, hc2, n, hd2⟩ := ht
  have ne := ne_dt ho hc hu1 hc2
  obtain ⟨cls, q, data, sl⟩ := o
  obtain ⟨cls2, q2, data2, sl2⟩ := u
  simp only at hc hd hc2 hd2
  subst hc hd hc2 hd2
  refine rc_eq_decline_or (k := false) ⟨_, ho, rfl⟩ ⟨_, hu1, rfl⟩ (by decide) F.sub_tuple_dict F.slot_dict_eq F.slot_tuple_eq_refl ?_ ?_ ?_ (.inr hu) y
  · exact fun _ hq => call_meets F.slot_dict_eq ⟨_, ho, rfl⟩ F.entry_dict_eq (F.args_dict_eq_2 _ _) (dctT z t es e1 q q2 sl sl2 its n) ⟨ho, hu1, hq⟩
  · exact fun _ hq => call_meets F.slot_tuple_eq_refl ⟨_, hu1, rfl⟩ F.entry_tuple_eq (F.args_tuple_eq_2 _ _) (tupD t z es e1 q q2 sl sl2 its n) ⟨ho, hu1, hq⟩
  · intro Q' hq
    show wpAny _ _ (if (z == t) = true then pure true else _) _ _ _
    rw [if_neg (by simpa using ne)]
    refine wpAny_bind (wpAny_load ho (wpAny_bind (wpAny_load hu1 ?_)))
    split
    · rename_i h1 h2 _ _
      simp at h1
    · exact wpAny_pure hq
end
end Ag

end
/-! ## Kit -/
section
set_option linter.all false
set_option maxRecDepth 100000
namespace Ag
open PySem PySem.Spec PyProof.Rows L2
open SX (S S_len S_cat S_inj)
section
variable {J : It} {n : Nat} {G : Hp → Prop} {Y : Nat → Hp → V → Hp → Prop}
/-- a comprehension without tests: R stays, each item is as v says of its place -/
theorem lc_all (w : Walk J n G Y) {g : TG} {te : TE} {vs : List Nat} {σ : L2.St} {H1 : Hp} {D : Addr} {Qd : Hp → Prop} (R : Hp → Prop) (v : Nat → V → Prop) (hn : n ≤ 16000000) (r0 : R H1) (rD : ∀ H o, R H → R (upd H D o)) (hG : ∀ H, R H → G H)
    (hs : ∀ i x H H' xs (k : VK), i < n → R H → H D = some (.lst xs) → Y i H x H' → (∀ y H4, v i y → R H4 → H4 D = some (.lst xs) → k y H4) → g x (wipe σ vs) H' fun σ2 H2 => wipe σ2 vs = wipe σ vs ∧ te σ2 H2 k)
    (hd : ∀ H xs, xs.length = n → (∀ i y, xs[i]? = some y → v i y) → R H → H D = some (.lst xs) → Qd H) :
    ∃ W : Nat → Nat → Hp → Prop, (∃ m, W 0 m (upd H1 D (.lst []))) ∧ ∀ i m H, W i m H →
      (J.stop i H ∧ Qd H) ∨ (J.go i H ∧ ∃ Nx : Hp → Prop, (∀ H', Nx H' → ∃ m', m' < m ∧ W (i + 1) m' H') ∧ ∀ x H', J.yld i H x H' → g x (wipe σ vs) H' fun σ2 H2 => wipe σ2 vs = wipe σ vs ∧ tYes σ2 H2 fun b H3 =>
        if b = true then te σ2 H3 fun y H4 => ∃ acc, H4 D = some (.lst acc) ∧ acc.length < sizeLine ∧ Nx (upd H4 D (.lst (acc ++ [y]))) else Nx H3) := by
  refine lc_it (g := g) (tt := tYes) (te := te) (vs := vs) (σ := σ) w (fun i H => ∃ xs : List V, xs.length = i ∧ (∀ j y, xs[j]? = some y → v j y) ∧ R H ∧ H D = some (.lst xs)) ⟨[], rfl, fun j y h => by simp at h, rD _ _ r0, upd_same⟩ (fun i H hi p => ?_) (fun i x H H' hi p hy => ?_) (fun H p => ?_)
  · obtain ⟨xs, _, _, r, _⟩ := p
    exact hG H r
  · obtain ⟨xs, hl, hv, r, hD⟩ := p
    refine hs i x H H' xs _ hi r hD hy ?_
    rintro y H4 hvy r4 h4
    refine ⟨xs, h4, ?_, xs ++ [y], by simp [hl], fun j z hz => ?_, rD _ _ r4, upd_same⟩
    · rw [sizeLine_eq]; omega
    · rw [List.getElem?_append] at hz
      split at hz
      · exact hv j z hz
      · rename_i hj
        have e : j - xs.length = 0 := by
          cases hq : j - xs.length with
          | zero => rfl
          | succ k => rw [hq] at hz; simp at hz
        rw [e] at hz
        simp at hz
        subst hz
        have : j = i := by omega
        subst this
        exact hvy
  · obtain ⟨xs, hl, hv, r, hD⟩ := p
    exact hd H xs hl hv r hD
end
/-! ### cuts of texts -/
theorem sIx_at {n d a : Nat} (h : a ≤ n) : HT.sIx n d (some (a : Int)) = a := by rw [HT.sIx_nat, Nat.min_eq_left h]
theorem cut_S {l : List Nat} {a b : Nat} (ha : a ≤ l.length) : cutS (S l) (some (a : Int)) (some (b : Int)) = S ((l.drop a).take (b - a)) := by
  unfold cutS
  rw [S_len, sIx_at ha, HT.sIx_nat]
  congr 1
  congr 1
  by_cases hb : b ≤ l.length
  · rw [Nat.min_eq_left hb]
  · rw [Nat.min_eq_right (by omega), List.take_of_length_le (by rw [List.length_drop]; exact Nat.le_refl _), List.take_of_length_le (by rw [List.length_drop]; omega)]
theorem cut_from {l : List Nat} {a : Nat} (ha : a ≤ l.length) : cutS (S l) (some (a : Int)) none = S (l.drop a) := by
  unfold cutS
  rw [S_len, sIx_at ha, HT.sIx_none]
  congr 1
  congr 1
  rw [List.take_of_length_le (by rw [List.length_drop]; exact Nat.le_refl _)]
theorem cut_to {l : List Nat} {b : Nat} : cutS (S l) none (some (b : Int)) = S (l.take b) := by
  unfold cutS
  rw [S_len, HT.sIx_none, HT.sIx_nat, List.drop_zero, Nat.sub_zero]
  congr 1
  congr 1
  by_cases hb : b ≤ l.length
  · rw [Nat.min_eq_left hb]
  · rw [Nat.min_eq_right (by omega), List.take_of_length_le (Nat.le_refl _), List.take_of_length_le (by omega)]
end Ag

end
/-! ## D2 -/
section
set_option linter.all false
set_option maxRecDepth 100000
namespace Ag
open PySem PySem.Spec PyProof.Rows L2
open SX (S S_len S_cat S_inj)
open SeqAt
/-! ### comparisons of data -/
section
variable {X : Cx}
def rEqG : R2 := fun x y H Q => ∃ p c d e, Dg p c H x d ∧ Dg p c H y e ∧ SeqAt.shaped d = true ∧ SeqAt.shaped e = true ∧ Q (.bl (PyData.eqv d e)) H
def rNeG : R2 := fun x y H Q => ∃ p c d e, Dg p c H x d ∧ Dg p c H y e ∧ SeqAt.shaped d = true ∧ SeqAt.shaped e = true ∧ Q (.bl (!PyData.eqv d e)) H
theorem op_eqG (hu : X.A.units + 64 < cLine) : OpR X (compareOp .Eq) rEqG := by
  intro pins s σ H x y v u Q I rx ry h
  obtain ⟨p, c, d, e, hd, he, sd, se, q⟩ := h
  obtain ⟨as, r1, _⟩ := Dg.reads I d x v hd rx
  obtain ⟨bs, r2, _⟩ := Dg.reads I e y u he ry
  exact SeqAt.compareEq_shaped r1 r2 sd se hu ⟨.bl _, H, I, rfl, q⟩
theorem op_neG (hu : X.A.units + 64 < cLine) : OpR X (compareOp .NotEq) rNeG := by
  intro pins s σ H x y v u Q I rx ry h
  obtain ⟨p, c, d, e, hd, he, sd, se, q⟩ := h
  obtain ⟨as, r1, _⟩ := Dg.reads I d x v hd rx
  obtain ⟨bs, r2, _⟩ := Dg.reads I e y u he ry
  exact SeqAt.compareNe_shaped r1 r2 sd se hu ⟨.bl _, H, I, rfl, q⟩
/-- any data against the empty tuple -/
def isT0 : PyData → Bool
  | .tuple [] => true
  | _ => false
def ascS : PyData → Bool
  | .str x => PyData.strOk x
  | _ => true
def rEqT0 : R2 := fun x y H Q => ∃ p c d t, Dg p c H x d ∧ ascS d = true ∧ y = .ref t ∧ H t = some (.tup []) ∧ Q (.bl (isT0 d)) H
theorem op_eqT0 (hu : X.A.units + 64 < cLine) : OpR X (compareOp .Eq) rEqT0 := by
  intro pins s σ H x y v u Q I rx ry h
  obtain ⟨p, c, d, t, hd, ha, rfl, ht, q⟩ := h
  cases ry
  obtain ⟨its, rv, hT, _⟩ := I.tuple (SqT.of ht)
  cases rv
  have hz : Reads s.heap (.ref t) (.tuple []) [] := by
    obtain ⟨o, ho, hc, n, hdt⟩ := hT
    exact .tuple ho hc hdt .nil
  have flat : ∀ (d : PyData), Dg p c H x d → d.canLay0 = true → d.depth = 0 → PyData.eqv d (.tuple []) = false → Q (.bl false) H → wpAny (model X.prog X.w) X.A (compareOp .Eq v (.ref t)) (EP X pins σ Q) X.xe s := by
    intro d hd hl h0 he q
    obtain ⟨as, r1, _⟩ := Dg.reads I d x v hd rx
    refine SeqAt.compareEq_reads r1 hz hl rfl (by rw [h0, Nat.zero_min]; omega) ?_
    rw [he]
    exact ⟨.bl _, H, I, rfl, q⟩
  have hu0 : X.A.units < cLine := by omega
  cases d with
  | none => exact flat _ hd rfl rfl rfl q
  | bool b => exact flat _ hd rfl rfl rfl q
  | int i => exact flat _ hd rfl rfl rfl q
  | str z => exact flat _ hd ha rfl rfl q
  | list ds =>
    cases hd with
    | lst a b =>
      cases rx
      obtain ⟨its2, rv2, hL, _⟩ := I.list (SqL.of a.2.2)
      exact RcAt.list_tuple hL.isList hT hu0 _ _ _ _ ⟨.bl _, H, I, rfl, q⟩
  | dict ds =>
    cases hd with
    | dic a b =>
      cases rx
      obtain ⟨_, _, vs, _, o, es, ep, ho, hex, hdt, _⟩ := I.hok _ _ a.2.2
      exact rc_dictT ho hex.1 hdt hT hu0 _ _ _ _ ⟨.bl _, H, I, rfl, q⟩
  | tuple ds =>
    cases hd with
    | tup a b =>
      cases rx
      obtain ⟨its2, rv2, hT2, _⟩ := I.tuple (SqT.of a.2.2)
      refine RcAt.tuples (e := fun _ => false) hT2 hT hu0 (fun j _ h2 => by simp at h2) _ _ _ _ ?_
      have hl : its2.length = ds.length := by rw [← rv2.length]; exact b.len
      have e : (((List.range (min its2.toArray.size (#[] : Array Value).size)).all fun _ => false) && its2.toArray.size == (#[] : Array Value).size) = isT0 (.tuple ds) := by
        cases ds with
        | nil =>
          cases its2 with
          | nil => rfl
          | cons _ _ => simp at hl
        | cons _ _ =>
          cases its2 with
          | nil => simp at hl
          | cons _ _ => simp [isT0]
      refine ⟨.bl _, H, I, rfl, ?_⟩
      rw [e]
      exact q
/-- any data in a tuple of two texts -/
def eqSD (a : Str) : PyData → Bool
  | .str x => a == x
  | _ => false
def is2 (a b : Str) (d : PyData) : Bool := eqSD a d || eqSD b d
def eqVD (d : PyData) : Value → Bool
  | .str a _ => eqSD a d
  | _ => false
def rNotIn2 : R2 := fun x y H Q => ∃ p c d t a b, Dg p c H x d ∧ y = .ref t ∧ H t = some (.tup [.str a, .str b]) ∧ Q (.bl (!is2 a b d)) H
theorem eq_str_any {pins : List (Addr × Obj)} {σ : L2.St} {H : Hp} {s : Shared} {p c : Addr} (hu : X.A.units + 64 < cLine) (I : Inv X pins σ H s) {x : V} {v : Value} {d : PyData} (hd : Dg p c H x d) (rx : RelV x v) (a : Str) (k : Tok) :
    EqAt X.A.in1 s (.str a k) v (eqSD a d) := by
  have hu0 : X.A.in1.units < cLine := by show X.A.units + 1 < cLine; omega
  cases hd with
  | non => cases rx; exact EqAt.str_none a k
  | bl b => cases rx; exact EqAt.str_bool a k b
  | int i => obtain ⟨t, rfl⟩ := rx; exact EqAt.str_int a k i t
  | str z => obtain ⟨t, rfl⟩ := rx; exact EqAt.str_str a k z t
  | lst e _ =>
    cases rx
    obtain ⟨its2, rv2, hL, _⟩ := I.list (SqL.of e.2.2)
    exact EqAt.str_list a k hL.isList hu0
  | tup e _ =>
    cases rx
    obtain ⟨its2, rv2, hL, _⟩ := I.tuple (SqT.of e.2.2)
    exact EqAt.str_tuple a k hL hu0
  | dic e _ =>
    cases rx
    obtain ⟨_, _, vs, _, o, es, ep, ho, hex, hdt, _⟩ := I.hok _ _ e.2.2
    exact eq_strD a k ho hex.1 hdt hu0
theorem op_notIn2 (hu : X.A.units + 64 < cLine) : OpR X (compareOp .NotIn) rNotIn2 := by
  intro pins s σ H x y v u Q I rx ry h
  obtain ⟨p, c, d, t, a, b, hd, rfl, ht, q⟩ := h
  cases ry
  obtain ⟨its, rv, hT, _⟩ := I.tuple (SqT.of ht)
  cases rv with
  | cons ra rt =>
    cases rt with
    | cons rb rt =>
      cases rt
      obtain ⟨ta, rfl⟩ := ra
      obtain ⟨tb, rfl⟩ := rb
      refine notIn_tupleAt (eqVD d) hT (fun y hy => ?_) ⟨.bl _, H, I, rfl, ?_⟩
      · have hy : y = .str a ta ∨ y = .str b tb := by simpa using hy
        rcases hy with rfl | rfl
        · exact eq_str_any hu I hd rx a ta
        · exact eq_str_any hu I hd rx b tb
      · have e : ([Value.str a ta, Value.str b tb] : List Value).toArray.any (eqVD d) = is2 a b d := by
          rw [← Array.any_toList]
          simp [is2, eqVD]
        show Q (.bl (!Array.any _ _)) H
        rw [e]
        exact q
end
end Ag

end
/-! ## D3 -/
section
set_option linter.all false
set_option maxRecDepth 100000
namespace Ag
open PySem PySem.Spec PyProof.Rows L2
open SX (S S_len S_cat S_inj)
theorem numLen {k n : Nat} (hk : 1 ≤ k) (h : n < 10 ^ k) : (numL n).length ≤ k := TL.numL_len hk h
theorem toStrN (n : Nat) : (Str.ofString (toString ((n : Nat) : Int))) = S (numL n) := SX.num_S n
/-! ### good data: ascii texts, ints from -1 below 10 ** 40, short tuples; q: dicts and no lists, not q: lists and no dicts -/
def intOk (i : Int) : Bool := decide (-1 ≤ i) && decide (i < 10 ^ 40)
def strOkB (x : Str) : Bool := x.cps.toList.all (· < 128) && decide (x.cps.size ≤ 300)
mutual
def okV (q : Bool) : PyData → Bool
  | .none => true
  | .bool _ => true
  | .int i => intOk i
  | .str x => strOkB x
  | .list xs => !q && okVA q xs
  | .tuple xs => decide (xs.length ≤ 60) && okVA q xs
  | .dict kvs => q && okVK q kvs
def okVA (q : Bool) : List PyData → Bool
  | [] => true
  | x :: xs => okV q x && okVA q xs
def okVK (q : Bool) : List (PyData × PyData) → Bool
  | [] => true
  | (k, v) :: r => okV q k && okV q v && okVK q r
end
theorem int_good {i : Int} (h : intOk i = true) : i.natAbs.log2 < 1920 ∧ (PyData.int i).shown.length ≤ 60 := by
  simp only [intOk, Bool.and_eq_true, decide_eq_true_eq] at h
  obtain ⟨h1, h2⟩ := h
  rw [PyData.shown_int]
  by_cases h0 : 0 ≤ i
  · obtain ⟨n, rfl⟩ := Int.eq_ofNat_of_zero_le h0
    have hn : n < 10 ^ 40 := by omega
    refine ⟨?_, ?_⟩
    · rw [Int.natAbs_natCast]
      by_cases z : n = 0
      · subst z; decide
      · exact (Nat.log2_lt z).mpr (Nat.lt_of_lt_of_le hn (by decide +kernel))
    · rw [toStrN, S_len]
      have := numLen (k := 40) (by decide) hn
      omega
  · have : i = -1 := by omega
    subst this
    decide +kernel
theorem str_good {x : Str} (h : strOkB x = true) : PyData.strOk x = true ∧ (PyData.str x).leavesShort 60 = true := by
  simp only [strOkB, Bool.and_eq_true, List.all_eq_true, decide_eq_true_eq] at h
  refine ⟨?_, ?_⟩
  · unfold PyData.strOk
    rw [← Array.all_toList, List.all_eq_true]
    intro c hc
    have := h.1 c hc
    simp
    omega
  · simp only [PyData.leavesShort]
    rw [List.all_eq_true]
    intro c hc
    have := h.1 c hc
    simp
    omega
mutual
theorem okV_show {q : Bool} : ∀ d : PyData, okV q d = true → d.showable = true ∧ d.leavesShort 60 = true ∧ (q = true → noL d = true) ∧ (q = false → d.hasDict = false) ∧ (q = false → d.canLay0 = true)
  | .none, _ => by simp [PyData.showable, PyData.hasDict, noL, PyData.canLay0, PyData.leavesShort]
  | .bool _, _ => by simp [PyData.showable, PyData.hasDict, noL, PyData.canLay0, PyData.leavesShort]
  | .int i, h => by
    have := int_good (by simpa only [okV] using h)
    simp only [PyData.showable, PyData.hasDict, noL, PyData.canLay0, PyData.leavesShort, decide_eq_true_eq]
    exact ⟨this.1, this.2, fun _ => trivial, fun _ => trivial, fun _ => trivial⟩
  | .str x, h => by
    obtain ⟨h1, h2⟩ := str_good (by simpa only [okV] using h)
    exact ⟨by simp only [PyData.showable], h2, fun _ => by simp only [noL], fun _ => by simp only [PyData.hasDict], fun _ => by simp only [PyData.canLay0]; exact h1⟩
  | .list xs, h => by
    simp only [okV, Bool.and_eq_true, Bool.not_eq_true'] at h
    obtain ⟨h0, h⟩ := h
    subst h0
    obtain ⟨a, b, _, c, d⟩ := okVA_show xs h
    refine ⟨by simpa only [PyData.showable] using a, by simpa only [PyData.leavesShort] using b, fun z => absurd z (by decide), fun z => ?_, fun z => ?_⟩
    · simpa only [PyData.hasDict] using c z
    · simpa only [PyData.canLay0] using d z
  | .tuple xs, h => by
    simp only [okV, Bool.and_eq_true] at h
    have := okVA_show xs h.2
    simpa only [PyData.showable, PyData.hasDict, noL, PyData.canLay0, PyData.leavesShort] using this
  | .dict kvs, h => by
    simp only [okV, Bool.and_eq_true] at h
    obtain ⟨h0, h⟩ := h
    subst h0
    obtain ⟨a, b, c⟩ := okVK_show kvs h
    refine ⟨by simpa only [PyData.showable] using a, by simpa only [PyData.leavesShort] using b, fun z => ?_, fun z => absurd z (by decide), fun z => absurd z (by decide)⟩
    simpa only [noL] using c z
theorem okVA_show {q : Bool} : ∀ xs : List PyData, okVA q xs = true → PyData.showableAll xs = true ∧ PyData.leavesShortAll 60 xs = true ∧ (q = true → noLA xs = true) ∧ (q = false → PyData.hasDictAll xs = false) ∧ (q = false → PyData.canLayAll0 xs = true)
  | [], _ => by simp [PyData.showableAll, PyData.hasDictAll, noLA, PyData.canLayAll0, PyData.leavesShortAll]
  | x :: xs, h => by
    simp only [okVA, Bool.and_eq_true] at h
    obtain ⟨a1, a2, a3, a4, a5⟩ := okV_show x h.1
    obtain ⟨b1, b2, b3, b4, b5⟩ := okVA_show xs h.2
    simp only [PyData.showableAll, PyData.hasDictAll, noLA, PyData.canLayAll0, PyData.leavesShortAll, a1, a2, b1, b2]
    exact ⟨rfl, rfl, fun z => by rw [a3 z, b3 z]; rfl, fun z => by rw [a4 z, b4 z]; rfl, fun z => by rw [a5 z, b5 z]; rfl⟩
theorem okVK_show {q : Bool} : ∀ xs : List (PyData × PyData), okVK q xs = true → PyData.showableKv xs = true ∧ PyData.leavesShortKv 60 xs = true ∧ (q = true → noLK xs = true)
  | [], _ => by simp [PyData.showableKv, noLK, PyData.leavesShortKv]
  | (k, v) :: xs, h => by
    simp only [okVK, Bool.and_eq_true] at h
    obtain ⟨a1, a2, a3, a4, a5⟩ := okV_show k h.1.1
    obtain ⟨c1, c2, c3, c4, c5⟩ := okV_show v h.1.2
    obtain ⟨b1, b2, b3⟩ := okVK_show xs h.2
    simp only [PyData.showableKv, noLK, PyData.leavesShortKv, a1, a2, b1, b2, c1, c2]
    exact ⟨rfl, rfl, fun z => by rw [c3 z, b3 z]; rfl⟩
end
structure Gd (q : Bool) (d : PyData) (n b : Nat) : Prop where
  ok : okV q d = true
  dp : d.depth ≤ n
  bk : d.bulk ≤ b
structure GdA (q : Bool) (ds : List PyData) (n b : Nat) : Prop where
  ok : okVA q ds = true
  dp : PyData.depthAll ds ≤ n
  bk : PyData.bulkAll ds ≤ b
theorem Gd.mono {q : Bool} {d : PyData} {n m b c : Nat} (h : Gd q d n b) (hn : n ≤ m) (hb : b ≤ c) : Gd q d m c := ⟨h.ok, Nat.le_trans h.dp hn, Nat.le_trans h.bk hb⟩
theorem GdA.mono {q : Bool} {d : List PyData} {n m b c : Nat} (h : GdA q d n b) (hn : n ≤ m) (hb : b ≤ c) : GdA q d m c := ⟨h.ok, Nat.le_trans h.dp hn, Nat.le_trans h.bk hb⟩
theorem Gd.fit {q : Bool} {d : PyData} {n b : Nat} (h : Gd q d n b) (hn : n ≤ 60) (hb : b ≤ 100000) : d.showable = true ∧ (d.hasDict = true → noL d = true) ∧ d.depth ≤ 64 ∧ d.shown.length ≤ sizeLine := by
  obtain ⟨a1, a2, a3, a4, _⟩ := okV_show d h.ok
  refine ⟨a1, fun z => ?_, by have := h.dp; omega, ?_⟩
  · cases q with
    | true => exact a3 rfl
    | false => rw [a4 rfl] at z; cases z
  · have h1 := PyData.shown_le_bulk 60 (by decide) d a2
    have h2 : d.bulk ≤ 100000 := Nat.le_trans h.bk hb
    rw [sizeLine_eq]
    omega
theorem Gd.shaped {d : PyData} {n b : Nat} (h : Gd false d n b) (hn : n ≤ 60) : SeqAt.shaped d = true := by
  unfold SeqAt.shaped
  rw [(okV_show d h.ok).2.2.2.2 rfl, decide_eq_true (by have := h.dp; omega)]
  rfl
theorem Gd.asc {q : Bool} {d : PyData} {n b : Nat} (h : Gd q d n b) : ascS d = true := by
  cases d with
  | str x => exact (str_good (by simpa only [okV] using h.ok)).1
  | _ => rfl
theorem GdA.nil {q : Bool} {n b : Nat} : GdA q [] n b := ⟨by simp [okVA], by simp [PyData.depthAll], by simp [PyData.bulkAll]⟩
theorem GdA.cons {q : Bool} {d : PyData} {ds : List PyData} {n b b1 b2 : Nat} (h : Gd q d n b1) (k : GdA q ds n b2) (hb : b1 + b2 + 1 ≤ b) : GdA q (d :: ds) n b := by
  refine ⟨?_, ?_, ?_⟩
  · simp only [okVA, h.ok, k.ok]
    rfl
  · simp only [PyData.depthAll]
    have := h.dp
    have := k.dp
    omega
  · simp only [PyData.bulkAll]
    have := h.bk
    have := k.bk
    omega
theorem Gd.tup {q : Bool} {ds : List PyData} {n b : Nat} (h : GdA q ds n b) (hl : ds.length ≤ 60) : Gd q (.tuple ds) (n + 1) b := by
  refine ⟨?_, ?_, ?_⟩
  · simp only [okV, h.ok, decide_eq_true hl]
    rfl
  · simp only [PyData.depth]
    have := h.dp
    omega
  · simp only [PyData.bulk]
    exact h.bk
theorem Gd.lst {ds : List PyData} {n b : Nat} (h : GdA false ds n b) : Gd false (.list ds) (n + 1) b := by
  refine ⟨?_, ?_, ?_⟩
  · simp only [okV, h.ok]
    rfl
  · simp only [PyData.depth]
    have := h.dp
    omega
  · simp only [PyData.bulk]
    exact h.bk
theorem Gd.untup {q : Bool} {ds : List PyData} {n b : Nat} (h : Gd q (.tuple ds) n b) : GdA q ds (n - 1) b ∧ ds.length ≤ 60 := by
  have h1 := h.ok
  simp only [okV, Bool.and_eq_true, decide_eq_true_eq] at h1
  have h2 := h.dp
  simp only [PyData.depth] at h2
  have h3 := h.bk
  simp only [PyData.bulk] at h3
  exact ⟨⟨h1.2, by omega, h3⟩, h1.1⟩
theorem GdA.hd {q : Bool} {d : PyData} {ds : List PyData} {n b : Nat} (h : GdA q (d :: ds) n b) : Gd q d n b ∧ GdA q ds n b := by
  have h1 := h.ok
  simp only [okVA, Bool.and_eq_true] at h1
  have h2 := h.dp
  simp only [PyData.depthAll] at h2
  have h3 := h.bk
  simp only [PyData.bulkAll] at h3
  exact ⟨⟨h1.1, by omega, by omega⟩, ⟨h1.2, by omega, by omega⟩⟩
theorem GdA.mem {q : Bool} {n b : Nat} : ∀ {ds : List PyData}, GdA q ds n b → ∀ d ∈ ds, Gd q d n b
  | [], _, d, hd => by cases hd
  | x :: xs, h, d, hd => by
    rcases List.mem_cons.mp hd with rfl | hd
    · exact h.hd.1
    · exact GdA.mem h.hd.2 d hd
theorem bulk_app : ∀ (xs ys : List PyData), PyData.bulkAll (xs ++ ys) = PyData.bulkAll xs + PyData.bulkAll ys
  | [], ys => by simp [PyData.bulkAll]
  | x :: xs, ys => by
    rw [List.cons_append]
    simp only [PyData.bulkAll, bulk_app xs ys]
    omega
theorem GdA.app {q : Bool} {n b1 b2 b : Nat} : ∀ {xs ys : List PyData}, GdA q xs n b1 → GdA q ys n b2 → b1 + b2 ≤ b → GdA q (xs ++ ys) n b := by
  intro xs ys h k hb
  have hk := k.bk
  have hh := h.bk
  refine ⟨?_, ?_, by rw [bulk_app]; omega⟩
  · have h1 := h.ok
    clear h hh
    induction xs with
    | nil => exact k.ok
    | cons x xs ih =>
      simp only [okVA, Bool.and_eq_true] at h1
      rw [List.cons_append]
      simp only [okVA, h1.1, ih h1.2]
      rfl
  · have h1 := h.dp
    clear h hh
    induction xs with
    | nil => exact k.dp
    | cons x xs ih =>
      simp only [PyData.depthAll] at h1
      rw [List.cons_append]
      simp only [PyData.depthAll]
      have := ih (by omega)
      omega
theorem GdA.take {q : Bool} {n b : Nat} : ∀ {xs : List PyData} (m : Nat), GdA q xs n b → GdA q (xs.take m) n b := by
  intro xs m h
  have e := bulk_app (xs.take m) (xs.drop m)
  rw [List.take_append_drop] at e
  have hb := h.bk
  refine ⟨?_, ?_, by omega⟩
  · have h1 := h.ok
    clear h e hb
    induction xs generalizing m with
    | nil => simpa using h1
    | cons x xs ih =>
      cases m with
      | zero => simp [okVA]
      | succ m =>
        simp only [okVA, Bool.and_eq_true] at h1
        rw [List.take_succ_cons]
        simp only [okVA, h1.1, ih m h1.2]
        rfl
  · have h1 := h.dp
    clear h e hb
    induction xs generalizing m with
    | nil => simpa using h1
    | cons x xs ih =>
      cases m with
      | zero => simp [PyData.depthAll]
      | succ m =>
        simp only [PyData.depthAll] at h1
        rw [List.take_succ_cons]
        simp only [PyData.depthAll]
        have := ih m (by omega)
        omega
theorem GdA.drop {q : Bool} {n b : Nat} : ∀ {xs : List PyData} (m : Nat), GdA q xs n b → GdA q (xs.drop m) n b
  | _, 0, h => h
  | [], _ + 1, h => by simpa using h
  | _ :: xs, m + 1, h => by
    rw [List.drop_succ_cons]
    exact GdA.drop m h.hd.2
theorem GdA.rev {q : Bool} {n b : Nat} : ∀ {xs : List PyData}, GdA q xs n b → GdA q xs.reverse n b := by
  intro xs h
  have key : ∀ xs : List PyData, okVA q xs = true → PyData.depthAll xs ≤ n → GdA q xs.reverse n (PyData.bulkAll xs) := by
    intro xs
    induction xs with
    | nil => exact fun _ _ => .nil
    | cons x xs ih =>
      intro h1 h2
      simp only [okVA, Bool.and_eq_true] at h1
      simp only [PyData.depthAll] at h2
      rw [List.reverse_cons]
      simp only [PyData.bulkAll]
      exact (ih h1.2 (by omega)).app (b2 := x.bulk + 1) (.cons (b1 := x.bulk) (b2 := 0) ⟨h1.1, by omega, Nat.le_refl _⟩ .nil (by omega)) (by omega)
  exact (key xs h.ok h.dp).mono (Nat.le_refl _) h.bk
theorem Gd.non {q : Bool} {n b : Nat} : Gd q .none n b := ⟨by simp [okV], by simp [PyData.depth], by simp [PyData.bulk]⟩
theorem Gd.bl {q c : Bool} {n b : Nat} : Gd q (.bool c) n b := ⟨by simp [okV], by simp [PyData.depth], by simp [PyData.bulk]⟩
theorem Gd.int {q : Bool} {i : Int} {n b : Nat} (h : intOk i = true) : Gd q (.int i) n b := ⟨by simp [okV, h], by simp [PyData.depth], by simp [PyData.bulk]⟩
theorem Gd.str {q : Bool} {x : Str} {n b : Nat} (h : strOkB x = true) (hb : x.cps.size ≤ b) : Gd q (.str x) n b := ⟨by simp [okV, h], by simp [PyData.depth], by simp [PyData.bulk]; exact hb⟩
theorem S_toList (x : Str) : S x.cps.toList = x := rfl
theorem Gd.strL {q : Bool} {l : List Nat} {n b : Nat} (h : l.all (· < 128) = true) (h2 : l.length ≤ 300) (hb : l.length ≤ b) : Gd q (.str (S l)) n b := by
  refine .str ?_ (by rw [show (S l).cps.size = l.length from List.size_toArray ..]; exact hb)
  simp only [strOkB, Bool.and_eq_true, decide_eq_true_eq]
  exact ⟨h, by rw [show (S l).cps.size = l.length from List.size_toArray ..]; exact h2⟩
theorem Gd.strlen {q : Bool} {x : Str} {n b : Nat} (h : Gd q (.str x) n b) : x.cps.toList.all (· < 128) = true ∧ x.cps.toList.length ≤ 300 := by
  have := h.ok
  simp only [okV, strOkB, Bool.and_eq_true, decide_eq_true_eq] at this
  exact ⟨this.1, by rw [Array.length_toList]; exact this.2⟩
end Ag

end
/-! ## Sel -/
section
set_option linter.all false
set_option maxRecDepth 100000
namespace Ag
open PySem PySem.Spec PyProof.Rows L2
/-- a comprehension with a pure test and a pure value at each place, under which things may be made -/
theorem lc_sel {J : It} {n : Nat} {G : Hp → Prop} {Y : Nat → Hp → V → Hp → Prop} (w : Walk J n G Y) {g : TG} {tt : TT} {te : TE} {vs : List Nat} {σ : L2.St} {H1 : Hp} {D : Addr} {Qd : Hp → Prop}
    (t : Nat → Bool) (e : Nat → V) (hn : n ≤ 16000000) (hD : H1 D = none) (hG : ∀ H, Same H1 H → G H)
    (hs : ∀ i x H H' (k : VK) (k0 : Hp → Prop), i < n → Same H1 H → Y i H x H' → (t i = true → ∀ H4, Same H H4 → k (e i) H4) → (t i = false → ∀ H4, Same H H4 → k0 H4) →
      g x (wipe σ vs) H' fun σ2 H2 => wipe σ2 vs = wipe σ vs ∧ tt σ2 H2 fun b H3 => if b = true then te σ2 H3 k else k0 H3)
    (hd : ∀ H, Same H1 H → H D = some (.lst (((List.range n).filter t).map e)) → Qd H) :
    ∃ W : Nat → Nat → Hp → Prop, (∃ m, W 0 m (upd H1 D (.lst []))) ∧ ∀ i m H, W i m H →
      (J.stop i H ∧ Qd H) ∨ (J.go i H ∧ ∃ Nx : Hp → Prop, (∀ H', Nx H' → ∃ m', m' < m ∧ W (i + 1) m' H') ∧ ∀ x H', J.yld i H x H' → g x (wipe σ vs) H' fun σ2 H2 => wipe σ2 vs = wipe σ vs ∧ tt σ2 H2 fun b H3 =>
        if b = true then te σ2 H3 fun y H4 => ∃ acc, H4 D = some (.lst acc) ∧ acc.length < sizeLine ∧ Nx (upd H4 D (.lst (acc ++ [y]))) else Nx H3) := by
  have put : ∀ (H : Hp) (o : HO), Same H1 H → Same H1 (upd H D o) := fun H o s b u eb => by
    rw [upd_ne (ne_of_none eb hD)]
    exact s b u eb
  have step : ∀ i, (List.range (i + 1)).filter t = (List.range i).filter t ++ (if t i = true then [i] else []) := fun i => by
    rw [List.range_succ, List.filter_append]
    cases h : t i <;> simp [h]
  refine lc_it (g := g) (tt := tt) (te := te) (vs := vs) (σ := σ) w (fun i H => Same H1 H ∧ H D = some (.lst (((List.range i).filter t).map e))) ⟨put _ _ (Same.refl _), by simpa using upd_same⟩ (fun i H _ h => hG H h.1) (fun i x H H' hi h hy => ?_) (fun H h => hd H h.1 h.2)
  obtain ⟨s1, h1⟩ := h
  have hl : (((List.range i).filter t).map e).length ≤ i := by
    rw [List.length_map]
    exact Nat.le_trans (List.length_filter_le _ _) (by rw [List.length_range]; exact Nat.le_refl _)
  refine hs i x H H' _ _ hi s1 hy (fun ht H4 s4 => ?_) (fun ht H4 s4 => ?_)
  · refine ⟨_, s4 _ _ h1, by rw [sizeLine_eq]; omega, put _ _ (s1.trans s4), ?_⟩
    rw [upd_same, step, if_pos ht, List.map_append]
    rfl
  · refine ⟨s1.trans s4, ?_⟩
    rw [step, if_neg (by rw [ht]; decide), List.append_nil]
    exact s4 _ _ h1
/-- len of a list or a tuple, where a comprehension's block runs -/
def rLenK (K : PySem.W.Frag) : List V → Hp → VK → Prop := fun xs H Q => ∃ p ys, xs = [.ref p] ∧ (SqL K H p ys ∨ SqT K H p ys) ∧ Q (.int ys.length) H
theorem call_lenK {X : Cx} (K : PySem.W.Frag) (hK : X.K = K) : CallR X (.builtin "len") (rLenK K) := by
  subst hK
  exact call_len_seq
theorem filt_all {n : Nat} (e : Nat → V) : ((List.range n).filter fun _ => true).map e = (List.range n).map e := by rw [List.filter_eq_self.mpr fun _ _ => rfl]
/-- bools by place -/
theorem bls_map {n : Nat} (b : Nat → Bool) : (List.range n).map (fun i => V.bl (b i)) = ((List.range n).map b).map V.bl := by rw [List.map_map]; rfl
theorem all_at {α : Type} (l : List α) (t : α → Bool) (d : α) : ((List.range l.length).map fun i => t (l.getD i d)).all id = l.all t := by
  induction l with
  | nil => rfl
  | cons a l ih =>
    rw [List.length_cons, List.range_succ_eq_map, List.map_cons, List.all_cons, List.map_map, List.all_cons, ← ih]
    rfl
theorem none_at {α : Type} (l : List α) (t : α → Bool) (d : α) : decide (((List.range l.length).filter fun i => !t (l.getD i d)) = []) = l.all t := by
  rw [Bool.eq_iff_iff, decide_eq_true_eq, List.filter_eq_nil_iff, List.all_eq_true]
  constructor
  · intro h a ha
    obtain ⟨i, hi, rfl⟩ := List.mem_iff_getElem.mp ha
    have := h i (List.mem_range.mpr hi)
    rw [List.getD_eq_getElem?_getD, List.getElem?_eq_getElem hi] at this
    simpa using this
  · intro h i hi
    have hi := List.mem_range.mp hi
    rw [List.getD_eq_getElem?_getD, List.getElem?_eq_getElem hi]
    simpa using h _ (List.getElem_mem hi)
theorem eqv_map_nil {α : Type} (l : List α) (e : α → PyData) : PyData.eqv (.list (l.map e)) (.list []) = decide (l = []) := by
  cases l <;> simp [PyData.eqv, PyData.eqvAll]
theorem dp_const {K : PySem.W.Frag} {H : Hp} {α : Type} : ∀ l : List α, DpAll K H (l.map fun _ => V.int 1) (l.map fun _ => PyData.int 1)
  | [] => .nil
  | _ :: l => .cons (.int 1) (dp_const l)
end Ag

end
/-! ## Kit2 -/
section
set_option linter.all false
set_option maxRecDepth 100000
namespace Ag
open PySem PySem.Spec PyProof.Rows L2
open SX (S S_len S_cat S_inj)
/-! ### str * int -/
theorem foldl_cps (z : List Nat) (n : Nat) : (List.replicate n (S z).cps).foldl (· ++ ·) #[] = (List.replicate n z).flatten.toArray := by
  have key : ∀ (n : Nat) (acc : Array Nat), (List.replicate n (S z).cps).foldl (· ++ ·) acc = acc ++ (List.replicate n z).flatten.toArray := by
    intro n
    induction n with
    | zero => intro acc; simp
    | succ n ih =>
      intro acc
      rw [List.replicate_succ, List.foldl_cons, ih, List.replicate_succ, List.flatten_cons]
      apply Array.ext'
      simp
  rw [key n #[]]
  simp
theorem mul_S (z : List Nat) (n : Nat) : Txt.mul (S z) (n : Int) = S (List.replicate n z).flatten := by
  unfold Txt.mul
  by_cases h0 : n = 0
  · subst h0
    rfl
  · rw [if_neg (by omega)]
    split
    · rename_i h
      simp only [Bool.or_eq_true, beq_iff_eq] at h
      rcases h with h | h
      · have : n = 1 := by omega
        subst this
        simp
      · rw [S_len] at h
        have : z = [] := List.length_eq_zero_iff.mp h
        subst this
        simp
    · rw [show ((n : Int)).toNat = n by simp, foldl_cps]
theorem op_rep_str {X : Cx} : OpR X (binaryOp .Mult) (fun x y H Q => ∃ (z : List Nat) (n : Nat), x = .str (S z) ∧ y = .int (n : Int) ∧ z.length * n ≤ 16000000 ∧ n ≤ 16000000 ∧ z.length ≤ 16000000 ∧ Q (.str (S (List.replicate n z).flatten)) H) := by
  intro pins s σ H x y v u Q I rx ry h
  obtain ⟨z, n, rfl, rfl, h1, h2, h3, q⟩ := h
  obtain ⟨t, rfl⟩ := rx
  obtain ⟨t', rfl⟩ := ry
  refine SB.mul ⟨?_, fun _ _ => ?_, fun _ _ => ?_⟩ (fun a k => ?_)
  · rw [Bool.or_eq_false_iff, decide_eq_false_iff_not, decide_eq_false_iff_not]
    omega
  · rename_i a b
    have hn : (1 : Int) ≤ (n : Int) := by omega
    have : (2 ^ 63 - 1) / (n : Int) ≥ (2 ^ 63 - 1) / 16000000 := by
      rw [ge_iff_le, Int.le_ediv_iff_mul_le (by omega)]
      have e : ((2 ^ 63 - 1 : Int) / 16000000) = 576460752303 := by decide
      rw [e]
      omega
    have e : ((2 ^ 63 - 1 : Int) / 16000000) = 576460752303 := by decide
    rw [S_len]
    omega
  · rw [S_len]
    show decide (z.length * (n : Int).toNat > sizeLine) = false
    rw [decide_eq_false_iff_not, sizeLine_eq, show ((n : Int)).toNat = n by simp]
    omega
  · rw [mul_S]
    exact ⟨.str _, H, I.tok _, ⟨_, rfl⟩, q⟩
/-! ### for i, c in enumerate(text) -/
def Ites (x : Str) : It :=
  ⟨fun i _ => i < x.cps.size, fun i H v H' => ∃ T c, v = .ref T ∧ H T = none ∧ H' = upd H T (.tup [.int (i : Nat), .str ⟨#[c]⟩]) ∧ x.cps[i]? = some c, fun i _ => i = x.cps.size⟩
theorem walk_enumS {x : Str} : Walk (Ites x) x.cps.size (fun _ => True) (fun i H v H' => ∃ T c, v = .ref T ∧ H T = none ∧ H' = upd H T (.tup [.int (i : Nat), .str ⟨#[c]⟩]) ∧ x.cps[i]? = some c) :=
  ⟨fun _ _ h _ => h, fun _ _ => rfl, fun _ _ _ _ _ _ z => z⟩
theorem draws_str {P : Program} {w : World} {A : Around} (hh : A.handled = none) (it : Addr) (x : Str) (t : Tok) {ty : String} (hty : ty = "str_ascii_iterator" ∨ ty = "str_iterator") :
    Draws P w A it [it] x.cps.size (fun i v => ∃ c u, x.cps[i]? = some c ∧ v = .str ⟨#[c]⟩ u) (fun i h => h.IsStrIter it ty x t i) := by
  rcases hty with rfl | rfl
  · exact Draws.strAscii hh it x t
  · exact Draws.strWide hh it x t
theorem turn_enumS {P : Program} {w : World} {K : PySem.W.Frag} {elts : List Expr} {kk : Nat} {tpos : Pos} (x : Str) (t : Tok) (ty : String) (hty : ty = "str_ascii_iterator" ∨ ty = "str_iterator") (e it : Addr) :
    Turn P w K (.Tuple elts kk tpos) (Ites x) [e, it] e (fun i h => (∃ old, IsEnum h e it ((i : Nat) : Int) old) ∧ h.IsStrIter it ty x t i ∧ e ≠ it) where
  mem := List.mem_cons_self
  obj := by
    rintro i h ⟨⟨old, he⟩, ⟨o, ho, hc, hd⟩, _⟩ b hb
    rcases List.mem_cons.mp hb with rfl | hb
    · exact ⟨_, he, fun v q => by cases q⟩
    · obtain rfl := List.mem_singleton.mp hb
      exact ⟨o, ho, fun v q => by rw [hd] at q; cases q⟩
  keep := by
    rintro i h h' ⟨⟨old, he⟩, ⟨o, ho, r⟩, hne⟩ k
    exact ⟨⟨old, k e List.mem_cons_self _ he⟩, ⟨o, k it (List.mem_cons_of_mem _ List.mem_cons_self) o ho, r⟩, hne⟩
  item := by
    intro X hP hw hK hc i pins s σ H E I hf st hg
    subst hP hw hK
    obtain ⟨⟨old, he⟩, hit, hne⟩ := st
    have hel : e < s.heap.objs.size := Heap.lt_size he
    have hil : it < s.heap.objs.size := by obtain ⟨_, q, _⟩ := hit; exact Heap.lt_size q
    have D := draws_str (P := X.prog) (w := X.w) (A := X.A.in1) (I.ok.hd hc) it x t hty
    refine wpAny_pyNext_enum_itemD D he hit hg hne (fun z => hne (List.mem_singleton.mp z)) ?_
    rintro v h' tk ⟨c, u, hcx, rfl⟩ ho hit' hT hsz hk
    refine ⟨_, rfl, wpAny_letOwnedTupleGo_enum (s := { s with heap := h', toks := tk + 1 }) ho ?_⟩
    intro h'' he' sb
    have hT2 : h''.get? s.heap.objs.size = some { cls := .type "tuple", data := .seq #[.int i tk, .str ⟨#[c]⟩ u] } := (sb.2 _ (Nat.ne_of_gt hel)).trans hT
    have ok : ObjOk X.prog X.w (upd H s.heap.objs.size (.tup [.int (i : Nat), .str ⟨#[c]⟩])) h'' s.heap.objs.size (.tup [.int (i : Nat), .str ⟨#[c]⟩]) :=
      ⟨by show 2 ≤ sizeLine; decide, [.int i tk, .str ⟨#[c]⟩ u], .cons ⟨_, rfl⟩ (.cons ⟨_, rfl⟩ .nil), ⟨_, hT2, rfl, _, rfl⟩⟩
    have I1 : Inv X pins σ (upd H s.heap.objs.size (.tup [.int (i : Nat), .str ⟨#[c]⟩])) { s with heap := h'', toks := tk + 1 } :=
      I.turnedNew (ch := [e, it]) (fun b ob hb q => (sb.2 b (fun z => hb (by rw [z]; exact List.mem_cons_self))).trans (hk b ob (fun z => hb (by rw [z]; exact List.mem_cons_self)) (fun z => hb (by rw [z]; exact List.mem_cons_of_mem _ List.mem_cons_self)) q)) hf (Nat.le_refl _) ok
    have e1 : ((i + 1 : Nat) : Int) = (i : Int) + 1 := by omega
    have hit2 : h''.IsStrIter it ty x t (i + 1) := by
      obtain ⟨o, q1, q2⟩ := hit'
      exact ⟨o, (sb.2 it hne.symm).trans q1, q2⟩
    refine ⟨.ref s.heap.objs.size, _, I1, rfl, ⟨_, c, rfl, I.hok.fresh (Nat.le_refl _), rfl, hcx⟩, ⟨⟨_, by rw [e1]; exact he'⟩, hit2, hne⟩, fun b hb => ?_⟩
    have hb' : b < s.heap.objs.size := by
      rcases List.mem_cons.mp hb with rfl | z
      · exact hel
      · rw [List.mem_singleton.mp z]
        exact hil
    rw [upd_ne (Nat.ne_of_lt hb')]
    exact (hf b hb).1
  done := by
    intro X hP hw hK hc i pins s σ H E I hf st hg
    subst hP hw hK
    obtain ⟨⟨old, he⟩, hit, hne⟩ := st
    obtain ⟨f0, f1, f2, f3, f4, f5⟩ := hf it (List.mem_cons_of_mem _ List.mem_cons_self)
    obtain rfl : i = x.cps.size := hg
    have D := draws_str (P := X.prog) (w := X.w) (A := X.A.in1) (I.ok.hd hc) it x t hty
    exact wpAny_pyNext_enum_endD D he hit fun h' eb => ⟨rfl, I.turned (t' := s.toks) (fun b o hb q => eb b o hb q) f0 f1 f3 f4 f5⟩
  self := fun A i s Q E st h => st.1.elim fun _ z => wpAny_pyIter_enum z h
def iEnumS (ta : TA) : TI := fun σ H R => ta σ H fun vs H1 => ∃ x, vs = [.str x] ∧ R (Ites x) H1
theorem pi_enumS {X : Cx} {e : Expr} {ta : TA} {p pos tpos : Pos} {elts : List Expr} {kk : Nat} (hg : Gl X "enumerate") (hm : X.mg "enumerate" = none) (ha : PA X [e] ta) (hs : starEach [e] X.env = [(false, eval e X.env)] := by rfl) :
    PI X (.Tuple elts kk tpos) (.Call (.Name "enumerate" p) [e] [] pos) (iEnumS ta) := by
  constructor
  intro pins s σ H R I h
  refine Call_ (ld_blt I hg hm boot_enumerate (PyProof.Rows.callWith_type1 (thn (ha.run pos pins s σ H _ I h) ?_) hs rfl))
  rintro us s1 ⟨vs, H1, I1, r1, x, rfl, q⟩
  obtain ⟨u, rfl, t, rfl⟩ := vals1 r1
  refine call_enumerate_str fun h' he hit hsz hk => wpAny_pyIter_enum he ?_
  have I2 : Inv X pins σ H1 { s1 with heap := h' } := I1.kept (t' := s1.toks) hk
  have hty : strIterType x = "str_ascii_iterator" ∨ strIterType x = "str_iterator" := by
    unfold strIterType
    split
    · exact .inl rfl
    · exact .inr rfl
  refine ⟨s1.heap.objs.size + 1, [s1.heap.objs.size + 1, s1.heap.objs.size], _, _, H1, rfl, I2, turn_enumS x t _ hty (s1.heap.objs.size + 1) s1.heap.objs.size, ⟨⟨.none, he⟩, hit, Nat.succ_ne_self _⟩, ?_, q⟩
  intro b hb
  have hle : s1.heap.objs.size ≤ b := by
    rcases List.mem_cons.mp hb with rfl | z
    · exact Nat.le_succ _
    · rw [List.mem_singleton.mp z]
      exact Nat.le_refl _
  exact I1.fpOk hle (I1.hok.fresh hle)
/-- a target of two names, where a comprehension's block runs -/
theorem pg_two {X : Cx} (K : PySem.W.Frag) {i j : Nat} {x y : Str} {px py pt : Pos} {k : Nat} (hc : X.calm = true) (hN : X.N.Nodup) (hi : X.N[i]? = some x) (hj : X.N[j]? = some y) (hx : X.env.scope.names.lookup x = some .local) (hy : X.env.scope.names.lookup y = some .local) (hK : X.K = K) :
    PG X (.Tuple [.Name x px, .Name y py] k pt) (gTup K 2 (gCons (gName i) (gCons (gName j) gNil))) := by
  subst hK
  exact pg_tup hc (pgs_cons (pg_name hN hi (.inl hx) (.inr hx)) (pgs_cons (pg_name hN hj (.inl hy) (.inr hy)) pgs_nil))
end Ag

end
/-! ## Z0 -/
section
set_option linter.all false
set_option maxRecDepth 100000
namespace Ag
open PySem PySem.Spec PyProof.Rows L2
open SX (S S_len S_cat S_inj)
theorem bl_b {p : Prop} [Decidable p] {b : Bool} (h : decide p = b) {Q : VK} {H : Hp} (q : Q (.bl b) H) : Q (.bl (decide p)) H := by rw [h]; exact q
theorem sz {n : Nat} (h : n ≤ 16000000) : n ≤ sizeLine := by rw [sizeLine_eq]; omega
theorem same_new {H : Hp} {p : Addr} {o : HO} (h : H p = none) : Same H (upd H p o) := fun b x e => by
  rw [upd_ne (ne_of_none e h)]
  exact e
theorem map_at' {α : Type} (ds : List PyData) (g : PyData → α) : (List.range ds.length).map (fun i => g ((ds[i]?).getD .none)) = ds.map g := by
  refine List.ext_getElem? fun i => ?_
  rw [List.getElem?_map, List.getElem?_map]
  by_cases h : i < ds.length
  · rw [List.getElem?_range h, List.getElem?_eq_getElem h]
    show some (g ((ds[i]?).getD .none)) = some (g ds[i])
    rw [List.getElem?_eq_getElem h]
    rfl
  · rw [List.getElem?_eq_none (by simpa using h), List.getElem?_eq_none (by omega)]
    rfl
/-- [g(x) for x in t], t a tuple of data, g a test -/
theorem lc_bools {K : PySem.W.Frag} {p c a D : Addr} {H1 : Hp} {xs : List V} {ds : List PyData} {gt : TG} {te : TE} {vs : List Nat} {σ : L2.St} {Qd : Hp → Prop} (g : PyData → Bool) (da : DgA p c H1 xs ds) (hq : H1 a = some (.tup xs)) (hn : xs.length ≤ 16000000) (hD : H1 D = none)
    (hs : ∀ y d H (k : VK), d ∈ ds → Dg p c H y d → Same H1 H → (∀ H4, Same H H4 → k (.bl (g d)) H4) → gt y (wipe σ vs) H fun σ2 H2 => wipe σ2 vs = wipe σ vs ∧ te σ2 H2 k) (hd : ∀ H, Same H1 H → H D = some (.lst ((ds.map g).map V.bl)) → Qd H) :
    ∃ W : Nat → Nat → Hp → Prop, (∃ m, W 0 m (upd H1 D (.lst []))) ∧ ∀ i m H, W i m H →
      ((Itt K a).stop i H ∧ Qd H) ∨ ((Itt K a).go i H ∧ ∃ Nx : Hp → Prop, (∀ H', Nx H' → ∃ m', m' < m ∧ W (i + 1) m' H') ∧ ∀ x H', (Itt K a).yld i H x H' → gt x (wipe σ vs) H' fun σ2 H2 => wipe σ2 vs = wipe σ vs ∧ tYes σ2 H2 fun b H3 =>
        if b = true then te σ2 H3 fun y H4 => ∃ acc, H4 D = some (.lst acc) ∧ acc.length < sizeLine ∧ Nx (upd H4 D (.lst (acc ++ [y]))) else Nx H3) := by
  have hl := da.len
  refine lc_sel (walk_tup (K := K) (a := a) (xs := xs)) (tt := tYes) (fun _ => true) (fun i => .bl (g ((ds[i]?).getD .none))) hn hD (fun H' s => SqT.of (s _ _ hq)) ?_ ?_
  · rintro j y H2 H3 k k0 hi s1 ⟨rfl, hy⟩ hk _
    obtain ⟨d, hd', dd⟩ := da.at_ hy
    have hk := hk rfl
    rw [hd'] at hk
    exact hs y d _ k (List.mem_of_getElem? hd') (dd.to (Kp.same s1)) s1 hk
  · intro H2 s2 h2
    refine hd H2 s2 ?_
    rw [h2, show (List.range xs.length).filter (fun _ => true) = List.range xs.length from List.filter_eq_self.mpr fun _ _ => rfl, hl, List.map_map, show (V.bl ∘ g) = fun d => V.bl (g d) from rfl, ← map_at' ds (fun d => V.bl (g d))]
/-- [x for x in t if not g(x)], t a tuple of data -/
theorem lc_fails {K : PySem.W.Frag} {p c a D : Addr} {H1 : Hp} {xs : List V} {ds : List PyData} {gt : TG} {tt : TT} {te : TE} {vs : List Nat} {σ : L2.St} {Qd : Hp → Prop} (g : PyData → Bool) (da : DgA p c H1 xs ds) (hq : H1 a = some (.tup xs)) (hn : xs.length ≤ 16000000) (hD : H1 D = none)
    (hs : ∀ y d H (k : VK) (k0 : Hp → Prop), d ∈ ds → Dg p c H y d → Same H1 H → (g d = false → ∀ H4, Same H H4 → k y H4) → (g d = true → ∀ H4, Same H H4 → k0 H4) → gt y (wipe σ vs) H fun σ2 H2 => wipe σ2 vs = wipe σ vs ∧ tt σ2 H2 fun b H3 => if b = true then te σ2 H3 k else k0 H3)
    (hd : ∀ H L, Same H1 H → H D = some (.lst L) → decide (L = []) = ds.all g → Qd H) :
    ∃ W : Nat → Nat → Hp → Prop, (∃ m, W 0 m (upd H1 D (.lst []))) ∧ ∀ i m H, W i m H →
      ((Itt K a).stop i H ∧ Qd H) ∨ ((Itt K a).go i H ∧ ∃ Nx : Hp → Prop, (∀ H', Nx H' → ∃ m', m' < m ∧ W (i + 1) m' H') ∧ ∀ x H', (Itt K a).yld i H x H' → gt x (wipe σ vs) H' fun σ2 H2 => wipe σ2 vs = wipe σ vs ∧ tt σ2 H2 fun b H3 =>
        if b = true then te σ2 H3 fun y H4 => ∃ acc, H4 D = some (.lst acc) ∧ acc.length < sizeLine ∧ Nx (upd H4 D (.lst (acc ++ [y]))) else Nx H3) := by
  have hl := da.len
  refine lc_sel (walk_tup (K := K) (a := a) (xs := xs)) (fun i => !g ((ds[i]?).getD .none)) (fun i => (xs[i]?).getD .non) hn hD (fun H' s => SqT.of (s _ _ hq)) ?_ ?_
  · rintro j y H2 H3 k k0 hi s1 ⟨rfl, hy⟩ hk hk0
    obtain ⟨d, hd', dd⟩ := da.at_ hy
    rw [hd', hy] at hk
    rw [hd'] at hk0
    exact hs y d _ k k0 (List.mem_of_getElem? hd') (dd.to (Kp.same s1)) s1 (fun z => hk (by show (!g d) = true; rw [z]; rfl)) fun z => hk0 (by show (!g d) = false; rw [z]; rfl)
  · intro H2 s2 h2
    refine hd H2 _ s2 h2 ?_
    rw [Bool.eq_iff_iff, decide_eq_true_eq, List.map_eq_nil_iff, List.filter_eq_nil_iff, List.all_eq_true, hl]
    constructor
    · intro h d hd'
      obtain ⟨i, hi⟩ := List.mem_iff_getElem?.mp hd'
      have lt : i < ds.length := (List.getElem?_eq_some_iff.mp hi).1
      have := h i (List.mem_range.mpr lt)
      rw [hi] at this
      simpa using this
    · intro h i hi
      have lt := List.mem_range.mp hi
      rw [List.getElem?_eq_getElem lt]
      have := h _ (List.getElem_mem lt)
      simpa using this
/-- a tuple of four -/
theorem DgA.four {p c : Addr} {H : Hp} {xs : List V} {ds : List PyData} (h : DgA p c H xs ds) (e : xs.length = 4) : ∃ v1 v2 v3 v4 d1 d2 d3 d4, xs = [v1, v2, v3, v4] ∧ ds = [d1, d2, d3, d4] ∧ Dg p c H v1 d1 ∧ Dg p c H v2 d2 ∧ Dg p c H v3 d3 ∧ Dg p c H v4 d4 := by
  cases h with
  | nil => cases e
  | cons h1 h => cases h with
    | nil => cases e
    | cons h2 h => cases h with
      | nil => cases e
      | cons h3 h => cases h with
        | nil => cases e
        | cons h4 h => cases h with
          | nil => exact ⟨_, _, _, _, _, _, _, _, rfl, rfl, h1, h2, h3, h4⟩
          | cons _ _ => simp at e
/-! ### what is asked of any data -/
def isIntB : PyData → Bool
  | .int _ => true
  | _ => false
def wholeB (lo hi : Int) : PyData → Bool
  | .int i => decide (lo ≤ i) && decide (i ≤ hi)
  | _ => false
def asInt : PyData → Int
  | .int i => i
  | _ => 0
def isBoolB : PyData → Bool
  | .bool _ => true
  | _ => false
theorem whole_E {p c : Addr} {H : Hp} {v : V} {d : PyData} {lo hi : Int} (h : Dg p c H v d) (e : wholeB lo hi d = true) : ∃ i : Int, v = .int i ∧ d = .int i ∧ lo ≤ i ∧ i ≤ hi := by
  cases h with
  | int i =>
    have e : (decide (lo ≤ i) && decide (i ≤ hi)) = true := e
    rw [Bool.and_eq_true, decide_eq_true_eq, decide_eq_true_eq] at e
    exact ⟨i, rfl, rfl, e.1, e.2⟩
  | _ => cases e
theorem int_E {p c : Addr} {H : Hp} {v : V} {d : PyData} (h : Dg p c H v d) (e : isIntB d = true) : ∃ i : Int, v = .int i ∧ d = .int i := by
  cases h with
  | int i => exact ⟨i, rfl, rfl⟩
  | _ => cases e
theorem bool_E {p c : Addr} {H : Hp} {v : V} {d : PyData} (h : Dg p c H v d) (e : isBoolB d = true) : ∃ b, v = .bl b ∧ d = .bool b := by
  cases h with
  | bl b => exact ⟨b, rfl, rfl⟩
  | _ => cases e
theorem isi_B' {K : PySem.W.Frag} (d : PyData) : PySem.W.kitOne K (.type (tyD d)) (.type "bool") = some (isBoolB d) := by
  cases d <;> exact isi_B _
theorem isi_I' {K : PySem.W.Frag} (d : PyData) : PySem.W.kitOne K (.type (tyD d)) (.type "int") = some (isI d) := isi_I d
end Ag

end
/-! ## Exc1 -/
section
set_option linter.all false
set_option maxRecDepth 100000
namespace Ag
open PySem PySem.Spec PyProof.Rows L2
/-! ### own exceptions over Exception, whose __init__ stores -/
abbrev exT : List Value := [.type "Exception", .type "BaseException", .type "object"]
structure OexE (K : PySem.W.Frag) (C : Addr) : Prop where
  cl : ∃ (nm q : Str) (N : Addr) (bs bm : List Value) (sn : List Str) (sub : List Value) (ab : Bool) (col : Option Bool) (dd : Option Addr) (k0 k1 k2 k3 k5 : Option Value),
    K.lookup C = some (excClassObj nm q C N bs bm true sn sub ab col dd k0 k1 k2 k3 k5 "Exception.__new__") ∧ PySem.W.excTail exT bm = true
  st : PySem.W.findIn K (.ref C) "__setattr__" = some (some (.builtin "object.__setattr__")) ∧ PySem.W.subIn K (.ref C) (.type "BaseException") = some true ∧ PySem.W.typeIn K (.ref C) = some (.type "type") ∧ PySem.W.keepIn K (.ref C) = true
section
variable {X : Cx} {pins : List (Addr × Obj)} {σ : L2.St} {H : Hp} {s : Shared} {a C : Addr} {f : Str} {y : V} {u : Value} {Q : Unit → Shared → Prop} {E : Value → Shared → Prop} {A : Around}
theorem oexE_over {K : PySem.W.Frag} (T : OexE K C) : PySem.W.excOver K C exT = true ∧ ∃ cd, PySem.W.clsIn K C = some cd ∧ cd.hasDict = true := by
  obtain ⟨nm, q, N, bs, bm, sn, sub, ab, col, dd, k0, k1, k2, k3, k5, hC, hbm⟩ := T.cl
  have e : PySem.W.clsIn K C = some { name := nm, bases := bs, mro := .ref C :: bm, ns := N, qualname := q, hasDict := true, slotNames := sn, subclasses := sub, abstract := ab, collection := col, hasDel := false } := by
    unfold PySem.W.clsIn
    rw [hC] <;> rfl
  refine ⟨?_, _, e, rfl⟩
  unfold PySem.W.excOver
  rw [e]
  show (C == C && PySem.W.excTail exT bm) = true
  rw [hbm]
  simp
/-- self.f = y, the first one -/
theorem stE_new (T : OexE X.K C) (I : Inv X pins σ H s) (e : H a = some (exo a C none)) (hno : PySem.W.findIn X.K (.ref C) f = some none) (ry : RelV y u)
    (h : ∀ dx s', H dx = none → dx ≠ a → Inv X pins σ (upd (upd H dx (exd dx [(f, y)])) a (exo a C (some dx))) s' → Q () s') : wpAny (model X.prog X.w) A (setAttr (.ref a) f u) Q E s := by
  obtain ⟨ho1, cd, hcd, hhd⟩ := oexE_over T
  obtain ⟨t1, ho⟩ := exo_at I.hok e
  obtain ⟨hp, g, d, t, os⟩ := s
  refine PySem.W.set_plain (od := none) I.kIn ⟨ho, rfl, rfl, trivial⟩ T.st.1 (PySem.W.osa_openX (od := none) F.store_Exception I.kIn ⟨ho, rfl, rfl, trivial⟩ ho1 (by unfold PySem.W.takerIn; rw [hno]; rfl) fun b => ?_)
  have hal : a < hp.objs.size := Heap.lt_size ho
  refine wpAny_bind (wpAny_pure (wpAny_bind (PySem.W.instanceDict_exc (t := t1) (c2 := .none) ho (PySem.W.looks_clsIn I.kIn hcd) hhd ?_)))
  have had : a ≠ hp.objs.size := Nat.ne_of_lt hal
  have hpu : (hp.push (PySem.W.dictOf [] 0)).get? a = some (PySem.W.excObj C t1 none .none) := Heap.get?_push_of_some _ ho
  refine HandSPX.store_in_new ⟨_, #[], 0, (Heap.get?_update_other _ _ had).trans (Heap.get?_push_size _ rfl), rfl, fun e he => by simp at he, fun _ => rfl⟩ fun h' tk' hn' hs => ?_
  -- the heap behind, and one between
  have h1 : h'.get? a = some (PySem.W.excObj C t1 (some hp.objs.size) .none) := (hs.2 a had).trans (Heap.get?_update_self _ hpu rfl)
  have kp : ∀ b o, b ≠ a → hp.get? b = some o → h'.get? b = some o := fun b o hb hbo => (hs.2 b (Nat.ne_of_lt (Heap.lt_size hbo))).trans ((Heap.get?_update_other _ _ (Ne.symm hb)).trans (Heap.get?_push_of_some _ hbo))
  have m1 : (h'.update a fun _ => PySem.W.excObj C t1 none .none).get? a = some (PySem.W.excObj C t1 none .none) := Heap.get?_update_self _ h1 rfl
  have m2 : ∀ b, b ≠ a → (h'.update a fun _ => PySem.W.excObj C t1 none .none).get? b = h'.get? b := fun b hb => Heap.get?_update_other _ _ (Ne.symm hb)
  have hn2 : (h'.update a fun _ => PySem.W.excObj C t1 none .none).Ns1 hp.objs.size (fun y => if y = f then some u else none) := hn'.at fun o q => (m2 _ (Ne.symm had)).trans q
  have I1 : Inv X pins σ (upd H hp.objs.size (exd hp.objs.size [(f, y)])) ⟨h'.update a fun _ => PySem.W.excObj C t1 none .none, g, d, tk', os⟩ :=
    I.laid (a := hp.objs.size) (t' := tk') (fun b o hbo => by
      by_cases hb : b = a
      · subst hb
        rw [ho] at hbo
        rw [m1]
        exact hbo
      · rw [m2 b hb]
        exact kp b o hb hbo) (Nat.le_refl _) (exd_ok hn2 (relO_put (fs := []) ry fun _ => True.intro))
  have e1 : upd H hp.objs.size (exd hp.objs.size [(f, y)]) a = some (exo a C none) := by rw [upd_ne had]; exact e
  have I2 := I1.write (h' := h') (x := a) (e := a) (o := exo a C (some hp.objs.size)) (t' := tk') (by rw [e1]; exact True.intro) (.inl rfl) (fun b o hb q => by rw [← m2 b hb]; exact q) ⟨_, h1⟩ (exo_ok h1)
  exact h _ _ (I.hok.fresh (Nat.le_refl _)) (Ne.symm had) I2
end
end Ag

end
/-! ## Exc2 -/
section
set_option linter.all false
set_option maxRecDepth 100000
namespace Ag
open PySem PySem.Spec PyProof.Rows L2
/-- self.f = e in an own __init__ -/
def tStE (K : PySem.W.Frag) (f : Str) (to te : TE) : TS := fun D σ H => te σ H fun y H1 => to σ H1 fun x H2 => ∃ a C : Addr, x = .ref a ∧ OexE K C ∧ PySem.W.findIn K (.ref C) f = some none ∧ H2 a = some (exo a C none) ∧
  ∀ dx, H2 dx = none → dx ≠ a → D.nx σ (upd (upd H2 dx (exd dx [(f, y)])) a (exo a C (some dx)))
section
variable {X : Cx} {o e : Expr} {es : List Expr} {to te : TE} {ta : TA} {f x : Str} {p p' pos : Pos}
theorem psE_ost (ho : PE X o to) (he : PE X e te) (hs : swapsWith e (some (.Attribute o f p')) pos.line X.env = pure false := by rfl) : PS X (.Assign [.Attribute o f p'] e pos) (tStE X.K f to te) := by
  constructor
  intro pins s σ H D I h
  refine plainObj_wpAny_Assign_Attribute (thn (he.run pins s σ H _ I h) ?_) hs
  rintro v s1 ⟨y, H1, I1, r1, q1⟩
  refine thn (ho.run pins s1 σ H1 _ I1 q1) ?_
  rintro u s2 ⟨x, H2, I2, r2, a, C, rfl, T, hno, ea, q⟩
  cases (show u = Value.ref a from r2)
  exact stE_new T I2 ea hno r1 fun dx s' n ne J => ⟨σ, _, J, q dx n ne⟩
/-- C(e, ..) of such a class -/
theorem pmkE {CX : CXT} {C fI : Addr} {k : Nat} {fd : FuncData} {ps : List Str} {sp : Sp} (T : OexE X.K C) (iC : PySem.W.findIn X.K (.ref C) "__init__" = some (some (.ref fI)) ∧ PySem.W.typeIn X.K (.ref fI) = some (.type "function"))
    (F1 : FnOk X.prog X.w X.K X.mg X.base CX k fI fd ps sp) (hr : Room (k + 1) X.A) (hb : Binds X.K fd ps []) (hx : Passes CX X E0) (hg : Gl X x) (hm : X.mg x = some (.ref C)) (ha : PA X (e :: es) ta) (hdb : (x == ("__debug__" : Str)) = false := by decide)
    (he : starEach (e :: es) X.env = (false, eval e X.env) :: starEach es X.env := by rfl) (hpl : (backTo pos (starEach es X.env)).any (·.1) = false := by rfl) : PMk X (.Call (.Name x p) (e :: es) [] pos) (tMkO C sp [] ta) := by
  intro pins s σ H Q I h
  refine wpAny_Call_Name_kw (ld_glob I hg hm (PySem.W.callWith_K (h₀ := X.base) I.ok.mod.kin T.st.2.2.2 (thn (ha.run pos pins s σ H _ I h) ?_) he hpl) hdb)
  rintro us ⟨hp, g, dr, tk, os⟩ ⟨vs, H1, I1, r1, hz, q1⟩
  refine ⟨I1.kIn, ?_⟩
  show wpAny _ _ (call (.ref C) us) _ _ _
  obtain ⟨nm, q, N, bs, bm, sn, sub, ab, col, dd, k0, k1, k2, k3, k5, hC, hbm⟩ := T.cl
  have hq := q1 (hp.objs.size + 1) (I1.hok.fresh (Nat.le_succ _))
  rw [List.append_nil] at hq
  generalize hP : hp.push (PySem.W.kdv_tup us) = hp1
  have z1 : hp1.objs.size = hp.objs.size + 1 := by rw [← hP, Heap.size_push]
  have kk : ∀ b o, hp.get? b = some o → (hp1.push (HandSPX.excO C hp.objs.size)).get? b = some o := fun b o w => Heap.get?_push_of_some _ (by rw [← hP]; exact Heap.get?_push_of_some _ w)
  have gt : (hp1.push (HandSPX.excO C hp.objs.size)).get? (hp.objs.size + 1) = some (HandSPX.excO C hp.objs.size) := by rw [← z1]; exact Heap.get?_push_size _ rfl
  have I2 : Inv X pins σ (upd H1 (hp.objs.size + 1) (exo (hp.objs.size + 1) C none)) ⟨hp1.push (HandSPX.excO C hp.objs.size), g, dr, tk, os⟩ := I1.laid (t' := tk) kk (Nat.le_succ _) (exo_ok gt)
  have r2 : Vals (V.ref (hp.objs.size + 1) :: vs) (Value.ref (hp.objs.size + 1) :: us) := .cons rfl r1
  have hus : us.length ≤ 1000 := by rw [← Paired.length r1]; exact hz
  have hlen : (Value.ref (hp.objs.size + 1) :: us).length = ps.length := r2.length.symm.trans (F1.len _ _ _ _ hq)
  have bb := hb ⟨hp1.push (HandSPX.excO C hp.objs.size), g, dr, tk, os⟩ (Value.ref (hp.objs.size + 1) :: us) I2.kIn (by rw [List.append_nil]; exact hlen)
  rw [List.append_nil] at bb
  have run := F1.run _ X.stack _ _ ⟨Value.ref (hp.objs.size + 1) :: us, []⟩ _ _ _ E0 (hr.make C us []) (I2.env0.make C us []) bb r2 hq
  refine wpAny_call (HandSPX.call_own F.excBase_Exception (fun Y => PySem.W.excTail_contains Y bm hbm) (I1.kIn _ _ hC) (PySem.W.looks_findIn I1.kIn iC.1) (fun self => PySem.W.bind_fn I1.kIn self iC.2) (Nat.le_trans hus (by rw [sizeLine_eq]; omega)) ?_)
  rw [hP]
  refine codeAny_mono run ?_
  rintro (er | fl) s' hq'
  · exact hx pins σ _ _ er s' I2 hq'
  cases fl with
  | ret u =>
    obtain ⟨v, H2, os2, bare2, un2, hok2, rv, rfl, d, fs, ea, ed, hd1, q2⟩ := hq'
    obtain ⟨h2, g2, d2, t2, os'⟩ := s'
    exact ⟨rv, mk_end (raises_own T.st.2.1 T.st.2.2.1) I1 (Nat.le_succ _) kk un2 hok2 os2 bare2 ea ed hd1 q2⟩
  | next => exact hq'.elim
  | brk => exact hq'.elim
  | cont => exact hq'.elim
end
end Ag

end
/-! ## EN -/
section
set_option linter.all false
set_option maxRecDepth 100000
namespace Ag
open PySem PySem.Spec PyProof.Rows L2
/-! ### defs that raise own exceptions where nothing is handled: the context of what they raise is None -/
section
variable {P : Program} {w : World} {K : PySem.W.Frag} {mg : Str → Option Value} {base : Heap}
theorem okXN {x qual : Str} {st : Stmt} {f : Addr} {fd : FuncData} {N ps : List Str} {k : Nat} {sp : Sp} (F : Fun K x qual st f fd) (S : FnScope N ps (defScope st)) (len : ∀ vs H Q E, sp vs H Q E → vs.length = ps.length)
    (body : ∀ (cdv : Value) (A : Around) (outer : List Env) (s : Shared) (H : Hp) (vs : List V) (Q : VK) (E : XK), Room k (A.deeper (envOfC qual (defScope st) s.heap.objs.size f cdv)) → sp vs H Q E →
      ∃ t, PSs (cxOf (L2N.CX P w) P w K mg base N qual (defScope st) f cdv A outer s H E) (defBody st) t ∧ t { nx := fun _ G => Q .non G, rt := Q } (start N vs) H) : FnOk P w K mg base (L2N.CX P w) (k + 1) f fd ps sp :=
  let ⟨_, _, _, _, _, _, _, _, _, ex, lk, hcd⟩ := F.ex
  by subst ex; exact fn_of lk hcd S len fun A outer s H vs Q E hr q => body _ A outer s H vs Q E hr q
end
section
variable {X : Cx} {o e : Expr} {es : List Expr} {to te : TE} {ta : TA} {f x : Str} {p p' pos : Pos}
theorem pmkEN {CX : CXT} {C fI : Addr} {k : Nat} {fd : FuncData} {ps : List Str} {sp : Sp} (T : OexE X.K C) (iC : PySem.W.findIn X.K (.ref C) "__init__" = some (some (.ref fI)) ∧ PySem.W.typeIn X.K (.ref fI) = some (.type "function"))
    (F1 : FnOk X.prog X.w X.K X.mg X.base CX k fI fd ps sp) (hr : Room (k + 1) X.A) (hb : Binds X.K fd ps []) (hx : Passes CX X E0) (hg : Gl X x) (hm : X.mg x = some (.ref C)) (ha : PA X (e :: es) ta) (hdb : (x == ("__debug__" : Str)) = false := by decide)
    (he : starEach (e :: es) X.env = (false, eval e X.env) :: starEach es X.env := by rfl) (hpl : (backTo pos (starEach es X.env)).any (·.1) = false := by rfl) : L2N.PMk X (.Call (.Name x p) (e :: es) [] pos) (tMkO C sp [] ta) := by
  intro pins s σ H Q I h
  refine wpAny_Call_Name_kw (ld_glob I hg hm (PySem.W.callWith_K (h₀ := X.base) I.ok.mod.kin T.st.2.2.2 (thn (ha.run pos pins s σ H _ I h) ?_) he hpl) hdb)
  rintro us ⟨hp, g, dr, tk, os⟩ ⟨vs, H1, I1, r1, hz, q1⟩
  refine ⟨I1.kIn, ?_⟩
  show wpAny _ _ (call (.ref C) us) _ _ _
  obtain ⟨nm, q, N, bs, bm, sn, sub, ab, col, dd, k0, k1, k2, k3, k5, hC, hbm⟩ := T.cl
  have hq := q1 (hp.objs.size + 1) (I1.hok.fresh (Nat.le_succ _))
  rw [List.append_nil] at hq
  generalize hP : hp.push (PySem.W.kdv_tup us) = hp1
  have z1 : hp1.objs.size = hp.objs.size + 1 := by rw [← hP, Heap.size_push]
  have kk : ∀ b o, hp.get? b = some o → (hp1.push (HandSPX.excO C hp.objs.size)).get? b = some o := fun b o w => Heap.get?_push_of_some _ (by rw [← hP]; exact Heap.get?_push_of_some _ w)
  have gt : (hp1.push (HandSPX.excO C hp.objs.size)).get? (hp.objs.size + 1) = some (HandSPX.excO C hp.objs.size) := by rw [← z1]; exact Heap.get?_push_size _ rfl
  have I2 : Inv X pins σ (upd H1 (hp.objs.size + 1) (exo (hp.objs.size + 1) C none)) ⟨hp1.push (HandSPX.excO C hp.objs.size), g, dr, tk, os⟩ := I1.laid (t' := tk) kk (Nat.le_succ _) (exo_ok gt)
  have r2 : Vals (V.ref (hp.objs.size + 1) :: vs) (Value.ref (hp.objs.size + 1) :: us) := .cons rfl r1
  have hus : us.length ≤ 1000 := by rw [← Paired.length r1]; exact hz
  have hlen : (Value.ref (hp.objs.size + 1) :: us).length = ps.length := r2.length.symm.trans (F1.len _ _ _ _ hq)
  have bb := hb ⟨hp1.push (HandSPX.excO C hp.objs.size), g, dr, tk, os⟩ (Value.ref (hp.objs.size + 1) :: us) I2.kIn (by rw [List.append_nil]; exact hlen)
  rw [List.append_nil] at bb
  have run := F1.run _ X.stack _ _ ⟨Value.ref (hp.objs.size + 1) :: us, []⟩ _ _ _ E0 (hr.make C us []) (I2.env0.make C us []) bb r2 hq
  refine wpAny_call (HandSPX.call_own F.excBase_Exception (fun Y => PySem.W.excTail_contains Y bm hbm) (I1.kIn _ _ hC) (PySem.W.looks_findIn I1.kIn iC.1) (fun self => PySem.W.bind_fn I1.kIn self iC.2) (Nat.le_trans hus (by rw [sizeLine_eq]; omega)) ?_)
  rw [hP]
  refine codeAny_mono run ?_
  rintro (er | fl) s' hq'
  · exact hx pins σ _ _ er s' I2 hq'
  cases fl with
  | ret u =>
    obtain ⟨v, H2, os2, bare2, un2, hok2, rv, rfl, d, fs, ea, ed, hd1, q2⟩ := hq'
    obtain ⟨h2, g2, d2, t2, os'⟩ := s'
    obtain ⟨t0, G, J, kG, ge, hoe, na⟩ := mk_end0 (d2 := d2) (t2 := t2) I1 (Nat.le_succ _) kk un2 hok2 os2 bare2 ea ed hd1
    exact ⟨rv, _, _, _, ⟨G, g2, d2, t2, os'⟩, _, .ref C, some d, rfl, J, kG, ge, hoe, ⟨rfl, rfl, fun vs e => by cases e; rfl⟩, rfl, rfl, na, rfl, bare2, raises_own T.st.2.1 T.st.2.2.1, q2⟩
  | next => exact hq'.elim
  | brk => exact hq'.elim
  | cont => exact hq'.elim
end
end Ag

end
/-! ## PX -/
section
set_option linter.all false
set_option maxRecDepth 100000
set_option maxHeartbeats 1000000
namespace Ag
open PySem PySem.Spec PyProof.Rows L2
/-! ### own exception classes over GateError, whose __init__(self, g) stores g in the field g -/
/-- class C: its __init__ is st, at fI; fld: the field's name -/
structure ExcI (K : PySem.W.Frag) (mg : Str → Option Value) (x qual fld : Str) (st : Stmt) (C fI : Addr) (fd : FuncData) : Prop where
  E : OexE K C
  X : XfC K C
  no : PySem.W.findIn K (.ref C) fld = some none
  i : PySem.W.findIn K (.ref C) "__init__" = some (some (.ref fI)) ∧ PySem.W.typeIn K (.ref fI) = some (.type "function")
  F : Fun K "__init__" qual st fI fd
  b : Binds K fd ["self", fld] []
  g : mg x = some (.ref C)
  ex : PySem.W.exmOne K (.ref C) (.ref C) = some true
def spIni (K : PySem.W.Frag) (fld : Str) : Sp := fun vs H Q _ => ∃ (a C : Addr) (y : V), vs = [.ref a, y] ∧ OexE K C ∧ PySem.W.findIn K (.ref C) fld = some none ∧ H a = some (exo a C none) ∧ ∀ dx, H dx = none → dx ≠ a → Q .non (upd (upd H dx (exd dx [(fld, y)])) a (exo a C (some dx)))
section
variable {P : Program} {w : World} {K : PySem.W.Frag} {mg : Str → Option Value} {base : Heap} {f : Addr} {fd : FuncData} {st : Stmt} {q fld : Str} {p1 p2 p3 p4 : Pos}
theorem ini_any (sc : FnScope ["self", fld] ["self", fld] (defScope st)) (hb : defBody st = [.Assign [.Attribute (.Name "self" p1) fld p2] (.Name fld p3) p4]) (h0 : Vis (defScope st) "self") (h1 : Vis (defScope st) fld)
    (hs : ∀ env : Env, env.scope = defScope st → swapsWith (.Name fld p3) (some (.Attribute (.Name "self" p1) fld p2)) p4.line env = pure false) (d1 : (fld == ("__debug__" : Str)) = false) (d2 : (fld == ("__classdict__" : Str)) = false) (F : Fun K "__init__" q st f fd) :
    FnOk P w K mg base CX0 1 f fd ["self", fld] (spIni K fld) := by
  refine F.ok sc (fun vs H Q E h => ?_) (fun cdv A outer s H vs Q E hr h => ?_)
  · obtain ⟨a, C, y, rfl, _⟩ := h
    rfl
  · obtain ⟨a, C, y, rfl, T, hno, ea, q⟩ := h
    rw [hb]
    refine ⟨_, pss_one (psE_ost (pe_var (i := 0) rfl h0) (pe_var (i := 1) rfl h1 d1 d2) (hs _ rfl)), ?_⟩
    exact ⟨_, rfl, _, rfl, a, C, rfl, T, hno, ea, q⟩
end
/-- what a raise leaves: the thing in a new exception's fields -/
def RsdF (E : XK) (C : Addr) (fld : Str) (H : Hp) (v : V) : Prop := ∀ dx H', Same H H' → H dx = none → H' dx = some (.xd [(fld, v)]) → E (.ref C) (some dx) H'
abbrev Rsd (E : XK) (C : Addr) (H : Hp) (v : V) : Prop := RsdF E C "thing" H v
theorem RsdF.to {E : XK} {C : Addr} {fld : Str} {H H2 : Hp} {v : V} (r : RsdF E C fld H v) (s : Same H H2) : RsdF E C fld H2 v := fun dx H' s2 n e => r dx H' (s.trans s2) (by
  cases q : H dx with
  | none => rfl
  | some o => rw [s dx o q] at n; cases n) e
/-- raise C(v) -/
theorem raise_i {K : PySem.W.Frag} {C : Addr} {fld : Str} {σ : L2.St} {H : Hp} {E : XK} {i : Nat} {v : V} (T : OexE K C) (no : PySem.W.findIn K (.ref C) fld = some none) (hv : σ[i]? = some (some v)) (r : RsdF E C fld H v) :
    tMkO C (spIni K fld) [] (tCons (tVar i) tNil) σ H (fun cls d G => E cls d G) := by
  refine ⟨v, hv, Nat.le_of_ble_eq_true rfl, fun x hx => ⟨x, C, v, rfl, T, no, upd_same, fun dx hdx ne => ⟨rfl, dx, [(fld, v)], upd_same, by rw [upd_ne ne, upd_same], ?_, ?_⟩⟩⟩
  · rw [upd_ne ne] at hdx; exact hdx
  · rw [upd_ne ne] at hdx
    refine r dx _ (fun b o e => ?_) hdx upd_same
    have nb1 : b ≠ dx := ne_of_none e hdx
    have nb2 : b ≠ x := ne_of_none e hx
    rw [upd_ne nb1, del_ne nb2, upd_ne nb2, upd_ne nb1, upd_ne nb2]
    exact e
end Ag

end
/-! ## Mk22 -/
section
/-! marks: a mark by looks in order, and by all results at once -/
namespace Mk
theorem ne_iff (a b : Bool) : a ≠ b ↔ a = !b := by cases a <;> cases b <;> decide
/-- how many at the end are c, one by one -/
def tr (c : Bool) (l : List Bool) : Nat := l.foldl (fun r g => if g = c then r + 1 else 0) 0
theorem tr_nil (c : Bool) : tr c [] = 0 := rfl
theorem tr_snoc (c : Bool) (l : List Bool) (g : Bool) : tr c (l ++ [g]) = if g = c then tr c l + 1 else 0 := by
  unfold tr
  rw [List.foldl_append]
  rfl
theorem tr_ge (c : Bool) (k : Nat) : ∀ (n : Nat) (l : List Bool), l.length = n → (k ≤ tr c l ↔ k ≤ l.length ∧ ∀ g ∈ l.drop (l.length - k), g = c) := by
  intro n
  induction n generalizing k with
  | zero =>
    intro l hl
    rw [List.eq_nil_of_length_eq_zero hl]
    simp [tr_nil]
  | succ n ih =>
    intro l hl
    have hne : l ≠ [] := fun z => by rw [z] at hl; cases hl
    obtain ⟨x, g, rfl⟩ : ∃ x g, l = x ++ [g] := ⟨l.dropLast, l.getLast hne, (List.dropLast_concat_getLast hne).symm⟩
    have hx : x.length = n := by simpa using hl
    rw [tr_snoc]
    cases k with
    | zero => simp
    | succ k =>
      have e : (x ++ [g]).drop ((x ++ [g]).length - (k + 1)) = x.drop (x.length - k) ++ [g] := by
        rw [List.length_append, List.length_singleton, Nat.add_sub_add_right, List.drop_append_of_le_length (Nat.sub_le _ _)]
      rw [e]
      by_cases hg : g = c
      · rw [if_pos hg]
        have := ih k x hx
        rw [Nat.succ_le_succ_iff, this, List.length_append, List.length_singleton]
        constructor
        · rintro ⟨a, b⟩
          refine ⟨Nat.succ_le_succ a, fun y hy => ?_⟩
          rcases List.mem_append.mp hy with hy | hy
          · exact b y hy
          · rw [List.mem_singleton.mp hy]; exact hg
        · rintro ⟨a, b⟩
          exact ⟨Nat.le_of_succ_le_succ a, fun y hy => b y (List.mem_append_left _ hy)⟩
      · rw [if_neg hg]
        constructor
        · intro h; omega
        · rintro ⟨_, b⟩
          exact absurd (b g (List.mem_append_right _ (List.mem_singleton.mpr rfl))) hg
section
variable (rise fall first most : Nat)
def manyN (up : Bool) : Nat := if up = true then fall else rise
/-- a look -/
def mstep (s : Bool × Nat × Nat) (g : Bool) : Bool × Nat × Nat :=
  let a : Bool × Nat := if g = s.1 then (s.1, 0) else if s.2.1 + 1 = manyN rise fall s.1 then (!s.1, 0) else (s.1, s.2.1 + 1)
  (a.1, a.2, if (g || a.1) = true then first else min (2 * s.2.2) most)
/-- looks in order -/
def mfold (l : List Bool) : Bool × Nat × Nat := l.foldl (mstep rise fall first most) (true, 0, first)
/-- up or down and since when, by all results: after n of them -/
def usN (l : List Bool) : Nat → Bool × Nat
  | 0 => (true, 0)
  | n + 1 => let p := usN l n
    if manyN rise fall p.1 ≤ n + 1 - p.2 ∧ ∀ g ∈ (l.take (n + 1)).drop (n + 1 - manyN rise fall p.1), g ≠ p.1 then (!p.1, n + 1) else p
def itN (most : Nat) : Nat → Nat → Nat
  | 0, x => x
  | n + 1, x => itN most n (min (2 * x) most)
theorem itN_succ (n x : Nat) : itN most (n + 1) x = min (2 * itN most n x) most := by
  induction n generalizing x with
  | zero => rfl
  | succ n ih => exact ih _
theorem itN_pow {n x : Nat} (h : x ≤ most) : itN most n x = min (x * 2 ^ n) most := by
  induction n with
  | zero => show x = _; rw [Nat.pow_zero, Nat.mul_one, Nat.min_eq_left h]
  | succ n ih =>
    rw [itN_succ, ih, Nat.pow_succ]
    have e : x * (2 ^ n * 2) = 2 * (x * 2 ^ n) := by rw [← Nat.mul_assoc, Nat.mul_comm]
    rw [e]
    omega
/-- the wait, by all results -/
def waitN (l : List Bool) (n : Nat) : Nat :=
  if (usN rise fall l n).1 = true then first else itN most (min (tr false (l.take n)) (n - (usN rise fall l n).2 + 1)) first
structure Ok (l : List Bool) (n : Nat) : Prop where
  up : (mfold rise fall first most (l.take n)).1 = (usN rise fall l n).1
  st : (usN rise fall l n).2 ≤ n
  run : (mfold rise fall first most (l.take n)).2.1 = tr (!(usN rise fall l n).1) ((l.take n).drop (usN rise fall l n).2)
  lt : (mfold rise fall first most (l.take n)).2.1 < manyN rise fall (usN rise fall l n).1
  wait : (mfold rise fall first most (l.take n)).2.2 = waitN rise fall first most l n
theorem all_ok (h1 : 1 ≤ rise) (h2 : 1 ≤ fall) (l : List Bool) : ∀ n, n ≤ l.length → Ok rise fall first most l n := by
  intro n
  induction n with
  | zero => exact fun _ => ⟨rfl, Nat.le_refl _, rfl, h2, rfl⟩
  | succ n ih =>
    intro hn
    obtain ⟨i1, i2, i3, i4, i5⟩ := ih (by omega)
    obtain ⟨g, hg⟩ : ∃ g, l[n]? = some g := ⟨l[n]'(by omega), List.getElem?_eq_getElem (by omega)⟩
    have et : l.take (n + 1) = l.take n ++ [g] := by
      rw [List.take_add_one, hg]
      rfl
    have ef : mfold rise fall first most (l.take (n + 1)) = mstep rise fall first most (mfold rise fall first most (l.take n)) g := by
      unfold mfold
      rw [et, List.foldl_append]
      rfl
    have lt : (l.take n).length = n := by rw [List.length_take]; omega
    have eb : tr false (l.take (n + 1)) = if g = false then tr false (l.take n) + 1 else 0 := by rw [et, tr_snoc]
    generalize hm : mfold rise fall first most (l.take n) = m at i1 i3 i4 i5 ef
    obtain ⟨up, run, wait⟩ := m
    generalize hu : usN rise fall l n = p at i1 i2 i3 i4
    obtain ⟨up', st⟩ := p
    have i1 : up = up' := i1
    subst i1
    have i2 : st ≤ n := i2
    have i3 : run = tr (!up) ((l.take n).drop st) := i3
    have i4 : run < manyN rise fall up := i4
    have i5 : wait = if up = true then first else itN most (min (tr false (l.take n)) (n - st + 1)) first := by
      have i5 : wait = waitN rise fall first most l n := i5
      rw [i5]
      unfold waitN
      rw [hu]
    -- the rows that end here
    have ed : (l.take (n + 1)).drop st = (l.take n).drop st ++ [g] := by rw [et, List.drop_append_of_le_length (by omega)]
    have hr : tr (!up) ((l.take (n + 1)).drop st) = if g = !up then run + 1 else 0 := by rw [ed, tr_snoc, i3]
    have ld : ((l.take (n + 1)).drop st).length = n + 1 - st := by rw [List.length_drop, List.length_take]; omega
    have cond : (manyN rise fall up ≤ n + 1 - st ∧ ∀ y ∈ (l.take (n + 1)).drop (n + 1 - manyN rise fall up), y ≠ up) ↔ manyN rise fall up ≤ tr (!up) ((l.take (n + 1)).drop st) := by
      rw [tr_ge _ _ _ _ rfl, ld]
      constructor
      · rintro ⟨a, b⟩
        refine ⟨a, fun y hy => ?_⟩
        rw [List.drop_drop, show st + (n + 1 - st - manyN rise fall up) = n + 1 - manyN rise fall up by omega] at hy
        exact (ne_iff _ _).mp (b y hy)
      · rintro ⟨a, b⟩
        refine ⟨a, fun y hy => ?_⟩
        exact (ne_iff _ _).mpr (b y (by rw [List.drop_drop, show st + (n + 1 - st - manyN rise fall up) = n + 1 - manyN rise fall up by omega]; exact hy))
    have eu : usN rise fall l (n + 1) = if manyN rise fall up ≤ tr (!up) ((l.take (n + 1)).drop st) then (!up, n + 1) else (up, st) := by
      show (if manyN rise fall (usN rise fall l n).1 ≤ n + 1 - (usN rise fall l n).2 ∧ _ then _ else _) = _
      rw [hu]
      by_cases hc : manyN rise fall up ≤ tr (!up) ((l.take (n + 1)).drop st)
      · rw [if_pos hc]
        exact if_pos (cond.mpr hc)
      · rw [if_neg hc]
        exact if_neg fun z => hc (cond.mp z)
    rw [hr] at eu
    by_cases hgu : g = up
    · -- it agrees
      subst hgu
      have ng : ¬ g = !g := by cases g <;> decide
      rw [if_neg ng] at eu hr
      have h0 : ¬ manyN rise fall g ≤ 0 := by
        unfold manyN
        split <;> omega
      rw [if_neg h0] at eu
      have es : mstep rise fall first most (g, run, wait) g = (g, 0, if (g || g) = true then first else min (2 * wait) most) := by
        unfold mstep
        simp
      rw [es] at ef
      refine ⟨by rw [ef, eu], by rw [eu]; show st ≤ n + 1; omega, by rw [ef, eu]; exact hr.symm, by rw [ef, eu]; show 0 < manyN rise fall g; omega, ?_⟩
      rw [ef]
      unfold waitN
      rw [eu, eb]
      cases g with
      | true => rfl
      | false =>
        simp only [Bool.or_self, Bool.false_eq_true, if_false, if_true]
        rw [i5]
        simp only [Bool.false_eq_true, if_false]
        rw [← itN_succ]
        congr 1
        omega
    · have hg2 : g = !up := (ne_iff _ _).mp hgu
      rw [if_pos hg2] at eu hr
      by_cases hf : run + 1 = manyN rise fall up
      · -- it turns
        rw [if_pos (by omega)] at eu
        have es : mstep rise fall first most (up, run, wait) g = (!up, 0, if (g || !up) = true then first else min (2 * wait) most) := by
          unfold mstep
          simp only [if_neg hgu, if_pos hf]
        rw [es] at ef
        refine ⟨by rw [ef, eu], by rw [eu]; exact Nat.le_refl _, ?_, ?_, ?_⟩
        · rw [ef, eu]
          show 0 = tr _ ((l.take (n + 1)).drop (n + 1))
          rw [List.drop_eq_nil_of_le (by rw [List.length_take]; omega)]
          rfl
        · rw [ef, eu]
          show 0 < manyN rise fall (!up)
          unfold manyN
          split <;> omega
        · rw [ef]
          unfold waitN
          rw [eu, eb]
          subst hg2
          cases up with
          | false => rfl
          | true =>
            simp only [Bool.not_true, Bool.or_self, Bool.false_eq_true, if_false, if_true]
            have i5 : wait = first := i5
            rw [i5, show min (tr false (List.take n l) + 1) (n + 1 - (n + 1) + 1) = 1 by omega]
            rfl
      · rw [if_neg (by omega)] at eu
        have es : mstep rise fall first most (up, run, wait) g = (up, run + 1, if (g || up) = true then first else min (2 * wait) most) := by
          unfold mstep
          simp only [if_neg hgu, if_neg hf]
        rw [es] at ef
        refine ⟨by rw [ef, eu], by rw [eu]; show st ≤ n + 1; omega, by rw [ef, eu]; exact hr.symm, by rw [ef, eu]; show run + 1 < manyN rise fall up; omega, ?_⟩
        rw [ef]
        unfold waitN
        rw [eu, eb]
        subst hg2
        cases up with
        | true => rfl
        | false =>
          simp only [Bool.not_false, Bool.true_or, if_true, Bool.false_eq_true, if_false, Bool.true_eq_false]
          rw [Nat.zero_min]
          rfl
/-- what a mark is that can follow -/
def Good (m : Bool × Nat × Nat) : Prop := (m.1 = true ∧ m.2.1 < fall ∧ m.2.2 = first) ∨ (m.1 = false ∧ 1 ≤ m.2.1 ∧ m.2.1 ≤ rise - 1 ∧ m.2.2 = first) ∨ (m.1 = false ∧ m.2.1 = 0 ∧ ∃ j, 1 ≤ j ∧ m.2.2 = min (first * 2 ^ j) most)
theorem good_step (h1 : 1 ≤ rise) (h2 : 1 ≤ fall) (hf : first ≤ most) {m : Bool × Nat × Nat} (h : Good rise fall first most m) (g : Bool) : Good rise fall first most (mstep rise fall first most m g) := by
  obtain ⟨up, run, wait⟩ := m
  have dbl : ∀ j, 2 * min (first * 2 ^ j) most = min (first * 2 ^ (j + 1)) (2 * most) := fun j => by
    rw [Nat.pow_succ, show first * (2 ^ j * 2) = 2 * (first * 2 ^ j) by rw [← Nat.mul_assoc, Nat.mul_comm]]
    omega
  have w1 : min (2 * first) most = min (first * 2 ^ 1) most := by rw [Nat.pow_one, Nat.mul_comm]
  unfold Good at h ⊢
  unfold mstep manyN
  cases up with
  | true =>
    have hr : run < fall ∧ wait = first := by
      rcases h with ⟨_, a, b⟩ | ⟨a, _⟩ | ⟨a, _⟩
      · exact ⟨a, b⟩
      · cases a
      · cases a
    obtain ⟨hr, rfl⟩ := hr
    cases g with
    | true => exact .inl ⟨rfl, h2, rfl⟩
    | false =>
      by_cases q : run + 1 = fall
      · refine .inr (.inr ?_)
        simp only [Bool.false_eq_true, if_false, if_true, q, Bool.not_true, Bool.or_self, Bool.true_eq_false]
        exact ⟨trivial, trivial, 1, Nat.le_refl _, w1⟩
      · refine .inl ?_
        simp only [Bool.false_eq_true, if_false, if_true, q, Bool.or_true, Bool.true_eq_false]
        exact ⟨trivial, by omega, trivial⟩
  | false =>
    have hr : run ≤ rise - 1 ∧ (wait = first ∨ ∃ j, 1 ≤ j ∧ wait = min (first * 2 ^ j) most) := by
      rcases h with ⟨a, _⟩ | ⟨_, a, b, c⟩ | ⟨_, a, b⟩
      · cases a
      · exact ⟨b, .inl c⟩
      · exact ⟨by have a : run = 0 := a; omega, .inr b⟩
    obtain ⟨hr, hw⟩ := hr
    cases g with
    | false =>
      refine .inr (.inr ?_)
      simp only [Bool.false_eq_true, if_false, if_true, Bool.or_self]
      refine ⟨trivial, trivial, ?_⟩
      rcases hw with rfl | ⟨j, hj, rfl⟩
      · exact ⟨1, Nat.le_refl _, w1⟩
      · refine ⟨j + 1, by omega, ?_⟩
        rw [dbl]
        omega
    | true =>
      by_cases q : run + 1 = rise
      · refine .inl ?_
        simp only [Bool.false_eq_true, if_false, if_true, q, Bool.not_false, Bool.or_true, Bool.true_or, Bool.true_eq_false]
        exact ⟨trivial, h2, trivial⟩
      · refine .inr (.inl ?_)
        simp only [Bool.false_eq_true, if_false, if_true, q, Bool.true_or, Bool.true_eq_false]
        clear hw w1 dbl h
        exact ⟨trivial, by omega, by omega, trivial⟩
theorem good_all (h1 : 1 ≤ rise) (h2 : 1 ≤ fall) (hf : first ≤ most) (l : List Bool) : Good rise fall first most (mfold rise fall first most l) := by
  unfold mfold
  have : ∀ (l : List Bool) (m : Bool × Nat × Nat), Good rise fall first most m → Good rise fall first most (l.foldl (mstep rise fall first most) m) := by
    intro l
    induction l with
    | nil => exact fun m h => h
    | cons g l ih => exact fun m h => ih _ (good_step rise fall first most h1 h2 hf h g)
  exact this l _ (.inl ⟨rfl, h2, rfl⟩)
end
end Mk

end
/-! ## Z1 -/
section
set_option linter.all false
set_option maxRecDepth 100000
namespace Ag
open PySem PySem.Spec PyProof.Rows L2
/-! ### rules and marks at any data -/
def ruleB : PyData → Bool
  | .tuple [a, b, c, d] => (wholeB 1 99 a && (wholeB 1 99 b && (wholeB 1 99 c && wholeB 1 99 d))) && decide (asInt c ≤ asInt d)
  | _ => false
/-- a rule stands at a -/
structure Rl (r f i m : Nat) (a : Addr) (H : Hp) : Prop where
  at_ : H a = some (.tup [.int r, .int f, .int i, .int m])
  r1 : 1 ≤ r
  r9 : r ≤ 99
  f1 : 1 ≤ f
  f9 : f ≤ 99
  i1 : 1 ≤ i
  im : i ≤ m
  m9 : m ≤ 99
theorem Rl.to {r f i m : Nat} {a : Addr} {H H' : Hp} (R : Rl r f i m a H) (s : Same H H') : Rl r f i m a H' := ⟨s _ _ R.at_, R.r1, R.r9, R.f1, R.f9, R.i1, R.im, R.m9⟩
def rlD (r f i m : Nat) : PyData := .tuple [.int r, .int f, .int i, .int m]
theorem rule_E {p c : Addr} {H : Hp} {v : V} {d : PyData} (h : Dg p c H v d) (e : ruleB d = true) : ∃ a r f i m, v = .ref a ∧ d = rlD r f i m ∧ Rl r f i m a H ∧ a ≠ p ∧ a ≠ c := by
  unfold ruleB at e
  split at e
  · rename_i d1 d2 d3 d4
    cases h with
    | @tup a xs _ at_ da =>
      obtain ⟨v1, v2, v3, v4, _, _, _, _, rfl, e4, h1, h2, h3, h4⟩ := da.four (by rw [da.len]; rfl)
      cases e4
      rw [Bool.and_eq_true, Bool.and_eq_true, Bool.and_eq_true, Bool.and_eq_true, decide_eq_true_eq] at e
      obtain ⟨⟨e1, e2, e3, e4⟩, e5⟩ := e
      obtain ⟨i1, rfl, rfl, l1, u1⟩ := whole_E h1 e1
      obtain ⟨i2, rfl, rfl, l2, u2⟩ := whole_E h2 e2
      obtain ⟨i3, rfl, rfl, l3, u3⟩ := whole_E h3 e3
      obtain ⟨i4, rfl, rfl, l4, u4⟩ := whole_E h4 e4
      have e5 : i3 ≤ i4 := e5
      obtain ⟨n1, rfl⟩ := Int.eq_ofNat_of_zero_le (by omega : 0 ≤ i1)
      obtain ⟨n2, rfl⟩ := Int.eq_ofNat_of_zero_le (by omega : 0 ≤ i2)
      obtain ⟨n3, rfl⟩ := Int.eq_ofNat_of_zero_le (by omega : 0 ≤ i3)
      obtain ⟨n4, rfl⟩ := Int.eq_ofNat_of_zero_le (by omega : 0 ≤ i4)
      exact ⟨a, n1, n2, n3, n4, rfl, rfl, ⟨at_.2.2, by omega, by omega, by omega, by omega, by omega, by omega, by omega⟩, at_.1, at_.2.1⟩
  · cases e
theorem rule_I {r f i m : Nat} {a : Addr} {H : Hp} (R : Rl r f i m a H) : ruleB (rlD r f i m) = true := by
  obtain ⟨_, h1, h2, h3, h4, h5, h6, h7⟩ := R
  unfold rlD ruleB wholeB asInt
  simp
  omega
theorem Rl.dg {r f i m : Nat} {p c a : Addr} {H : Hp} (R : Rl r f i m a H) (hp : a ≠ p) (hc : a ≠ c) : Dg p c H (.ref a) (rlD r f i m) := .tup ⟨hp, hc, R.at_⟩ (.cons (.int _) (.cons (.int _) (.cons (.int _) (.cons (.int _) .nil))))
section
variable {P : Program} {w : World} {K : PySem.W.Frag} {mg : Str → Option Value} {base : Heap} {tr : Tok}
def spIntG : Sp := fun vs H Q _ => ∃ p c v d, vs = [v] ∧ Dg p c H v d ∧ Q (.bl (isIntB d)) H
theorem ok_intG {f : Addr} {fd : FuncData} (F : Fn K mg "is_integer" s_is_integer ["thing"] f fd) (B : Con mg tr) : FnOk P w K mg base CX0 1 f fd ["thing"] spIntG := by
  refine F.F.ok sc_is_integer (fun vs H Q E h => ?_) (fun cdv A outer s H vs Q E hr h => ?_)
  · obtain ⟨p, c, x, d, rfl, _⟩ := h
    rfl
  · obtain ⟨p, c, x, d, rfl, hd, q⟩ := h
    refine ⟨_, (pss_one (ps_ret (pe_and (pe_callB call_isi (by rfl) B.n_isinstance (by decide +kernel) (pa_cons (pv 0) (pa_cons (pe_bltn (v := .ty "int") (by rfl) B.n_int (by decide +kernel) rfl) pa_nil))) (pe_one (pe_not (pe_callB call_isi (by rfl) B.n_isinstance (by decide +kernel) (pa_cons (pv 0) (pa_cons (pe_bltn (v := .ty "bool") (by rfl) B.n_bool (by decide +kernel) rfl) pa_nil)))))))), ?_⟩
    refine ⟨x, rfl, x, .ty "int", _, _, _, rfl, .ty "int", hd.tyx, isi_I d, _, rfl, ite2 (fun h => ?_) (fun h => ?_)⟩
    · refine ⟨_, rfl, x, .ty "bool", _, _, _, rfl, .ty "bool", hd.tyx, isi_B d, _, rfl, ?_⟩
      cases d <;> first | exact q | exact absurd h (by simp [isI])
    · cases d <;> first | exact q | exact absurd rfl h
def spRuleA : Sp := fun vs H Q _ => ∃ p c v d, vs = [v] ∧ Dg p c H v d ∧ ∀ H', Same H H' → Q (.bl (ruleB d)) H'
theorem ok_ruleA {f f1 : Addr} {fd fd1 : FuncData} (F : Fn K mg "is_health_rule" s_is_health_rule ["thing"] f fd) (B : Con mg tr) (F_is_integer : Fn K mg "is_integer" s_is_integer ["thing"] f1 fd1) : FnOk P w K mg base CX0 2 f fd ["thing"] spRuleA := by
  have G_is_integer : FnOk P w K mg base CX0 1 f1 fd1 ["thing"] spIntG := ok_intG F_is_integer B
  refine F.F.ok sc_is_health_rule (fun vs H Q E h => ?_) (fun cdv A outer s H vs Q E hr h => ?_)
  · obtain ⟨p, c, v, d, rfl, _⟩ := h
    rfl
  · obtain ⟨p, c, v, d, rfl, hd, q⟩ := h
    refine ⟨_, (pss_cons (ps_if (PW.pt (pw_or (pt_not (pt_val (pe_callB call_isi (by rfl) B.n_isinstance (by decide +kernel) (pa_cons (pv 0) (pa_cons (pe_bltn (v := .ty "tuple") (by rfl) B.n_tuple (by decide +kernel) rfl) pa_nil))))) (pw_or1 (pt_cmpR op_ne (pe_callB call_len_seq (by rfl) B.n_len PySem.boot_len (pa_cons (pv 0) pa_nil)) pe_int (nomark _)))))
      (pss_one (ps_ret pe_bl))
      pss_nil)
      (pss_cons (ps_if (pt_not (pt_val (pe_callB (cr_all rfl) (by rfl) B.n_all (by decide +kernel) (pa_cons (pe_lc (own := [("number", 4)]) rfl sc_is_health_rule.nd (pi_tup (pv 0)) (blkOk_by (N := N_is_health_rule) (sc := defScope s_is_health_rule) (by decide +kernel)) (fun _ _ _ _ _ => (pg_name (i := 4) sc_is_health_rule.nd rfl (Or.inl rfl))) (fun _ _ _ _ _ => pts_nil) (fun _ _ _ _ _ => (pe_and (pe_call G_is_integer (hr.mono (by decide)) (by rfl) F_is_integer.g F_is_integer.F.kp F_is_integer.b .nil pass0 (pa_cons (pv 4) pa_nil)) (pe_one (pe_chain op_le op_le pe_int (pv 4) (pe_glob (v := .int 99) rfl B.g_RULE_MOST ⟨_, rfl⟩)))))) pa_nil))))
      (pss_one (ps_ret pe_bl))
      pss_nil)
      (pss_cons (ps_asg (pv 0) (pg_tup rfl (pgs_cons (pg_name (i := 1) sc_is_health_rule.nd rfl (Or.inl rfl)) (pgs_cons (pg_name (i := 1) sc_is_health_rule.nd rfl (Or.inl rfl)) (pgs_cons (pg_name (i := 2) sc_is_health_rule.nd rfl (Or.inl rfl)) (pgs_cons (pg_name (i := 3) sc_is_health_rule.nd rfl (Or.inl rfl)) pgs_nil))))))
      (pss_one (ps_ret (pe_cmpR op_le (pv 2) (pv 3) (nomark _))))))), ?_⟩
    refine ⟨v, rfl, v, .ty "tuple", _, _, _, rfl, .ty "tuple", hd.tyx, isi_T d, _, rfl, ?_⟩
    cases hd with
    | @tup a xs ds at_ da =>
      have hl := da.len
      refine iteF ⟨_, rfl, a, _, rfl, .inr (SqT.of at_.2.2), rfl, _, rfl, ?_⟩
      by_cases e4 : xs.length = 4
      · obtain ⟨v1, v2, v3, v4, d1, d2, d3, d4, rfl, rfl, h1, h2, h3, h4⟩ := da.four e4
        refine iteF ⟨_, rfl, a, rfl, ⟨_, SqT.of at_.2.2⟩, fun D hD => ?_⟩
        refine lc_bools (K := K) (wholeB 1 99) da at_.2.2 (by show 4 ≤ 16000000; decide) hD (fun y d H2 k _ dd s1 hk => ?_) fun H2 s2 h2' => ?_
        · refine ⟨rfl, _, rfl, p, c, y, d, rfl, dd, _, rfl, ?_⟩
          cases dd with
          | int i =>
            refine iteT ⟨_, rfl, _, _, rfl, rfl, _, rfl, ?_⟩
            have hk : ∀ H4, Same H2 H4 → k (.bl (decide (1 ≤ i) && decide (i ≤ 99))) H4 := hk
            refine ite2 (fun z => ?_) (fun z => ?_)
            · rw [z, Bool.true_and] at hk
              exact ⟨_, _, rfl, rfl, hk _ (Same.refl _)⟩
            · rw [Bool.eq_false_iff.mpr z, Bool.false_and] at hk
              exact hk _ (Same.refl _)
          | _ => exact iteF (hk _ (Same.refl _))
        · refine ⟨D, _, rfl, SqL.of h2', _, rfl, ?_⟩
          have q : ∀ H', Same H H' → Q (.bl ((wholeB 1 99 d1 && (wholeB 1 99 d2 && (wholeB 1 99 d3 && wholeB 1 99 d4))) && decide (asInt d3 ≤ asInt d4))) H' := q
          have eall : ([d1, d2, d3, d4].map (wholeB 1 99)).all id = (wholeB 1 99 d1 && (wholeB 1 99 d2 && (wholeB 1 99 d3 && wholeB 1 99 d4))) := by simp
          rw [eall]
          cases hall : (wholeB 1 99 d1 && (wholeB 1 99 d2 && (wholeB 1 99 d3 && wholeB 1 99 d4))) with
          | false =>
            rw [hall, Bool.false_and] at q
            exact iteT (q _ s2)
          | true =>
            rw [hall, Bool.true_and] at q
            rw [Bool.and_eq_true, Bool.and_eq_true, Bool.and_eq_true] at hall
            obtain ⟨i3, rfl, rfl, _⟩ := whole_E h3 hall.2.2.1
            obtain ⟨i4, rfl, rfl, _⟩ := whole_E h4 hall.2.2.2
            refine iteF ⟨_, rfl, a, _, rfl, SqT.of (s2 _ _ at_.2.2), rfl, _, _, rfl, _, _, rfl, _, _, rfl, _, _, rfl, rfl, ?_⟩
            exact ⟨_, rfl, _, rfl, _, _, rfl, rfl, q _ s2⟩
      · have e0 : ruleB (.tuple ds) = false := by
          unfold ruleB
          split
          · rename_i e
            cases e
            exact absurd hl (by simpa using e4)
          · rfl
        rw [e0] at q
        rw [show decide (V.int (xs.length : Nat) = V.int 4) = false from decide_eq_false fun z => e4 (by have := V.int.inj z; omega)]
        exact iteT (q _ (Same.refl _))
    | _ => exact iteT (iteT (q _ (Same.refl _)))
end
end Ag

end
/-! ## Kit3 -/
section
set_option linter.all false
set_option maxRecDepth 100000
namespace Ag
open PySem PySem.Spec PyProof.Rows L2
open SX (S S_len S_cat S_inj)
def chars (z : List Nat) : List V := z.map fun c => V.str (S [c])
theorem call_list_S {X : Cx} (hc : X.calm = true) : CallR X (.type "list") (fun xs H Q => ∃ z : List Nat, xs = [.str (S z)] ∧ z.length ≤ 16000000 ∧ ∀ l, H l = none → Q (.ref l) (upd H l (.lst (chars z)))) := by
  intro pins s σ H xs us Q I r h
  obtain ⟨z, rfl, hz, q⟩ := h
  obtain ⟨u, rfl, t, rfl⟩ := vals1 r
  have hsz : (S z).cps.size = z.length := by simp
  refine PySem.call_list_str (I.ok.hd hc) (S z) t (fun h' tk acc c' kp e ha => ?_) (by rw [hsz, sizeLine_eq]; omega)
  have rv : Vals (chars z) acc.toList := by
    refine L2.vals_of_at ?_ ?_
    · have e1 := ha.1
      rw [hsz] at e1
      unfold chars
      rw [List.length_map, Array.length_toList]
      exact e1.symm
    · intro j x u hx hu
      obtain ⟨c, tk', hc', rfl⟩ := ha.2 j u (by simpa using hu)
      unfold chars at hx
      rw [List.getElem?_map] at hx
      have : z[j]? = some c := by simpa using hc'
      rw [this] at hx
      cases hx
      exact ⟨_, rfl⟩
  refine ⟨.ref s.heap.objs.size, upd H s.heap.objs.size (.lst (chars z)), I.laid kp (Nat.le_refl _) ⟨?_, acc.toList, c', rv, ?_⟩, rfl, q _ (I.hok.fresh (Nat.le_refl _))⟩
  · unfold chars
    rw [List.length_map, sizeLine_eq]
    omega
  · simpa using e
end Ag

end
/-! ## Z2 -/
section
set_option linter.all false
set_option maxRecDepth 100000
set_option maxHeartbeats 1000000
namespace Ag
open PySem PySem.Spec PyProof.Rows L2
/-- the waits of a server that is down -/
def dbl (i m k : Nat) : List Int := (List.range k).map fun j => ((min (i * 2 ^ (j + 1)) m : Nat) : Int)
theorem dbl_succ (i m k : Nat) : dbl i m (k + 1) = dbl i m k ++ [((min (i * 2 ^ (k + 1)) m : Nat) : Int)] := by
  unfold dbl
  rw [List.range_succ, List.map_append]
  rfl
theorem dbl_len (i m k : Nat) : (dbl i m k).length = k := by simp [dbl]
theorem dbl_last (i m k : Nat) : (dbl i m (k + 1))[k]? = some (((min (i * 2 ^ (k + 1)) m : Nat)) : Int) := by
  rw [dbl_succ, List.getElem?_append_right (by rw [dbl_len]; exact Nat.le_refl _), dbl_len, Nat.sub_self]
  rfl
theorem min_of {a b : Int} {x m : Nat} (ha : a = 2 * (x : Int)) (hb : b = (m : Int)) : (if b < a then b else a) = ((min (2 * x) m : Nat) : Int) := by
  subst ha hb
  split <;> omega
theorem dbl_two (i m k : Nat) : min (2 * min (i * 2 ^ k) m) m = min (i * 2 ^ (k + 1)) m := by
  rw [Nat.pow_succ, show i * (2 ^ k * 2) = 2 * (i * 2 ^ k) by rw [← Nat.mul_assoc, Nat.mul_comm]]
  omega
theorem dbl_lt {i m k : Nat} (hi : 1 ≤ i) (h : min (i * 2 ^ k) m < m) : min (i * 2 ^ k) m < min (i * 2 ^ (k + 1)) m := by
  have e : min (i * 2 ^ k) m = i * 2 ^ k := by omega
  have e2 : i * 2 ^ (k + 1) = 2 * (i * 2 ^ k) := by rw [Nat.pow_succ, ← Nat.mul_assoc, Nat.mul_comm]
  have p : 1 ≤ i * 2 ^ k := Nat.le_trans hi (Nat.le_mul_of_pos_right _ (Nat.pow_pos (by decide)))
  omega
theorem dbl_mem {i m k j : Nat} (hk : m ≤ i * 2 ^ k) (h1 : 1 ≤ k) (hj : 1 ≤ j) : ((min (i * 2 ^ j) m : Nat) : Int) ∈ dbl i m k := by
  unfold dbl
  rw [List.mem_map]
  by_cases h : j ≤ k
  · exact ⟨j - 1, List.mem_range.mpr (by omega), by rw [Nat.sub_add_cancel hj]⟩
  · refine ⟨k - 1, List.mem_range.mpr (by omega), ?_⟩
    rw [Nat.sub_add_cancel h1, Nat.min_eq_right hk, Nat.min_eq_right (Nat.le_trans hk (Nat.mul_le_mul_left _ (Nat.pow_le_pow_right (by decide) (by omega))))]
theorem inV_ints {x : Int} {l : List Int} (h : x ∈ l) : inV (.int x) (l.map V.int) = true := by
  unfold inV
  rw [List.any_eq_true]
  exact ⟨.int x, List.mem_map_of_mem h, by simp [eqV]⟩
theorem flat_ints (l : List Int) : (l.map V.int).all flatV = true := by
  rw [List.all_eq_true]
  intro y hy
  obtain ⟨z, _, rfl⟩ := List.mem_map.mp hy
  rfl
section
variable {P : Program} {w : World} {K : PySem.W.Frag} {mg : Str → Option Value} {base : Heap} {tr : Tok}
def spDbl : Sp := fun vs H Q _ => ∃ a r f i m, vs = [.ref a] ∧ Rl r f i m a H ∧ ∀ l k H', 1 ≤ k → m ≤ i * 2 ^ k → Same H H' → H' l = some (.lst ((dbl i m k).map V.int)) → Q (.ref l) H'
theorem ok_dbl {f : Addr} {fd : FuncData} (F : Fn K mg "doubled_waits" s_doubled_waits ["rule"] f fd) (B : Con mg tr) : FnOk P w K mg base CX0 1 f fd ["rule"] spDbl := by
  refine F.F.ok sc_doubled_waits (fun vs H Q E h => ?_) (fun cdv A outer s H vs Q E hr h => ?_)
  · obtain ⟨a, r, f', i, m, rfl, _⟩ := h
    rfl
  · obtain ⟨a, r, f', i, m, rfl, R, q⟩ := h
    refine ⟨_, (pss_cons (ps_asg (pv 0) (pg_tup rfl (pgs_cons (pg_name (i := 1) sc_doubled_waits.nd rfl (Or.inl rfl)) (pgs_cons (pg_name (i := 1) sc_doubled_waits.nd rfl (Or.inl rfl)) (pgs_cons (pg_name (i := 2) sc_doubled_waits.nd rfl (Or.inl rfl)) (pgs_cons (pg_name (i := 3) sc_doubled_waits.nd rfl (Or.inl rfl)) pgs_nil))))))
      (pss_cons (ps_set (i := 4) sc_doubled_waits.nd rfl (.inl rfl) (pe_lst (pa_cons (pe_callB (call_min2 rfl) (by rfl) B.n_min (by decide +kernel) (pa_cons (pe_op op_mul pe_int (pv 2)) (pa_cons (pv 3) pa_nil))) pa_nil)))
      (pss_cons (ps_while PassesOwn.never (pt_cmpR op_lt (pe_ix ix_list (pv 4) (pe_un un_neg pe_int) (fun _ _ => rfl)) (pv 3) (nomark _))
      (pss_one (ps_expr (pe_bm PySem.F.plainAttrs_list PySem.F.slot_list_append PySem.F.type_list_append mt_append (pv 4) (pa_cons (pe_callB (call_min2 rfl) (by rfl) B.n_min (by decide +kernel) (pa_cons (pe_op op_mul pe_int (pe_ix ix_list (pv 4) (pe_un un_neg pe_int) (fun _ _ => rfl))) (pa_cons (pv 3) pa_nil))) pa_nil)))))
      (pss_one (ps_ret (pv 4)))))), ?_⟩
    refine ⟨_, rfl, a, _, rfl, SqT.of R.at_, rfl, _, _, rfl, _, _, rfl, _, _, rfl, _, _, rfl, rfl, ?_⟩
    refine ⟨_, rfl, _, _, rfl, rfl, .inl ⟨by decide, by decide⟩, _, rfl, _, _, rfl, ?_⟩
    rw [min_of rfl rfl]
    refine ⟨sz (by show 1 ≤ 16000000; decide), fun L hL => ?_⟩
    have e1 : min (2 * i) m = min (i * 2 ^ 1) m := by rw [Nat.pow_one, Nat.mul_comm]
    rw [e1]
    refine ⟨fun n σ H' => ∃ k, n = m - min (i * 2 ^ (k + 1)) m ∧ k + 1 ≤ min (i * 2 ^ (k + 1)) m ∧ σ = [some (.ref a), some (.int f'), some (.int i), some (.int m), some (.ref L)] ∧ Same H H' ∧ H' L = some (.lst ((dbl i m (k + 1)).map V.int)), ⟨_, 0, rfl, (by have := R.i1; have := R.im; rw [← e1]; omega), rfl, same_new hL, upd_same⟩, ?_⟩
    rintro n σ H1 ⟨k, rfl, hk9, rfl, s1, h1⟩
    have last : atI ((dbl i m (k + 1)).map V.int) (-1) = some (.int ((min (i * 2 ^ (k + 1)) m : Nat) : Int)) := by
      rw [dbl_succ, List.map_append]
      exact atI_last _ _
    refine ⟨_, rfl, _, rfl, L, _, _, _, rfl, rfl, SqL.of h1, last, _, rfl, _, _, rfl, rfl, _, rfl, ?_⟩
    refine ite2 (fun h => ?_) (fun h => ?_)
    · have hlt : min (i * 2 ^ (k + 1)) m < m := by have := of_decide_eq_true h; omega
      refine ⟨fun σ H' => σ = [some (.ref a), some (.int f'), some (.int i), some (.int m), some (.ref L)] ∧ Same H H' ∧ H' L = some (.lst ((dbl i m (k + 2)).map V.int)), ?_, ?_⟩
      · rintro σ' H' ⟨rfl, s2, h2⟩
        have hd := dbl_lt R.i1 hlt
        exact ⟨_, by omega, k + 1, rfl, by omega, rfl, s2, h2⟩
      · refine ⟨_, rfl, .inl ⟨rfl, _, SqL.of h1⟩, _, rfl, _, rfl, L, _, _, _, rfl, rfl, SqL.of h1, last, _, _, rfl, rfl, .inl ⟨by decide, by decide⟩, _, rfl, _, _, rfl, ?_⟩
        rw [min_of rfl rfl, dbl_two]
        refine ⟨L, _, _, rfl, rfl, h1, ?_, rfl, ?_, ?_⟩
        · rw [List.length_map, dbl_len, sizeLine_eq]
          have := R.m9
          omega
        · exact fun b o e => by rw [upd_ne (ne_of_none e hL)]; exact s1 b o e
        · rw [upd_same, show k + 2 = (k + 1) + 1 from rfl, dbl_succ i m (k + 1), List.map_append]
          rfl
    · have hge : m ≤ i * 2 ^ (k + 1) := by
        have := of_decide_eq_false (Bool.eq_false_iff.mpr h)
        omega
      exact ⟨_, rfl, q L (k + 1) H1 (by omega) hge s1 h1⟩
end

/-- a wait that doubling leads to -/
def inW (i m : Nat) (wt : Int) : Prop := ∃ j, 1 ≤ j ∧ wt = ((min (i * 2 ^ j) m : Nat) : Int)
theorem dbl_inW {i m k : Nat} (hi : 1 ≤ i) (hk : m ≤ i * 2 ^ k) (h1 : 1 ≤ k) (wt : Int) : inV (.int wt) ((dbl i m k).map V.int) = true ↔ inW i m wt := by
  constructor
  · intro h
    unfold inV at h
    rw [List.any_eq_true] at h
    obtain ⟨y, hy, e⟩ := h
    obtain ⟨z, hz, rfl⟩ := List.mem_map.mp hy
    unfold dbl at hz
    obtain ⟨j, hj, rfl⟩ := List.mem_map.mp hz
    have e : wt = ((min (i * 2 ^ (j + 1)) m : Nat) : Int) := by
      simp [eqV] at e
      first | exact e | exact e.symm | omega
    exact ⟨j + 1, by omega, e⟩
  · rintro ⟨j, hj, rfl⟩
    exact inV_ints (dbl_mem hk h1 hj)
/-- what is_mark asks of data, for the rule r f i m -/
def markP (r f i m : Nat) : PyData → Prop
  | .tuple [.bool u, .int run, .int wait, .int due] => 0 ≤ run ∧ wait ≤ due ∧ ((u = true ∧ run < f ∧ wait = i) ∨ (u = false ∧ 0 < run ∧ run < r ∧ wait = i) ∨ (u = false ∧ run = 0 ∧ inW i m wait))
  | _ => False
theorem mark_four {r f i m : Nat} {ds : List PyData} (h : markP r f i m (.tuple ds)) : ds.length = 4 := by
  unfold markP at h
  split at h
  · rename_i e
    cases e
    rfl
  · exact h.elim
theorem mark_bl {r f i m : Nat} {d1 d2 d3 d4 : PyData} (h : markP r f i m (.tuple [d1, d2, d3, d4])) : isBoolB d1 = true ∧ isIntB d2 = true ∧ isIntB d3 = true ∧ isIntB d4 = true := by
  unfold markP at h
  split at h
  · rename_i e
    cases e
    exact ⟨rfl, rfl, rfl, rfl⟩
  · exact h.elim
def spMarkA (CR : Addr) : Sp := fun vs H Q E => ∃ p c v1 d1 v2 d2, vs = [v1, v2] ∧ Dg p c H v1 d1 ∧ Dg p c H v2 d2 ∧ (ruleB d1 = false → Rsd E CR H v1) ∧ ∀ r f i m, d1 = rlD r f i m → ruleB d1 = true → ∀ (b : Bool) H', Same H H' → (b = true ↔ markP r f i m d2) → Q (.bl b) H'
section
variable {P : Program} {w : World} {K : PySem.W.Frag} {mg : Str → Option Value} {base : Heap} {tr : Tok}
theorem ok_markA {f f1 f2 f3 C fI : Addr} {fd fd1 fd2 fd3 fdI : FuncData} (F : Fn K mg "is_mark" s_is_mark ["rule", "thing"] f fd) (B : Con mg tr) (F_is_integer : Fn K mg "is_integer" s_is_integer ["thing"] f1 fd1)
    (F_is_health_rule : Fn K mg "is_health_rule" s_is_health_rule ["thing"] f2 fd2) (F_doubled_waits : Fn K mg "doubled_waits" s_doubled_waits ["rule"] f3 fd3) (X_BadRule : ExcI K mg "BadRule" "BadRule.__init__" "thing" s_BadRule C fI fdI) : FnOk P w K mg base (L2N.CX P w) 4 f fd ["rule", "thing"] (spMarkA C) := by
  have G_is_integer : FnOk P w K mg base CX0 1 f1 fd1 ["thing"] spIntG := ok_intG F_is_integer B
  have G_is_health_rule : FnOk P w K mg base CX0 2 f2 fd2 ["thing"] spRuleA := ok_ruleA F_is_health_rule B F_is_integer
  have G_doubled_waits : FnOk P w K mg base CX0 1 f3 fd3 ["rule"] spDbl := ok_dbl F_doubled_waits B
  refine okXN F.F sc_is_mark (fun vs H Q E h => ?_) (fun cdv A outer s H vs Q E hr h => ?_)
  · obtain ⟨p, c, v1, d1, v2, d2, rfl, _⟩ := h
    rfl
  · obtain ⟨p, c, v1, d1, v2, d2, rfl, hd1, hd2, qr, q⟩ := h
    refine ⟨_, (pss_cons (ps_if (pt_not (pt_val (pe_call G_is_health_rule (hr.mono (by decide)) (by rfl) F_is_health_rule.g F_is_health_rule.F.kp F_is_health_rule.b .nil pass0 (pa_cons (pv 0) pa_nil))))
      (pss_one (L2N.ps_raise rfl (L2N.takes_of rfl rfl rfl rfl) (pmkEN X_BadRule.E X_BadRule.i (ini_any sc_BadRule rfl (.inl rfl) (.inl rfl) (fun _ _ => rfl) rfl rfl X_BadRule.F) (hr.mono (by decide)) X_BadRule.b pass0 (by rfl) X_BadRule.g (pa_cons (pv 0) pa_nil))))
      pss_nil)
      (pss_cons (ps_if (PW.pt (pw_or (pt_not (pt_val (pe_callB call_isi (by rfl) B.n_isinstance (by decide +kernel) (pa_cons (pv 1) (pa_cons (pe_bltn (v := .ty "tuple") (by rfl) B.n_tuple (by decide +kernel) rfl) pa_nil))))) (pw_or1 (pt_cmpR op_ne (pe_callB call_len_seq (by rfl) B.n_len PySem.boot_len (pa_cons (pv 1) pa_nil)) pe_int (nomark _)))))
      (pss_one (ps_ret pe_bl))
      pss_nil)
      (pss_cons (ps_asg (pv 1) (pg_tup rfl (pgs_cons (pg_name (i := 2) sc_is_mark.nd rfl (Or.inl rfl)) (pgs_cons (pg_name (i := 3) sc_is_mark.nd rfl (Or.inl rfl)) (pgs_cons (pg_name (i := 4) sc_is_mark.nd rfl (Or.inl rfl)) (pgs_cons (pg_name (i := 5) sc_is_mark.nd rfl (Or.inl rfl)) pgs_nil))))))
      (pss_cons (ps_if (PW.pt (pw_or (pt_not (pt_val (pe_callB call_isi (by rfl) B.n_isinstance (by decide +kernel) (pa_cons (pv 2) (pa_cons (pe_bltn (v := .ty "bool") (by rfl) B.n_bool (by decide +kernel) rfl) pa_nil))))) (pw_or1 (pt_not (pt_val (pe_callB (cr_all rfl) (by rfl) B.n_all (by decide +kernel) (pa_cons (pe_lc (own := [("number", 10)]) rfl sc_is_mark.nd (pi_tup (pe_tup (pa_cons (pv 3) (pa_cons (pv 4) (pa_cons (pv 5) pa_nil))))) (blkOk_by (N := N_is_mark) (sc := defScope s_is_mark) (by decide +kernel)) (fun _ _ _ _ _ => (pg_name (i := 10) sc_is_mark.nd rfl (Or.inl rfl))) (fun _ _ _ _ _ => pts_nil) (fun _ _ _ _ _ => (pe_call G_is_integer (hr.mono (by decide)) (by rfl) F_is_integer.g F_is_integer.F.kp F_is_integer.b .nil pass0 (pa_cons (pv 10) pa_nil)))) pa_nil)))))))
      (pss_one (ps_ret pe_bl))
      pss_nil)
      (pss_cons (ps_if (PW.pt (pw_or (pt_cmpR op_lt (pv 3) pe_int (nomark _)) (pw_or1 (pt_cmpR op_lt (pv 5) (pv 4) (nomark _)))))
      (pss_one (ps_ret pe_bl))
      pss_nil)
      (pss_cons (ps_asg (pv 0) (pg_tup rfl (pgs_cons (pg_name (i := 6) sc_is_mark.nd rfl (Or.inl rfl)) (pgs_cons (pg_name (i := 7) sc_is_mark.nd rfl (Or.inl rfl)) (pgs_cons (pg_name (i := 8) sc_is_mark.nd rfl (Or.inl rfl)) (pgs_cons (pg_name (i := 9) sc_is_mark.nd rfl (Or.inl rfl)) pgs_nil))))))
      (pss_cons (ps_if (pt_val (pv 2))
      (pss_one (ps_ret (pe_and (pe_cmpR op_lt (pv 3) (pv 7) (nomark _)) (pe_one (pe_cmpR op_eq (pv 4) (pv 8) (nomark _))))))
      pss_nil)
      (pss_cons (ps_if (pt_cmpR op_gt (pv 3) pe_int (nomark _))
      (pss_one (ps_ret (pe_and (pe_cmpR op_lt (pv 3) (pv 6) (nomark _)) (pe_one (pe_cmpR op_eq (pv 4) (pv 8) (nomark _))))))
      pss_nil)
      (pss_one (ps_ret (pe_cmpR op_in_seq (pv 4) (pe_call G_doubled_waits (hr.mono (by decide)) (by rfl) F_doubled_waits.g F_doubled_waits.F.kp F_doubled_waits.b .nil pass0 (pa_cons (pv 0) pa_nil)) rfl))))))))))), ?_⟩
    refine ⟨_, rfl, p, c, v1, d1, rfl, hd1, fun H1 s1 => ⟨_, rfl, ?_⟩⟩
    cases hrl : ruleB d1 with
    | false => exact iteT (raise_i X_BadRule.E X_BadRule.no rfl ((qr hrl).to s1))
    | true =>
    obtain ⟨a, r, f', i, m, rfl, rfl, R, hap, hac⟩ := rule_E hd1 hrl
    have q := q r f' i m rfl hrl
    refine iteF ?_
    have no : ∀ (H' : Hp), Same H H' → ¬ markP r f' i m d2 → Q (.bl false) H' := fun H' s' h => q false H' s' ⟨fun z => (by cases z), fun z => absurd z h⟩
    have hd2 := hd2.to (Kp.same s1)
    refine ⟨v2, rfl, v2, .ty "tuple", _, _, _, rfl, .ty "tuple", hd2.tyx, isi_T d2, _, rfl, ?_⟩
    cases hd2 with
    | @tup b xs ds at_ da =>
      have hl := da.len
      refine iteF ⟨_, rfl, b, _, rfl, .inr (SqT.of at_.2.2), rfl, _, rfl, ?_⟩
      by_cases h44 : xs.length = 4
      · obtain ⟨w1, w2, w3, w4, e1, e2, e3, e4, rfl, rfl, h1, h2, h3, h4⟩ := da.four h44
        refine iteF ⟨_, rfl, b, _, rfl, SqT.of at_.2.2, rfl, _, _, rfl, _, _, rfl, _, _, rfl, _, _, rfl, rfl, ?_⟩
        refine ⟨w1, rfl, w1, .ty "bool", _, _, _, rfl, .ty "bool", h1.tyx, isi_B' e1, _, rfl, ?_⟩
        cases hb : isBoolB e1 with
        | false => exact iteT (iteT (no _ s1 fun z => by rw [(mark_bl z).1] at hb; cases hb))
        | true =>
        obtain ⟨u, rfl, rfl⟩ := bool_E h1 hb
        refine iteF ⟨_, rfl, _, rfl, _, rfl, sz (by show 3 ≤ 16000000; decide), fun T hT => ?_⟩
        have s3 := s1.trans (same_new (o := .tup [w2, w3, w4]) hT)
        have s3' := same_new (o := .tup [w2, w3, w4]) hT
        have hT3 : upd H1 T (.tup [w2, w3, w4]) T = some (.tup [w2, w3, w4]) := upd_same
        generalize upd H1 T (.tup [w2, w3, w4]) = H3 at s3 s3' hT3 ⊢
        have da3 : DgA p c H3 [w2, w3, w4] [e2, e3, e4] := .cons (h2.to (Kp.same s3')) (.cons (h3.to (Kp.same s3')) (.cons (h4.to (Kp.same s3')) .nil))
        refine ⟨T, rfl, ⟨_, SqT.of hT3⟩, fun D2 hD2 => ?_⟩
        refine lc_bools (K := K) isIntB da3 hT3 (by show 3 ≤ 16000000; decide) hD2 (fun y d H4 k _ dd s4 hk => ⟨rfl, _, rfl, p, c, y, d, rfl, dd, hk _ (Same.refl _)⟩) fun H4 s4 h4' => ?_
        have s5 := s3.trans s4
        refine ⟨D2, _, rfl, SqL.of h4', _, rfl, ?_⟩
        have eall : ([e2, e3, e4].map isIntB).all id = (isIntB e2 && (isIntB e3 && isIntB e4)) := by simp
        rw [eall]
        cases hall : (isIntB e2 && (isIntB e3 && isIntB e4)) with
        | false => exact iteT (no _ s5 fun z => by obtain ⟨_, z2, z3, z4⟩ := mark_bl z; rw [z2, z3, z4] at hall; cases hall)
        | true =>
        rw [Bool.and_eq_true, Bool.and_eq_true] at hall
        obtain ⟨run, rfl, rfl⟩ := int_E h2 hall.1
        obtain ⟨wait, rfl, rfl⟩ := int_E h3 hall.2.1
        obtain ⟨due, rfl, rfl⟩ := int_E h4 hall.2.2
        have hmk : markP r f' i m (.tuple [.bool u, .int run, .int wait, .int due]) ↔ (0 ≤ run ∧ wait ≤ due ∧ ((u = true ∧ run < f' ∧ wait = i) ∨ (u = false ∧ 0 < run ∧ run < r ∧ wait = i) ∨ (u = false ∧ run = 0 ∧ inW i m wait))) := Iff.rfl
        refine iteF ⟨_, rfl, _, _, rfl, rfl, _, rfl, ?_⟩
        refine ite2 (fun z => ?_) (fun z => ?_)
        · have z := of_decide_eq_true z
          exact iteT (no _ s5 fun y => by have := (hmk.mp y).1; omega)
        have hrun : 0 ≤ run := by
          have := of_decide_eq_false (Bool.eq_false_iff.mpr z)
          omega
        refine ⟨_, rfl, _, rfl, _, _, rfl, rfl, _, rfl, ?_⟩
        refine ite2 (fun z => ?_) (fun z => ?_)
        · have z := of_decide_eq_true z
          exact no _ s5 fun y => by have := (hmk.mp y).2.1; omega
        have hdue : wait ≤ due := by
          have := of_decide_eq_false (Bool.eq_false_iff.mpr z)
          omega
        refine ⟨_, rfl, a, _, rfl, SqT.of (s5 _ _ R.at_), rfl, _, _, rfl, _, _, rfl, _, _, rfl, _, _, rfl, rfl, ?_⟩
        refine ⟨_, rfl, u, rfl, ?_⟩
        cases u with
        | true =>
          refine iteT ⟨_, rfl, _, rfl, _, _, rfl, rfl, _, rfl, ?_⟩
          refine ite2 (fun z => ?_) (fun z => ?_)
          · have z := of_decide_eq_true z
            refine ⟨_, rfl, _, rfl, rfl, q _ _ s5 ?_⟩
            rw [decide_eq_true_eq, hmk]
            exact ⟨fun e => ⟨hrun, hdue, .inl ⟨rfl, z, V.int.inj e⟩⟩, fun ⟨_, _, y⟩ => by
              rcases y with ⟨_, _, y⟩ | ⟨y, _⟩ | ⟨y, _⟩
              · rw [y]
              · cases y
              · cases y⟩
          · have z := of_decide_eq_false (Bool.eq_false_iff.mpr z)
            refine no _ s5 fun y => ?_
            rcases (hmk.mp y).2.2 with ⟨_, y, _⟩ | ⟨y, _⟩ | ⟨y, _⟩
            · exact z y
            · cases y
            · cases y
        | false =>
          refine iteF ⟨_, rfl, _, _, rfl, rfl, _, rfl, ?_⟩
          refine ite2 (fun z => ?_) (fun z => ?_)
          · have z := of_decide_eq_true z
            refine ⟨_, rfl, _, rfl, _, _, rfl, rfl, _, rfl, ?_⟩
            refine ite2 (fun z2 => ?_) (fun z2 => ?_)
            · have z2 := of_decide_eq_true z2
              refine ⟨_, rfl, _, rfl, rfl, q _ _ s5 ?_⟩
              rw [decide_eq_true_eq, hmk]
              exact ⟨fun e => ⟨hrun, hdue, .inr (.inl ⟨rfl, z, z2, V.int.inj e⟩)⟩, fun ⟨_, _, y⟩ => by
                rcases y with ⟨y, _⟩ | ⟨_, _, _, y⟩ | ⟨_, y, _⟩
                · cases y
                · rw [y]
                · omega⟩
            · have z2 := of_decide_eq_false (Bool.eq_false_iff.mpr z2)
              refine no _ s5 fun y => ?_
              rcases (hmk.mp y).2.2 with ⟨y, _⟩ | ⟨_, _, y, _⟩ | ⟨_, y, _⟩
              · cases y
              · exact z2 y
              · omega
          · have z := of_decide_eq_false (Bool.eq_false_iff.mpr z)
            have r0 : run = 0 := by omega
            subst r0
            refine ⟨_, rfl, _, rfl, a, r, f', i, m, rfl, R.to s5, fun L k H6 k1 k2 s6 h6 => ?_⟩
            refine ⟨L, _, rfl, .inl (SqL.of h6), rfl, flat_ints _, q _ _ (s5.trans s6) ?_⟩
            show inV (.int wait) ((dbl i m k).map V.int) = true ↔ _
            rw [dbl_inW R.i1 k2 k1, hmk]
            exact ⟨fun e => ⟨hrun, hdue, .inr (.inr ⟨rfl, rfl, e⟩)⟩, fun ⟨_, _, y⟩ => by
              rcases y with ⟨y, _⟩ | ⟨_, y, _⟩ | ⟨_, _, y⟩
              · cases y
              · omega
              · exact y⟩
      · rw [show decide (V.int (xs.length : Nat) = V.int 4) = false from decide_eq_false fun z => h44 (by have := V.int.inj z; omega)]
        exact iteT (no _ s1 fun z => h44 (by rw [hl]; exact mark_four z))
    | _ => exact iteT (iteT (no _ s1 fun z => z))
end
end Ag

end
/-! ## Z3 -/
section
set_option linter.all false
set_option maxRecDepth 100000
set_option maxHeartbeats 8000000
namespace Ag
open PySem PySem.Spec PyProof.Rows L2
/-! ### new marks, looks, due looks at any data -/
/-- the run behind a look, and whether it turns the mark -/
def lkR (u : Bool) (run : Int) (g : Bool) : Int := if g = u then 0 else run + 1
def lkT (r f : Int) (u : Bool) : Int := if u = true then f else r
def lkW (i m wait : Int) (g u : Bool) : Int := if g = true then i else if u = true then i else (if m < 2 * wait then m else 2 * wait)
def lkS (r f i m : Int) (u : Bool) (run wait : Int) (g : Bool) : Bool × Int × Int :=
  if lkR u run g = lkT r f u then (!u, 0, lkW i m wait g (!u)) else (u, lkR u run g, lkW i m wait g u)
/-- the mark behind a look -/
def lkV (r f i m : Int) (u : Bool) (run wait : Int) (g : Bool) (now : Int) : List V :=
  [.bl (lkS r f i m u run wait g).1, .int (lkS r f i m u run wait g).2.1, .int (lkS r f i m u run wait g).2.2, .int (now + (lkS r f i m u run wait g).2.2)]
def mkD (u : Bool) (run wait due : Int) : PyData := .tuple [.bool u, .int run, .int wait, .int due]
/-- a mark's data -/
theorem mark_E {r f i m : Nat} {p c : Addr} {H : Hp} {v : V} {d : PyData} (h : Dg p c H v d) (e : markP r f i m d) : ∃ b u run wait due, v = .ref b ∧ d = mkD u run wait due ∧ H b = some (.tup [.bl u, .int run, .int wait, .int due]) := by
  unfold markP at e
  split at e
  · rename_i u run wait due
    cases h with
    | @tup b xs _ at_ da =>
      obtain ⟨v1, v2, v3, v4, _, _, _, _, rfl, e4, h1, h2, h3, h4⟩ := da.four (by rw [da.len]; rfl)
      cases e4
      cases h1
      cases h2
      cases h3
      cases h4
      exact ⟨b, u, run, wait, due, rfl, rfl, at_.2.2⟩
  · exact e.elim
def nonnegB : PyData → Bool
  | .int i => decide (0 ≤ i)
  | _ => false
def spNewA (CR : Addr) : Sp := fun vs H Q E => ∃ p c v d, vs = [v] ∧ Dg p c H v d ∧ (ruleB d = false → Rsd E CR H v) ∧ ∀ r f i m, d = rlD r f i m → ruleB d = true → ∀ t H', Same H H' → H' t = some (.tup [.bl true, .int 0, .int (i : Nat), .int (i : Nat)]) → H t = none → Q (.ref t) H'
def spLookedA (CR CM CB CN : Addr) : Sp := fun vs H Q E => ∃ p c v1 d1 v2 d2 v3 d3 v4 d4, vs = [v1, v2, v3, v4] ∧ Dg p c H v1 d1 ∧ Dg p c H v2 d2 ∧ Dg p c H v3 d3 ∧ Dg p c H v4 d4 ∧ (ruleB d1 = false → Rsd E CR H v1) ∧ ∀ r f i m, d1 = rlD r f i m → ruleB d1 = true →
  (¬ markP r f i m d2 → Rsd E CM H v2) ∧ ∀ u run wait due, d2 = mkD u run wait due → markP r f i m d2 → (isBoolB d3 = false → Rsd E CB H v3) ∧ ∀ g, d3 = .bool g → (nonnegB d4 = false → Rsd E CN H v4) ∧ ∀ now : Int, d4 = .int now → 0 ≤ now →
  ∀ t H', Same H H' → H' t = some (.tup (lkV r f i m u run wait g now)) → H t = none → Q (.ref t) H'
def spDueA (CR CM CN : Addr) : Sp := fun vs H Q E => ∃ p c v1 d1 v2 d2 v4 d4, vs = [v1, v2, v4] ∧ Dg p c H v1 d1 ∧ Dg p c H v2 d2 ∧ Dg p c H v4 d4 ∧ (ruleB d1 = false → Rsd E CR H v1) ∧ ∀ r f i m, d1 = rlD r f i m → ruleB d1 = true →
  (¬ markP r f i m d2 → Rsd E CM H v2) ∧ ∀ u run wait due, d2 = mkD u run wait due → markP r f i m d2 → (nonnegB d4 = false → Rsd E CN H v4) ∧ ∀ now : Int, d4 = .int now → 0 ≤ now → ∀ H', Same H H' → Q (.bl (decide (due ≤ now))) H'
section
variable {P : Program} {w : World} {K : PySem.W.Frag} {mg : Str → Option Value} {base : Heap} {tr : Tok}
theorem ok_newA {f f1 C fI : Addr} {fd fd1 fdI : FuncData} (F : Fn K mg "new_mark" s_new_mark ["rule"] f fd) (B : Con mg tr) (F_is_health_rule : Fn K mg "is_health_rule" s_is_health_rule ["thing"] f1 fd1) (G_is_health_rule : FnOk P w K mg base CX0 2 f1 fd1 ["thing"] spRuleA)
    (X_BadRule : ExcI K mg "BadRule" "BadRule.__init__" "thing" s_BadRule C fI fdI) : FnOk P w K mg base (L2N.CX P w) 4 f fd ["rule"] (spNewA C) := by
  refine okXN F.F sc_new_mark (fun vs H Q E h => ?_) (fun cdv A outer s H vs Q E hr h => ?_)
  · obtain ⟨p, c, v1, d1, rfl, _⟩ := h
    rfl
  · obtain ⟨p, c, v1, d1, rfl, hd1, qr, q⟩ := h
    refine ⟨_, (pss_cons (ps_if (pt_not (pt_val (pe_call G_is_health_rule (hr.mono (by decide)) (by rfl) F_is_health_rule.g F_is_health_rule.F.kp F_is_health_rule.b .nil pass0 (pa_cons (pv 0) pa_nil))))
      (pss_one (L2N.ps_raise rfl (L2N.takes_of rfl rfl rfl rfl) (pmkEN X_BadRule.E X_BadRule.i (ini_any sc_BadRule rfl (.inl rfl) (.inl rfl) (fun _ _ => rfl) rfl rfl X_BadRule.F) (hr.mono (by decide)) X_BadRule.b pass0 (by rfl) X_BadRule.g (pa_cons (pv 0) pa_nil))))
      pss_nil)
      (pss_cons (ps_asg (pv 0) (pg_tup rfl (pgs_cons (pg_name (i := 1) sc_new_mark.nd rfl (Or.inl rfl)) (pgs_cons (pg_name (i := 1) sc_new_mark.nd rfl (Or.inl rfl)) (pgs_cons (pg_name (i := 2) sc_new_mark.nd rfl (Or.inl rfl)) (pgs_cons (pg_name (i := 1) sc_new_mark.nd rfl (Or.inl rfl)) pgs_nil))))))
      (pss_one (ps_ret (pe_tup (pa_cons pe_bl (pa_cons pe_int (pa_cons (pv 2) (pa_cons (pv 2) pa_nil))))))))), ?_⟩
    refine ⟨_, rfl, p, c, v1, d1, rfl, hd1, fun H1 s1 => ⟨_, rfl, ?_⟩⟩
    cases hrl : ruleB d1 with
    | false => exact iteT (raise_i X_BadRule.E X_BadRule.no rfl ((qr hrl).to s1))
    | true =>
    obtain ⟨a, r, f', i, m, rfl, rfl, R, hap, hac⟩ := rule_E hd1 hrl
    refine iteF ⟨_, rfl, a, _, rfl, SqT.of (s1 _ _ R.at_), rfl, _, _, rfl, _, _, rfl, _, _, rfl, _, _, rfl, rfl, ?_⟩
    exact ⟨_, rfl, _, rfl, sz (by show 4 ≤ 16000000; decide), fun t ht => q r f' i m rfl hrl t _ (s1.trans (same_new ht)) upd_same (s1.free ht)⟩
theorem ok_lookedA {f f1 f2 CR CM CB CN fM fB fN : Addr} {fd fd1 fd2 fdM fdB fdN : FuncData} (F : Fn K mg "looked" s_looked ["rule", "mark", "is_good", "now"] f fd) (B : Con mg tr) (F_is_mark : Fn K mg "is_mark" s_is_mark ["rule", "thing"] f1 fd1) (G_is_mark : FnOk P w K mg base (L2N.CX P w) 4 f1 fd1 ["rule", "thing"] (spMarkA CR))
    (F_is_integer : Fn K mg "is_integer" s_is_integer ["thing"] f2 fd2) (X_BadMark : ExcI K mg "BadMark" "BadMark.__init__" "thing" s_BadMark CM fM fdM) (X_BadBool : ExcI K mg "BadBool" "BadBool.__init__" "thing" s_BadBool CB fB fdB) (X_BadNumber : ExcI K mg "BadNumber" "BadNumber.__init__" "thing" s_BadNumber CN fN fdN) :
    FnOk P w K mg base (L2N.CX P w) 5 f fd ["rule", "mark", "is_good", "now"] (spLookedA CR CM CB CN) := by
  have G_is_integer : FnOk P w K mg base CX0 1 f2 fd2 ["thing"] spIntG := ok_intG F_is_integer B
  refine okXN F.F sc_looked (fun vs H Q E h => ?_) (fun cdv A outer s H vs Q E hr h => ?_)
  · obtain ⟨p, c, v1, d1, v2, d2, v3, d3, v4, d4, rfl, _⟩ := h
    rfl
  · obtain ⟨p, c, v1, d1, v2, d2, v3, d3, v4, d4, rfl, hd1, hd2, hd3, hd4, qr, q0⟩ := h
    refine ⟨_, (pss_cons (ps_if (pt_not (pt_val (pe_call G_is_mark (hr.mono (by decide)) (by rfl) F_is_mark.g F_is_mark.F.kp F_is_mark.b .nil (L2N.passes_call (L2N.takes_of rfl rfl rfl rfl) (fun _ _ _ _ h => h)) (pa_cons (pv 0) (pa_cons (pv 1) pa_nil)))))
      (pss_one (L2N.ps_raise rfl (L2N.takes_of rfl rfl rfl rfl) (pmkEN X_BadMark.E X_BadMark.i (ini_any sc_BadMark rfl (.inl rfl) (.inl rfl) (fun _ _ => rfl) rfl rfl X_BadMark.F) (hr.mono (by decide)) X_BadMark.b pass0 (by rfl) X_BadMark.g (pa_cons (pv 1) pa_nil))))
      pss_nil)
      (pss_cons (ps_if (pt_not (pt_val (pe_callB call_isi (by rfl) B.n_isinstance (by decide +kernel) (pa_cons (pv 2) (pa_cons (pe_bltn (v := .ty "bool") (by rfl) B.n_bool (by decide +kernel) rfl) pa_nil)))))
      (pss_one (L2N.ps_raise rfl (L2N.takes_of rfl rfl rfl rfl) (pmkEN X_BadBool.E X_BadBool.i (ini_any sc_BadBool rfl (.inl rfl) (.inl rfl) (fun _ _ => rfl) rfl rfl X_BadBool.F) (hr.mono (by decide)) X_BadBool.b pass0 (by rfl) X_BadBool.g (pa_cons (pv 2) pa_nil))))
      pss_nil)
      (pss_cons (ps_if (PW.pt (pw_or (pt_not (pt_val (pe_call G_is_integer (hr.mono (by decide)) (by rfl) F_is_integer.g F_is_integer.F.kp F_is_integer.b .nil pass0 (pa_cons (pv 3) pa_nil)))) (pw_or1 (pt_cmpR op_lt (pv 3) pe_int (nomark _)))))
      (pss_one (L2N.ps_raise rfl (L2N.takes_of rfl rfl rfl rfl) (pmkEN X_BadNumber.E X_BadNumber.i (ini_any sc_BadNumber rfl (.inl rfl) (.inl rfl) (fun _ _ => rfl) rfl rfl X_BadNumber.F) (hr.mono (by decide)) X_BadNumber.b pass0 (by rfl) X_BadNumber.g (pa_cons (pv 3) pa_nil))))
      pss_nil)
      (pss_cons (ps_asg (pv 0) (pg_tup rfl (pgs_cons (pg_name (i := 4) sc_looked.nd rfl (Or.inl rfl)) (pgs_cons (pg_name (i := 5) sc_looked.nd rfl (Or.inl rfl)) (pgs_cons (pg_name (i := 6) sc_looked.nd rfl (Or.inl rfl)) (pgs_cons (pg_name (i := 7) sc_looked.nd rfl (Or.inl rfl)) pgs_nil))))))
      (pss_cons (ps_asg (pv 1) (pg_tup rfl (pgs_cons (pg_name (i := 8) sc_looked.nd rfl (Or.inl rfl)) (pgs_cons (pg_name (i := 9) sc_looked.nd rfl (Or.inl rfl)) (pgs_cons (pg_name (i := 10) sc_looked.nd rfl (Or.inl rfl)) (pgs_cons (pg_name (i := 11) sc_looked.nd rfl (Or.inl rfl)) pgs_nil))))))
      (pss_cons (ps_set (i := 9) sc_looked.nd rfl (.inl rfl) (pe_ifExp (pt_cmpR op_eq (pv 2) (pv 8) (nomark _)) pe_int (pe_op op_add (pv 9) pe_int)))
      (C8.pss_cut (ps_if (pt_cmpR op_eq (pv 9) (pe_ifExp (pt_val (pv 8)) (pv 5) (pv 4)) (nomark _))
      (pss_one (ps_par (i := 8) (j := 9) (by rfl) sc_looked.nd rfl rfl (by decide) rfl rfl (pa_cons (pe_not (pv 8)) (pa_cons pe_int pa_nil)) (by rfl)))
      pss_nil)
      (pss_cons (ps_set (i := 10) sc_looked.nd rfl (.inl rfl) (pe_ifExp (PW.pt (pw_or (pt_val (pv 2)) (pw_or1 (pt_val (pv 8))))) (pv 6) (pe_callB (call_min2 rfl) (by rfl) B.n_min (by decide +kernel) (pa_cons (pe_op op_mul pe_int (pv 10)) (pa_cons (pv 7) pa_nil)))))
      (pss_one (ps_ret (pe_tup (pa_cons (pv 8) (pa_cons (pv 9) (pa_cons (pv 10) (pa_cons (pe_op op_add (pv 3) (pv 10)) pa_nil))))))))))))))), ?_⟩
    refine ⟨_, rfl, _, rfl, p, c, v1, d1, v2, d2, rfl, hd1, hd2, qr, fun r f' i m e1 hrl b H1 s1 hb => ⟨_, rfl, ?_⟩⟩
    obtain ⟨qm, q1⟩ := q0 r f' i m e1 hrl
    cases b with
    | false => exact iteT (raise_i X_BadMark.E X_BadMark.no rfl ((qm fun z => by have := hb.mpr z; cases this).to s1))
    | true =>
    have hmk := hb.mp rfl
    obtain ⟨a, r', f'', i', m', rfl, e2, R, hap, hac⟩ := rule_E hd1 hrl
    have e3 := e1.symm.trans e2
    unfold rlD at e3
    injection e3 with e3
    injection e3 with e31 e3
    injection e3 with e32 e3
    injection e3 with e33 e3
    injection e3 with e34 _
    injection e31 with e31
    injection e32 with e32
    injection e33 with e33
    injection e34 with e34
    have e31 := Int.ofNat.inj e31
    have e32 := Int.ofNat.inj e32
    have e33 := Int.ofNat.inj e33
    have e34 := Int.ofNat.inj e34
    subst e31 e32 e33 e34
    obtain ⟨bb, u, run, wait, due, rfl, rfl, hm⟩ := mark_E hd2 hmk
    obtain ⟨qb, q2⟩ := q1 u run wait due rfl hmk
    have hd3 := hd3.to (Kp.same s1)
    have hd4 := hd4.to (Kp.same s1)
    refine iteF ⟨v3, rfl, v3, .ty "bool", _, _, _, rfl, .ty "bool", hd3.tyx, isi_B' d3, _, rfl, ?_⟩
    cases h3 : isBoolB d3 with
    | false => exact iteT (raise_i X_BadBool.E X_BadBool.no rfl ((qb h3).to s1))
    | true =>
    obtain ⟨g, rfl, rfl⟩ := bool_E hd3 h3
    obtain ⟨qn, q3⟩ := q2 g rfl
    refine iteF ⟨_, rfl, p, c, v4, d4, rfl, hd4, _, rfl, ?_⟩
    have bad : nonnegB d4 = false → tMkO CN (spIni K "thing") [] (tCons (tVar 3) tNil) [some (.ref a), some (.ref bb), some (.bl g), some v4, none, none, none, none, none, none, none, none] H1 (fun cls d G => E cls d G) := fun z => raise_i X_BadNumber.E X_BadNumber.no rfl ((qn z).to s1)
    cases h4 : isIntB d4 with
    | false => exact iteT (iteT (bad (by cases d4 <;> first | rfl | cases h4)))
    | true =>
    obtain ⟨now, rfl, rfl⟩ := int_E hd4 h4
    refine iteF ⟨_, rfl, _, _, rfl, rfl, _, rfl, ?_⟩
    refine ite2 (fun z => ?_) (fun z => ?_)
    · have z := of_decide_eq_true z
      exact bad (decide_eq_false (by omega))
    have hn : 0 ≤ now := by
      have := of_decide_eq_false (Bool.eq_false_iff.mpr z)
      omega
    have q := q3 now rfl hn
    refine ⟨_, rfl, a, _, rfl, SqT.of (s1 _ _ R.at_), rfl, _, _, rfl, _, _, rfl, _, _, rfl, _, _, rfl, rfl, ?_⟩
    refine ⟨_, rfl, bb, _, rfl, SqT.of (s1 _ _ hm), rfl, _, _, rfl, _, _, rfl, _, _, rfl, _, _, rfl, rfl, ?_⟩
    have fin : ∀ (u' : Bool) (run' wait' : Int), lkS r f' i m u run wait g = (u', run', wait') → ∀ t, H1 t = none → Q (.ref t) (upd H1 t (.tup [.bl u', .int run', .int wait', .int (now + wait')])) := by
      intro u' run' wait' e t ht
      refine q t _ (s1.trans (same_new ht)) ?_ (s1.free ht)
      rw [upd_same]
      unfold lkV
      rw [e]
    cases g <;> cases u
    · -- g = false, u = false
      refine ⟨_, rfl, _, rfl, rfl, _, rfl, iteT ?_⟩
      refine ⟨fun σ H' => H' = H1 ∧ ((0 = (r : Int) ∧ σ = [some (.ref a), some (.ref bb), some (.bl false), some (.int now), some (.int r), some (.int f'), some (.int i), some (.int m), some (.bl true), some (.int 0), some (.int wait), some (.int due)]) ∨ (¬ 0 = (r : Int) ∧ σ = [some (.ref a), some (.ref bb), some (.bl false), some (.int now), some (.int r), some (.int f'), some (.int i), some (.int m), some (.bl false), some (.int 0), some (.int wait), some (.int due)])), ?_, ?_⟩
      · refine ⟨_, rfl, _, rfl, _, rfl, iteF ⟨_, rfl, rfl, _, rfl, ?_⟩⟩
        refine ite2 (fun z => ?_) (fun z => ?_)
        · have z := of_decide_eq_true z
          have z : 0 = (r : Int) := V.int.inj z
          exact ⟨_, rfl, _, rfl, _, _, rfl, rfl, .inl ⟨z, rfl⟩⟩
        · refine ⟨rfl, .inr ⟨fun y => z (decide_eq_true ?_), rfl⟩⟩
          show V.int (0) = .int (r : Int)
          rw [y]
      · rintro σ H' ⟨rfl, ⟨e, rfl⟩ | ⟨e, rfl⟩⟩
        · refine ⟨_, rfl, false, rfl, iteF ⟨_, rfl, true, rfl, iteT ⟨_, rfl, ?_⟩⟩⟩
          refine ⟨_, rfl, _, rfl, _, rfl, _, rfl, _, rfl, _, _, rfl, rfl, sz (by show 4 ≤ 16000000; decide), fun t ht => ?_⟩
          exact fin true (0) (i : Int) (by simp [lkS, lkR, lkT, lkW, e]) t ht
        · refine ⟨_, rfl, false, rfl, iteF ⟨_, rfl, false, rfl, iteF ⟨_, rfl, _, _, rfl, rfl, .inl ⟨by decide, by decide⟩, _, rfl, _, _, rfl, ?_⟩⟩⟩
          refine ⟨_, rfl, _, rfl, _, rfl, _, rfl, _, rfl, _, _, rfl, rfl, sz (by show 4 ≤ 16000000; decide), fun t ht => ?_⟩
          exact fin false (0) (if (m : Int) < 2 * wait then (m : Int) else 2 * wait) (by simp [lkS, lkR, lkT, lkW, e]) t ht
    · -- g = false, u = true
      refine ⟨_, rfl, _, rfl, rfl, _, rfl, iteF ⟨_, rfl, _, _, rfl, rfl, ?_⟩⟩
      refine ⟨fun σ H' => H' = H1 ∧ ((run + 1 = (f' : Int) ∧ σ = [some (.ref a), some (.ref bb), some (.bl false), some (.int now), some (.int r), some (.int f'), some (.int i), some (.int m), some (.bl false), some (.int 0), some (.int wait), some (.int due)]) ∨ (¬ run + 1 = (f' : Int) ∧ σ = [some (.ref a), some (.ref bb), some (.bl false), some (.int now), some (.int r), some (.int f'), some (.int i), some (.int m), some (.bl true), some (.int (run + 1)), some (.int wait), some (.int due)])), ?_, ?_⟩
      · refine ⟨_, rfl, _, rfl, _, rfl, iteT ⟨_, rfl, rfl, _, rfl, ?_⟩⟩
        refine ite2 (fun z => ?_) (fun z => ?_)
        · have z := of_decide_eq_true z
          have z : run + 1 = (f' : Int) := V.int.inj z
          exact ⟨_, rfl, _, rfl, _, _, rfl, rfl, .inl ⟨z, rfl⟩⟩
        · refine ⟨rfl, .inr ⟨fun y => z (decide_eq_true ?_), rfl⟩⟩
          show V.int (run + 1) = .int (f' : Int)
          rw [y]
      · rintro σ H' ⟨rfl, ⟨e, rfl⟩ | ⟨e, rfl⟩⟩
        · refine ⟨_, rfl, false, rfl, iteF ⟨_, rfl, false, rfl, iteF ⟨_, rfl, _, _, rfl, rfl, .inl ⟨by decide, by decide⟩, _, rfl, _, _, rfl, ?_⟩⟩⟩
          refine ⟨_, rfl, _, rfl, _, rfl, _, rfl, _, rfl, _, _, rfl, rfl, sz (by show 4 ≤ 16000000; decide), fun t ht => ?_⟩
          exact fin false (0) (if (m : Int) < 2 * wait then (m : Int) else 2 * wait) (by simp [lkS, lkR, lkT, lkW, e]) t ht
        · refine ⟨_, rfl, false, rfl, iteF ⟨_, rfl, true, rfl, iteT ⟨_, rfl, ?_⟩⟩⟩
          refine ⟨_, rfl, _, rfl, _, rfl, _, rfl, _, rfl, _, _, rfl, rfl, sz (by show 4 ≤ 16000000; decide), fun t ht => ?_⟩
          exact fin true (run + 1) (i : Int) (by simp [lkS, lkR, lkT, lkW, e]) t ht
    · -- g = true, u = false
      refine ⟨_, rfl, _, rfl, rfl, _, rfl, iteF ⟨_, rfl, _, _, rfl, rfl, ?_⟩⟩
      refine ⟨fun σ H' => H' = H1 ∧ ((run + 1 = (r : Int) ∧ σ = [some (.ref a), some (.ref bb), some (.bl true), some (.int now), some (.int r), some (.int f'), some (.int i), some (.int m), some (.bl true), some (.int 0), some (.int wait), some (.int due)]) ∨ (¬ run + 1 = (r : Int) ∧ σ = [some (.ref a), some (.ref bb), some (.bl true), some (.int now), some (.int r), some (.int f'), some (.int i), some (.int m), some (.bl false), some (.int (run + 1)), some (.int wait), some (.int due)])), ?_, ?_⟩
      · refine ⟨_, rfl, _, rfl, _, rfl, iteF ⟨_, rfl, rfl, _, rfl, ?_⟩⟩
        refine ite2 (fun z => ?_) (fun z => ?_)
        · have z := of_decide_eq_true z
          have z : run + 1 = (r : Int) := V.int.inj z
          exact ⟨_, rfl, _, rfl, _, _, rfl, rfl, .inl ⟨z, rfl⟩⟩
        · refine ⟨rfl, .inr ⟨fun y => z (decide_eq_true ?_), rfl⟩⟩
          show V.int (run + 1) = .int (r : Int)
          rw [y]
      · rintro σ H' ⟨rfl, ⟨e, rfl⟩ | ⟨e, rfl⟩⟩
        · refine ⟨_, rfl, true, rfl, iteT (iteT ⟨_, rfl, ?_⟩)⟩
          refine ⟨_, rfl, _, rfl, _, rfl, _, rfl, _, rfl, _, _, rfl, rfl, sz (by show 4 ≤ 16000000; decide), fun t ht => ?_⟩
          exact fin true (0) (i : Int) (by simp [lkS, lkR, lkT, lkW, e]) t ht
        · refine ⟨_, rfl, true, rfl, iteT (iteT ⟨_, rfl, ?_⟩)⟩
          refine ⟨_, rfl, _, rfl, _, rfl, _, rfl, _, rfl, _, _, rfl, rfl, sz (by show 4 ≤ 16000000; decide), fun t ht => ?_⟩
          exact fin false (run + 1) (i : Int) (by simp [lkS, lkR, lkT, lkW, e]) t ht
    · -- g = true, u = true
      refine ⟨_, rfl, _, rfl, rfl, _, rfl, iteT ?_⟩
      refine ⟨fun σ H' => H' = H1 ∧ ((0 = (f' : Int) ∧ σ = [some (.ref a), some (.ref bb), some (.bl true), some (.int now), some (.int r), some (.int f'), some (.int i), some (.int m), some (.bl false), some (.int 0), some (.int wait), some (.int due)]) ∨ (¬ 0 = (f' : Int) ∧ σ = [some (.ref a), some (.ref bb), some (.bl true), some (.int now), some (.int r), some (.int f'), some (.int i), some (.int m), some (.bl true), some (.int 0), some (.int wait), some (.int due)])), ?_, ?_⟩
      · refine ⟨_, rfl, _, rfl, _, rfl, iteT ⟨_, rfl, rfl, _, rfl, ?_⟩⟩
        refine ite2 (fun z => ?_) (fun z => ?_)
        · have z := of_decide_eq_true z
          have z : 0 = (f' : Int) := V.int.inj z
          exact ⟨_, rfl, _, rfl, _, _, rfl, rfl, .inl ⟨z, rfl⟩⟩
        · refine ⟨rfl, .inr ⟨fun y => z (decide_eq_true ?_), rfl⟩⟩
          show V.int (0) = .int (f' : Int)
          rw [y]
      · rintro σ H' ⟨rfl, ⟨e, rfl⟩ | ⟨e, rfl⟩⟩
        · refine ⟨_, rfl, true, rfl, iteT (iteT ⟨_, rfl, ?_⟩)⟩
          refine ⟨_, rfl, _, rfl, _, rfl, _, rfl, _, rfl, _, _, rfl, rfl, sz (by show 4 ≤ 16000000; decide), fun t ht => ?_⟩
          exact fin false (0) (i : Int) (by simp [lkS, lkR, lkT, lkW, e]) t ht
        · refine ⟨_, rfl, true, rfl, iteT (iteT ⟨_, rfl, ?_⟩)⟩
          refine ⟨_, rfl, _, rfl, _, rfl, _, rfl, _, rfl, _, _, rfl, rfl, sz (by show 4 ≤ 16000000; decide), fun t ht => ?_⟩
          exact fin true (0) (i : Int) (by simp [lkS, lkR, lkT, lkW, e]) t ht
theorem ok_dueA {f f1 f2 CR CM CN fM fN : Addr} {fd fd1 fd2 fdM fdN : FuncData} (F : Fn K mg "is_due" s_is_due ["rule", "mark", "now"] f fd) (B : Con mg tr) (F_is_mark : Fn K mg "is_mark" s_is_mark ["rule", "thing"] f1 fd1) (G_is_mark : FnOk P w K mg base (L2N.CX P w) 4 f1 fd1 ["rule", "thing"] (spMarkA CR))
    (F_is_integer : Fn K mg "is_integer" s_is_integer ["thing"] f2 fd2) (X_BadMark : ExcI K mg "BadMark" "BadMark.__init__" "thing" s_BadMark CM fM fdM) (X_BadNumber : ExcI K mg "BadNumber" "BadNumber.__init__" "thing" s_BadNumber CN fN fdN) :
    FnOk P w K mg base (L2N.CX P w) 5 f fd ["rule", "mark", "now"] (spDueA CR CM CN) := by
  have G_is_integer : FnOk P w K mg base CX0 1 f2 fd2 ["thing"] spIntG := ok_intG F_is_integer B
  refine okXN F.F sc_is_due (fun vs H Q E h => ?_) (fun cdv A outer s H vs Q E hr h => ?_)
  · obtain ⟨p, c, v1, d1, v2, d2, v4, d4, rfl, _⟩ := h
    rfl
  · obtain ⟨p, c, v1, d1, v2, d2, v4, d4, rfl, hd1, hd2, hd4, qr, q0⟩ := h
    refine ⟨_, (pss_cons (ps_if (pt_not (pt_val (pe_call G_is_mark (hr.mono (by decide)) (by rfl) F_is_mark.g F_is_mark.F.kp F_is_mark.b .nil (L2N.passes_call (L2N.takes_of rfl rfl rfl rfl) (fun _ _ _ _ h => h)) (pa_cons (pv 0) (pa_cons (pv 1) pa_nil)))))
      (pss_one (L2N.ps_raise rfl (L2N.takes_of rfl rfl rfl rfl) (pmkEN X_BadMark.E X_BadMark.i (ini_any sc_BadMark rfl (.inl rfl) (.inl rfl) (fun _ _ => rfl) rfl rfl X_BadMark.F) (hr.mono (by decide)) X_BadMark.b pass0 (by rfl) X_BadMark.g (pa_cons (pv 1) pa_nil))))
      pss_nil)
      (pss_cons (ps_if (PW.pt (pw_or (pt_not (pt_val (pe_call G_is_integer (hr.mono (by decide)) (by rfl) F_is_integer.g F_is_integer.F.kp F_is_integer.b .nil pass0 (pa_cons (pv 2) pa_nil)))) (pw_or1 (pt_cmpR op_lt (pv 2) pe_int (nomark _)))))
      (pss_one (L2N.ps_raise rfl (L2N.takes_of rfl rfl rfl rfl) (pmkEN X_BadNumber.E X_BadNumber.i (ini_any sc_BadNumber rfl (.inl rfl) (.inl rfl) (fun _ _ => rfl) rfl rfl X_BadNumber.F) (hr.mono (by decide)) X_BadNumber.b pass0 (by rfl) X_BadNumber.g (pa_cons (pv 2) pa_nil))))
      pss_nil)
      (pss_one (ps_ret (pe_cmpR op_ge (pv 2) (pe_ix ix_tup (pv 1) pe_int (fun _ _ => rfl)) (nomark _)))))), ?_⟩
    refine ⟨_, rfl, _, rfl, p, c, v1, d1, v2, d2, rfl, hd1, hd2, qr, fun r f' i m e1 hrl b H1 s1 hb => ⟨_, rfl, ?_⟩⟩
    obtain ⟨qm, q1⟩ := q0 r f' i m e1 hrl
    cases b with
    | false => exact iteT (raise_i X_BadMark.E X_BadMark.no rfl ((qm fun z => by have := hb.mpr z; cases this).to s1))
    | true =>
    have hmk := hb.mp rfl
    obtain ⟨bb, u, run, wait, due, rfl, rfl, hm⟩ := mark_E hd2 hmk
    obtain ⟨qn, q2⟩ := q1 u run wait due rfl hmk
    have hd4 := hd4.to (Kp.same s1)
    refine iteF ⟨_, rfl, p, c, v4, d4, rfl, hd4, _, rfl, ?_⟩
    have bad : nonnegB d4 = false → tMkO CN (spIni K "thing") [] (tCons (tVar 2) tNil) [some v1, some (.ref bb), some v4] H1 (fun cls d G => E cls d G) := fun z => raise_i X_BadNumber.E X_BadNumber.no rfl ((qn z).to s1)
    cases h4 : isIntB d4 with
    | false => exact iteT (iteT (bad (by cases d4 <;> first | rfl | cases h4)))
    | true =>
    obtain ⟨now, rfl, rfl⟩ := int_E hd4 h4
    refine iteF ⟨_, rfl, _, _, rfl, rfl, _, rfl, ?_⟩
    refine ite2 (fun z => ?_) (fun z => ?_)
    · have z := of_decide_eq_true z
      exact bad (decide_eq_false (by omega))
    have hn : 0 ≤ now := by
      have := of_decide_eq_false (Bool.eq_false_iff.mpr z)
      omega
    exact ⟨_, rfl, _, rfl, bb, _, _, _, rfl, rfl, SqT.of (s1 _ _ hm), atI_nat (j := 3) rfl, _, _, rfl, rfl, q2 now rfl hn _ s1⟩
end
end Ag

end
/-! ## Z4 -/
section
set_option linter.all false
set_option maxRecDepth 100000
set_option maxHeartbeats 4000000
namespace Ag
open PySem PySem.Spec PyProof.Rows L2
open SX (S S_len S_cat S_inj)
/-! ### the deck of draws -/
def kC : Key := Sum.inr (Str.ofString "left")
def kM : Key := Sum.inr (Str.ofString "mixed")
def kT : Key := Sum.inr (Str.ofString "draws")
def dkL (c : Addr) (m t : Int) : List (Key × V) := [(kC, .ref c), (kM, .int m), (kT, .int t)]
theorem nCM : ¬ kC = kM := by decide +kernel
theorem nCT : ¬ kC = kT := by decide +kernel
theorem nMT : ¬ kM = kT := by decide +kernel
section
variable {c : Addr} {m t u : Int}
theorem v_C : valV (dkL c m t) kC = some (.ref c) := valV_pos rfl
theorem v_M : valV (dkL c m t) kM = some (.int m) := (valV_neg nCM).trans (valV_pos rfl)
theorem v_T : valV (dkL c m t) kT = some (.int t) := (valV_neg nCT).trans ((valV_neg nMT).trans (valV_pos rfl))
theorem put_T : putK (dkL c m t) kT (.int u) = dkL c m u := by
  unfold putK dkL
  simp [nCT, nMT]
theorem merge_d : mergeK [] (dkL c m t) = dkL c m t := by
  unfold mergeK dkL putK
  simp [nCM, nCT, nMT]
end
/-- a deck stands at p, its cells at c -/
def Dk (p c : Addr) (H : Hp) : Prop := ∃ (m t : Int) (cs : List Int), H p = some (.dK (dkL c m t)) ∧ H c = some (.lst (cs.map V.int)) ∧ cs.length ≤ 63
/-- all but the deck is as it was, and the deck is one -/
def Gx (p c : Addr) (H H' : Hp) : Prop := (∀ b o, b ≠ p → b ≠ c → H b = some o → H' b = some o) ∧ Dk p c H'
theorem Gx.refl {p c : Addr} {H : Hp} (d : Dk p c H) : Gx p c H H := ⟨fun _ _ _ _ e => e, d⟩
theorem Gx.trans {p c : Addr} {H H1 H2 : Hp} (a : Gx p c H H1) (b : Gx p c H1 H2) : Gx p c H H2 := ⟨fun x o h1 h2 e => b.1 x o h1 h2 (a.1 x o h1 h2 e), b.2⟩
theorem Dk.same {p c : Addr} {H H' : Hp} (d : Dk p c H) (s : Same H H') : Dk p c H' := by
  obtain ⟨m, t, cs, h1, h2, h3⟩ := d
  exact ⟨m, t, cs, s _ _ h1, s _ _ h2, h3⟩
theorem Gx.same {p c : Addr} {H H' : Hp} (d : Dk p c H) (s : Same H H') : Gx p c H H' := ⟨fun b o _ _ e => s b o e, d.same s⟩
theorem Dk.ne {p c q : Addr} {H : Hp} (d : Dk p c H) (h : H q = none) : q ≠ p ∧ q ≠ c := by
  obtain ⟨m, t, cs, h1, h2, _⟩ := d
  exact ⟨(ne_of_none h1 h).symm, (ne_of_none h2 h).symm⟩
theorem Gx.free {p c q : Addr} {H H' : Hp} (g : Gx p c H H') (d : Dk p c H) (h : H' q = none) : H q = none := by
  cases e : H q with
  | none => rfl
  | some o =>
    have n := g.2.ne h
    have := g.1 q o n.1 n.2 e
    rw [h] at this
    cases this
/-- an object that the deck is not -/
theorem At.gx {p c a : Addr} {H H' : Hp} {o : HO} (h : At p c H a o) (g : Gx p c H H') : At p c H' a o := ⟨h.1, h.2.1, g.1 a o h.1 h.2.1 h.2.2⟩
theorem At.new {p c a : Addr} {H : Hp} {o : HO} (d : Dk p c H) (h : H a = none) : At p c (upd H a o) a o := ⟨(d.ne h).1, (d.ne h).2, upd_same⟩
theorem Gx.new {p c a : Addr} {H : Hp} {o : HO} (d : Dk p c H) (h : H a = none) : Gx p c H (upd H a o) := Gx.same d (same_new h)
/-- a list's own change -/
theorem Gx.put {p c a : Addr} {H H' : Hp} {o : HO} (g : Gx p c H H') (d : Dk p c H) (h : H a = none) (n : a ≠ p ∧ a ≠ c) : Gx p c H (upd H' a o) := by
  refine ⟨fun b u h1 h2 e => ?_, ?_⟩
  · rw [upd_ne (ne_of_none e h)]
    exact g.1 b u h1 h2 e
  · obtain ⟨m, t, cs, h1, h2, h3⟩ := g.2
    exact ⟨m, t, cs, by rw [upd_ne n.1.symm]; exact h1, by rw [upd_ne n.2.symm]; exact h2, h3⟩
theorem cutV63 {ns : List Int} (h : ns.length ≤ 63) : cutV (ns.map V.int) none (some 63) = ns.map V.int := by
  unfold cutV
  rw [HT.sIx_none, show HT.sIx (ns.map V.int).length (ns.map V.int).length (some 63) = min 63 (ns.map V.int).length from HT.sIx_nat _ _ 63, List.drop_zero, List.take_of_length_le]
  rw [List.length_map]
  omega
section
variable {P : Program} {w : World} {K : PySem.W.Frag} {mg : Str → Option Value} {base : Heap} 
def spDeck (K : PySem.W.Frag) : Sp := fun vs H Q _ => ∃ (a : Addr) (ns : List Int), vs = [.ref a] ∧ SqL K H a (ns.map V.int) ∧ ns.length ≤ 63 ∧ ∀ p c H', H p = none → H c = none → Same H H' → Dk p c H' → Q (.ref p) H'
theorem ints_all {ns : List Int} {xs : List V} (hl : xs.length = ns.length) (h : ∀ (i : Nat) (y : V), xs[i]? = some y → ∃ z, ns[i]? = some z ∧ y = V.int z) : xs = ns.map V.int := by
  refine List.ext_getElem? fun i => ?_
  rw [List.getElem?_map]
  cases e : xs[i]? with
  | none =>
    have h1 := List.getElem?_eq_none_iff.mp e
    have h2 : ns[i]? = none := List.getElem?_eq_none_iff.mpr (by omega)
    rw [h2]
    rfl
  | some y =>
    obtain ⟨z, hz, rfl⟩ := h i y e
    rw [hz]
    rfl
theorem int_at {ns : List Int} {i : Nat} {x : V} (h : (ns.map V.int)[i]? = some x) : ∃ z, ns[i]? = some z ∧ x = V.int z := by
  rw [List.getElem?_map] at h
  cases e : ns[i]? with
  | none => rw [e] at h; cases h
  | some z =>
    rw [e] at h
    exact ⟨z, rfl, (Option.some.inj h).symm⟩
theorem ok_deck {f : Addr} {fd : FuncData} (F : Fn K mg "_law_deck" s__law_deck ["_law_script"] f fd) (B : Blt mg) : FnOk P w K mg base CX0 1 f fd ["_law_script"] (spDeck K) := by
  refine F.F.ok sc__law_deck (fun vs H Q E h => ?_) (fun cdv A outer s H vs Q E hr h => ?_)
  · obtain ⟨a, ns, rfl, _⟩ := h
    rfl
  · obtain ⟨a, ns, rfl, hS, hlen, q⟩ := h
    refine ⟨_, (pss_cons (ps_set (i := 1) sc__law_deck.nd rfl (.inl rfl) pe_int)
      (pss_cons (ps_for PassesOwn.never rfl (pi_list (pe_slice sl_list (pv 0) po_none (po_some pe_int))) (pg_name (i := 2) sc__law_deck.nd rfl (Or.inl rfl))
      (pss_one (ps_set (i := 1) sc__law_deck.nd rfl (.inl rfl) (pe_op op_mod (pe_callTy call_int1 (by rfl) B.n_int (by decide +kernel) (pa_cons (pe_op op_add (pe_op op_add (pe_op op_mul (pv 1) pe_int) (pe_op op_mod (pe_callTy call_int1 (by rfl) B.n_int (by decide +kernel) (pa_cons (pv 2) pa_nil)) pe_int)) pe_int) pa_nil)) pe_int))))
      (pss_one (ps_ret (pe_disp (pps_cons pe_str (pe_revL (pe_callTy call_list_of (by rfl) B.n_list (by decide +kernel) (pa_cons (pe_slice sl_list (pv 0) po_none (po_some pe_int)) pa_nil))) (pps_cons pe_str (pv 1) (pps_cons pe_str pe_int pps_nil))) (by rfl) (by rfl) (fun z => by cases z) (by decide)))))), ?_⟩
    have c63 := cutV63 hlen
    -- the mixed number
    refine ⟨_, rfl, 63, rfl, a, _, rfl, hS, fun u hu => ?_⟩
    rw [c63]
    refine ⟨u, rfl, ⟨_, SqL.of upd_same⟩, ?_⟩
    refine for_list (K := K) (a := u) (xs := ns.map V.int) (fun i σ H2 => ∃ (m : Int) (x : Option V), σ = [some (.ref a), some (.int m), x] ∧ Same H H2 ∧ H2 u = some (.lst (ns.map V.int))) ⟨_, none, rfl, same_new hu, upd_same⟩ (fun i σ H2 _ z => ?_) ?_ ?_
    · obtain ⟨_, _, _, _, e⟩ := z
      exact SqL.of e
    · rintro i x σ H2 hx ⟨m, y, rfl, sm, e⟩
      obtain ⟨z, _, rfl⟩ := int_at hx
      refine ⟨_, rfl, _, _, rfl, rfl, .inr ⟨by decide, by decide⟩, ?_⟩
      refine ⟨_, rfl, .inl ⟨z, rfl, _, _, rfl, rfl, (by show (0 : Int) < 2147483587; decide), _, _, rfl, rfl, _, _, rfl, rfl, .inl ⟨_, rfl, _, _, rfl, rfl, (by show (0 : Int) < 2147483629; decide), ?_⟩⟩⟩
      exact ⟨_, _, rfl, sm, e⟩
    · rintro σ H2 ⟨m, x, rfl, sm, e⟩
      -- the dict
      intro p hp
      have nHp : H p = none := sm.free hp
      have sm2 : Same H (upd H2 p (.dK [])) := sm.trans (same_new hp)
      refine ⟨_, rfl, 63, rfl, a, _, rfl, sm2.seq hS, fun v hv => ?_⟩
      rw [c63]
      have npv : p ≠ v := fun z => by rw [← z, upd_same] at hv; cases hv
      have sm3 := sm2.trans (same_new (o := .lst (ns.map V.int)) hv)
      have p3 : upd (upd H2 p (.dK [])) v (.lst (ns.map V.int)) p = some (.dK []) := by rw [upd_ne npv, upd_same]
      refine ⟨v, _, rfl, .inl (SqL.of upd_same), fun D hD => ?_⟩
      generalize upd (upd H2 p (.dK [])) v (.lst (ns.map V.int)) = H3 at sm3 p3 hD ⊢
      have nDp : p ≠ D := ne_of_none p3 hD
      refine ⟨D, _, rfl, SqL.of upd_same, fun R hR => ?_⟩
      have sm4 := sm3.trans (same_new (o := .lst (ns.map V.int)) hD)
      have p4 : upd H3 D (.lst (ns.map V.int)) p = some (.dK []) := by rw [upd_ne nDp]; exact p3
      generalize upd H3 D (.lst (ns.map V.int)) = H4 at sm4 p4 hR ⊢
      have hRp : p ≠ R := ne_of_none p4 hR
      refine ⟨_, rfl, ?_⟩
      refine ⟨by rw [upd_ne hRp]; exact p4, dkL R m 0, rfl, by show 3 ≤ 15; decide, ?_⟩
      rw [merge_d]
      have nR : H R = none := sm4.free hR
      refine q p R _ nHp nR (fun b o e => ?_) ⟨m, 0, ns.reverse, upd_same, ?_, by rw [List.length_reverse]; exact hlen⟩
      · rw [upd_ne (ne_of_none e nHp), upd_ne (ne_of_none e nR)]
        exact sm4 b o e
      · rw [upd_ne hRp.symm, upd_same, List.map_reverse]
end
theorem dpIntsG {K : PySem.W.Frag} {H : Hp} : ∀ cs : List Int, DpAll K H (cs.map V.int) (cs.map PyData.int)
  | [] => .nil
  | c :: cs => .cons (.int c) (dpIntsG cs)
theorem lay_ints : ∀ cs : List Int, PyData.canLayAll0 (cs.map PyData.int) = true
  | [] => by simp [PyData.canLayAll0]
  | c :: cs => by simp [PyData.canLayAll0, PyData.canLay0, lay_ints cs]
theorem depth_ints : ∀ cs : List Int, PyData.depthAll (cs.map PyData.int) = 0
  | [] => by simp [PyData.depthAll]
  | c :: cs => by simp [PyData.depthAll, PyData.depth, depth_ints cs]
theorem shaped_ints (cs : List Int) : SeqAt.shaped (.list (cs.map PyData.int)) = true := by
  simp [SeqAt.shaped, PyData.canLay0, PyData.depth, lay_ints, depth_ints]
theorem dget {H : Hp} {a : Addr} {kvs : List (Key × V)} {k : Key} {v : V} (e : H a = some (.dK kvs)) (h : valV kvs k = some v) : DGet H a (kV k) (some v) := h ▸ DGet.k e
theorem ne_nil_ints (cs : List Int) : (!PyData.eqv (.list (cs.map PyData.int)) (.list [])) = decide (cs ≠ []) := by
  cases cs <;> simp [PyData.eqv, PyData.eqvAll]
section
variable {P : Program} {w : World} {K : PySem.W.Frag} {mg : Str → Option Value} {base : Heap} 
def spDraw : Sp := fun vs H Q _ => ∃ (p c : Addr) (n : Int), vs = [.ref p, .int n] ∧ Dk p c H ∧ 1 ≤ n ∧ n ≤ 1000000000 ∧ ∀ (r : Nat) H', (r : Int) < n → Gx p c H H' → Q (.int (r : Int)) H'
theorem nat_mod {x n : Int} (h : 1 ≤ n) : ∃ r : Nat, x % n = (r : Int) ∧ (r : Int) < n := by
  refine ⟨(x % n).toNat, ?_, ?_⟩
  · have := Int.emod_nonneg x (by omega : n ≠ 0)
    omega
  · have h1 := Int.emod_nonneg x (by omega : n ≠ 0)
    have h2 := Int.emod_lt_of_pos x (by omega : 0 < n)
    omega
theorem ok_draw {f : Addr} {fd : FuncData} (F : Fn K mg "_law_draw" s__law_draw ["_law_deck_here", "_law_many"] f fd) (B : Blt mg) : FnOk P w K mg base CX0 1 f fd ["_law_deck_here", "_law_many"] spDraw := by
  refine F.F.ok sc__law_draw (fun vs H Q E h => ?_) (fun cdv A outer s H vs Q E hr h => ?_)
  · obtain ⟨p, c, n, rfl, _⟩ := h
    rfl
  · obtain ⟨p, c, n, rfl, dk, n1, n2, q⟩ := h
    have hu := hu_of hr
    refine ⟨_, (pss_cons (ps_dput hu (pv 0) pe_str (pe_op op_add (pe_dget hu (pv 0) pe_str (fun _ _ => rfl)) pe_int) rfl)
      (pss_cons (ps_set (i := 2) sc__law_draw.nd rfl (.inl rfl) (pe_op op_add (pe_dget hu (pv 0) pe_str (fun _ _ => rfl)) (pe_op op_mul pe_int (pe_dget hu (pv 0) pe_str (fun _ _ => rfl)))))
      (C8.pss_cut (ps_if (pt_cmpR (op_neD hr.units) (pe_dget hu (pv 0) pe_str (fun _ _ => rfl)) (pe_lst pa_nil) (nomark _))
      (pss_cons (ps_set (i := 3) sc__law_draw.nd rfl (.inl rfl) (pe_bm0 PySem.F.plainAttrs_list PySem.F.slot_list_pop PySem.F.type_list_pop mt_pop (pe_dget hu (pv 0) pe_str (fun _ _ => rfl))))
        (pss_cons (ps_if (pt_cmpR op_ge (pv 3) (pe_op op_pow pe_int pe_int) (nomark _))
        (pss_cons (ps_expr (pe_bm PySem.F.plainAttrs_list PySem.F.slot_list_append PySem.F.type_list_append mt_append (pe_dget hu (pv 0) pe_str (fun _ _ => rfl)) (pa_cons (pe_op op_fdiv (pv 3) (pe_callB (call_max2 rfl) (by rfl) B.n_max (by decide +kernel) (pa_cons pe_int (pa_cons (pv 1) pa_nil)))) pa_nil)))
          (pss_one (ps_ret (pe_op op_mod (pe_callTy call_int1 (by rfl) B.n_int (by decide +kernel) (pa_cons (pv 3) pa_nil)) (pv 1)))))
        pss_nil)
        (pss_one (ps_set (i := 2) sc__law_draw.nd rfl (.inl rfl) (pe_op op_add (pv 2) (pe_op op_mod (pe_callTy call_int1 (by rfl) B.n_int (by decide +kernel) (pa_cons (pv 3) pa_nil)) pe_int))))))
      pss_nil)
      (pss_cons (ps_set (i := 2) sc__law_draw.nd rfl (.inl rfl) (pe_op op_mod (pe_callTy call_int1 (by rfl) B.n_int (by decide +kernel) (pa_cons (pe_op op_add (pe_op op_mul (pv 2) pe_int) pe_int) pa_nil)) pe_int))
      (pss_cons (ps_set (i := 2) sc__law_draw.nd rfl (.inl rfl) (pe_op op_mod (pe_callTy call_int1 (by rfl) B.n_int (by decide +kernel) (pa_cons (pe_op op_add (pe_op op_add (pe_op op_mul (pv 2) (pv 2)) (pe_op op_mul pe_int (pe_dget hu (pv 0) pe_str (fun _ _ => rfl)))) pe_int) pa_nil)) pe_int))
      (pss_cons (ps_set (i := 2) sc__law_draw.nd rfl (.inl rfl) (pe_op op_mod (pe_callTy call_int1 (by rfl) B.n_int (by decide +kernel) (pa_cons (pe_op op_mul (pv 2) pe_int) pa_nil)) pe_int))
      (pss_one (ps_ret (pe_op op_mod (pe_callTy call_int1 (by rfl) B.n_int (by decide +kernel) (pa_cons (pe_op op_fdiv (pv 2) pe_int) pa_nil)) (pv 1)))))))))), ?_⟩
    obtain ⟨m, t, cs, h1, h2, h3⟩ := id dk
    have fin : ∀ (x : Int) (H2 : Hp), Gx p c H H2 → Q (.int (x % n)) H2 := by
      intro x H2 g
      obtain ⟨r, er, hr'⟩ := nat_mod (x := x) n1
      rw [er]
      exact q r H2 hr' g
    have npc : p ≠ c := ne_of h1 h2 (by intro z; cases z)
    -- turn
    refine ⟨_, rfl, p, _, rfl, dget (k := kT) h1 v_T, _, _, rfl, rfl, _, rfl, p, _, rfl, DPut.k (k := kT) h1 (by rw [sizeLine_eq]; show 3 < _; decide), ?_⟩
    rw [put_T]
    have g1 : Gx p c H (upd H p (.dK (dkL c m (t + 1)))) := ⟨fun b o b1 _ e => by rw [upd_ne b1]; exact e, ⟨m, t + 1, cs, upd_same, by rw [upd_ne npc.symm]; exact h2, h3⟩⟩
    generalize upd H p (.dK (dkL c m (t + 1))) = H1 at g1
    obtain ⟨m1, t1, cs1, k1, k2, k3⟩ := g1.2
    -- the figure
    refine ⟨_, rfl, p, _, rfl, dget (k := kM) k1 v_M, _, rfl, p, _, rfl, dget (k := kT) k1 v_T, _, _, rfl, rfl, .inl ⟨by decide, by decide⟩, _, _, rfl, rfl, ?_⟩
    refine ⟨fun σ H' => ∃ (fig : Int) (x3 : Option V), σ = [some (.ref p), some (.int n), some (.int fig), x3] ∧ Gx p c H H', ?_, ?_⟩
    · refine ⟨_, rfl, p, _, rfl, dget (k := kC) k1 v_C, Nat.zero_le _, fun z hz => ?_⟩
      have dk1 : Dk p c H1 := g1.2
      have nz := dk1.ne hz
      have k1' : upd H1 z (.lst []) p = some (.dK (dkL c m1 t1)) := by rw [upd_ne nz.1.symm]; exact k1
      have k2' : upd H1 z (.lst []) c = some (.lst (cs1.map V.int)) := by rw [upd_ne nz.2.symm]; exact k2
      have g2 : Gx p c H (upd H1 z (.lst [])) := g1.trans (Gx.new dk1 hz)
      refine ⟨.list (cs1.map .int), .list [], .lst (SqL.of k2') (dpIntsG cs1), .lst (SqL.of upd_same) .nil, shaped_ints cs1, shaped_ints [], _, rfl, ?_⟩
      rw [ne_nil_ints]
      refine ite2 (fun h => ?_) (fun h => ?_)
      · have hne : cs1 ≠ [] := of_decide_eq_true h
        obtain ⟨ini, cell, rfl⟩ : ∃ ini cell, cs1 = ini ++ [cell] := ⟨_, _, (List.dropLast_concat_getLast hne).symm⟩
        refine ⟨_, rfl, p, _, rfl, dget (k := kC) k1' v_C, .inl ⟨rfl, _, SqL.of k2'⟩, c, _, .int cell, rfl, rfl, k2', by simp, ?_⟩
        have ed : ((ini ++ [cell]).map V.int).dropLast = ini.map V.int := by simp
        rw [ed]
        rw [List.length_append, List.length_singleton] at k3
        have k1'' : upd (upd H1 z (.lst [])) c (.lst (ini.map V.int)) p = some (.dK (dkL c m1 t1)) := by rw [upd_ne npc]; exact k1'
        have putc : ∀ (xs : List Int) (H2 : Hp), (∀ b, b ≠ c → H2 b = upd H1 z (.lst []) b) → xs.length ≤ 63 → Gx p c H (upd H2 c (.lst (xs.map V.int))) := by
          intro xs H2 hb hx
          refine ⟨fun b o b1 b2 e => ?_, ⟨m1, t1, xs, ?_, upd_same, hx⟩⟩
          · rw [upd_ne b2, hb b b2]
            exact g2.1 b o b1 b2 e
          · rw [upd_ne npc, hb p npc]
            exact k1'
        refine ⟨_, rfl, _, _, rfl, rfl, ⟨by decide, by decide, by decide⟩, _, _, rfl, rfl, _, rfl, ?_⟩
        refine ite2 (fun h => ?_) (fun h => ?_)
        · refine ⟨_, rfl, p, _, rfl, dget (k := kC) k1'' v_C, .inl ⟨rfl, _, SqL.of upd_same⟩, _, rfl, _, rfl, 2, n, rfl, _, _, rfl, rfl, ?_, c, _, _, rfl, rfl, upd_same, ?_, ?_⟩
          · show (0 : Int) < (if n > 2 then n else 2) ∧ (if n > 2 then n else 2) < 1073741824
            split <;> omega
          · rw [List.length_map, sizeLine_eq]; omega
          refine ⟨_, rfl, .inl ⟨_, rfl, _, rfl, _, _, rfl, rfl, (by show (0 : Int) < n; omega), ?_⟩⟩
          refine fin cell _ ?_
          have e2 : ini.map V.int ++ [V.int (cell / (if n > 2 then n else 2))] = (ini ++ [cell / (if n > 2 then n else 2)]).map V.int := by simp
          show Gx p c H (upd _ c (.lst (ini.map V.int ++ [V.int (cell / (if n > 2 then n else 2))])))
          rw [e2]
          exact putc _ _ (fun b hb => by rw [upd_ne hb]) (by simp; omega)
        · refine ⟨_, rfl, _, rfl, .inl ⟨_, rfl, _, _, rfl, rfl, (by show (0 : Int) < 2147483587; decide), _, _, rfl, rfl, _, _, rfl, putc _ _ (fun b hb => rfl) (by omega)⟩⟩
      · exact ⟨_, _, rfl, g2⟩
    · rintro σ H2 ⟨fig, x3, rfl, g2⟩
      obtain ⟨m2, t2, cs2, j1, j2, j3⟩ := g2.2
      refine ⟨_, rfl, _, _, rfl, rfl, .inr ⟨by decide, by decide⟩, _, _, rfl, rfl, .inl ⟨_, rfl, _, _, rfl, rfl, (by show (0 : Int) < 2147483563; decide), ?_⟩⟩
      have b1 := Int.emod_nonneg (fig * 40014 + 23) (by decide : (2147483563 : Int) ≠ 0)
      have b2 := Int.emod_lt_of_pos (fig * 40014 + 23) (by decide : (0 : Int) < 2147483563)
      generalize (fig * 40014 + 23) % 2147483563 = f1 at b1 b2
      refine ⟨_, rfl, _, rfl, _, _, rfl, rfl, .inl ⟨by omega, by omega⟩, _, rfl, p, _, rfl, dget (k := kT) j1 v_T, _, _, rfl, rfl, .inl ⟨by decide, by decide⟩, _, _, rfl, rfl, _, _, rfl, rfl, .inl ⟨_, rfl, _, _, rfl, rfl, (by show (0 : Int) < 2147483399; decide), ?_⟩⟩
      refine ⟨_, rfl, _, _, rfl, rfl, .inr ⟨by decide, by decide⟩, .inl ⟨_, rfl, _, _, rfl, rfl, (by show (0 : Int) < 2147483647; decide), ?_⟩⟩
      refine ⟨_, rfl, _, _, rfl, rfl, ⟨by decide, by decide⟩, .inl ⟨_, rfl, _, rfl, _, _, rfl, rfl, (by show (0 : Int) < n; omega), ?_⟩⟩
      exact fin _ H2 g2
/-- _law_pick: any item of a list that the deck is not, any sign of a text -/
def spPick : Sp := fun vs H Q _ => ∃ (p c : Addr) (v : V), vs = [.ref p, v] ∧ Dk p c H ∧
  ((∃ (a : Addr) (xs : List V), v = .ref a ∧ At p c H a (.lst xs) ∧ 1 ≤ xs.length ∧ xs.length ≤ 100000 ∧ ∀ (r : Nat) x H', xs[r]? = some x → Gx p c H H' → Q x H') ∨
   ∃ z : List Nat, v = .str (S z) ∧ 1 ≤ z.length ∧ z.length ≤ 1000 ∧ ∀ (r : Nat) d H', z[r]? = some d → Gx p c H H' → Q (.str (S [d])) H')
theorem ok_pick {f f1 : Addr} {fd fd1 : FuncData} (F : Fn K mg "_law_pick" s__law_pick ["_law_deck_here", "_law_some"] f fd) (B : Blt mg) (F__law_draw : Fn K mg "_law_draw" s__law_draw ["_law_deck_here", "_law_many"] f1 fd1) :
    FnOk P w K mg base CX0 2 f fd ["_law_deck_here", "_law_some"] spPick := by
  have G__law_draw : FnOk P w K mg base CX0 1 f1 fd1 ["_law_deck_here", "_law_many"] spDraw := ok_draw F__law_draw B
  refine F.F.ok sc__law_pick (fun vs H Q E h => ?_) (fun cdv A outer s H vs Q E hr h => ?_)
  · obtain ⟨p, c, v, rfl, _⟩ := h
    rfl
  · obtain ⟨p, c, v, rfl, dk, h⟩ := h
    refine ⟨_, (pss_one (ps_ret (pe_ix ix_seq (pv 1) (pe_call G__law_draw (hr.mono (by decide)) (by rfl) F__law_draw.g F__law_draw.F.kp F__law_draw.b .nil pass0 (pa_cons (pv 0) (pa_cons (pe_callB call_len (by rfl) B.n_len PySem.boot_len (pa_cons (pv 1) pa_nil)) pa_nil))) (fun _ _ => rfl)))), ?_⟩
    rcases h with ⟨a, xs, rfl, ha, hl1, hl2, q⟩ | ⟨z, rfl, hl1, hl2, q⟩
    · refine ⟨_, rfl, _, rfl, _, rfl, .ref a, xs.length, rfl, .inl ⟨xs, SqL.of ha.2.2, rfl⟩, p, c, _, rfl, dk, by omega, by omega, fun r H' hr' g => ?_⟩
      have hlt : r < xs.length := by omega
      exact .inl ⟨a, xs, _, _, rfl, rfl, SqL.of (ha.gx g).2.2, atI_nat (List.getElem?_eq_getElem hlt), q r _ H' (List.getElem?_eq_getElem hlt) g⟩
    · refine ⟨_, rfl, _, rfl, _, rfl, .str (S z), z.length, rfl, ⟨sz (by rw [S_len]; omega), by rw [S_len]⟩, p, c, _, rfl, dk, by omega, by omega, fun r H' hr' g => ?_⟩
      have hlt : r < z.length := by omega
      have hz : (S z).cps.toList[r]? = some z[r] := List.getElem?_eq_getElem hlt
      exact .inr (.inr ⟨S z, _, _, rfl, rfl, sz (by rw [S_len]; omega), atI_nat hz, q r _ H' (List.getElem?_eq_getElem hlt) g⟩)
end
end Ag

end
/-! ## EqL -/
section
set_option linter.all false
set_option maxRecDepth 100000
set_option maxHeartbeats 4000000
namespace Ag
open PySem PySem.Spec PyProof.Rows L2
open SX (S S_len S_cat S_inj)
open SeqAt
/-! ### any data == a text; a list == [], a list != [] -/
section
variable {A : Around} {s : Shared}
theorem rc_dictS {z : Addr} {o : Obj} {es : Array DictEntry} {e1 : Nat} (b : Str) (k : Tok) (ho : s.heap.get? z = some o) (hc : o.cls = .type "dict") (hd : o.data = .dict es e1) (hu : A.units < cLine) : RcAt A s (.ref z) (.str b k) false := by
  intro pr w E Q y
  obtain ⟨cls, q, data, sl⟩ := o
  simp only at hc hd
  subst hc hd
  refine rc_eq_decline_or (k := false) ⟨_, ho, rfl⟩ (typeIs_str s b k) (by decide) F.sub_str_dict F.slot_dict_eq F.slot_str_eq_refl ?_ ?_ ?_ (.inr hu) y
  · exact fun _ hq => call_meets F.slot_dict_eq ⟨_, ho, rfl⟩ F.entry_dict_eq (F.args_dict_eq_2 _ _) (dctS z es e1 q sl b k) ⟨ho, hq⟩
  · exact fun _ hq => call_meets F.slot_str_eq_refl (typeIs_str s b k) F.entry_str_eq (F.args_str_eq_2 _ _) (strD b k z es e1 q sl) ⟨ho, hq⟩
  · exact fun _ hq => wpAny_of_eq (rfl : isSame (.ref z) (.str b k) = pure false) hq
end
section
variable {X : Cx}
/-- any data == a text -/
def eqDS (b : Str) : PyData → Bool
  | .str x => x == b
  | _ => false
def rEqS : R2 := fun x y H Q => ∃ p c d b, Dg p c H x d ∧ y = .str b ∧ Q (.bl (eqDS b d)) H
theorem op_eqSA (hu : X.A.units + 64 < cLine) : OpR X (compareOp .Eq) rEqS := by
  intro pins s σ H x y v u Q I rx ry h
  obtain ⟨p, c, d, b, hd, rfl, q⟩ := h
  obtain ⟨k, rfl⟩ := ry
  have hu0 : X.A.units < cLine := by omega
  cases hd with
  | non => cases rx; exact RcAt.none_str b k _ _ _ _ ⟨.bl _, H, I, rfl, q⟩
  | bl i => cases rx; exact RcAt.bool_str i b k _ _ _ _ ⟨.bl _, H, I, rfl, q⟩
  | int i => obtain ⟨t, rfl⟩ := rx; exact RcAt.int_str i t b k _ _ _ _ ⟨.bl _, H, I, rfl, q⟩
  | str z => obtain ⟨t, rfl⟩ := rx; exact RcAt.str_str z t b k _ _ _ _ ⟨.bl _, H, I, rfl, q⟩
  | lst e _ =>
    cases rx
    obtain ⟨its2, rv2, hL, _⟩ := I.list (SqL.of e.2.2)
    exact RcAt.list_str b k hL.isList hu0 _ _ _ _ ⟨.bl _, H, I, rfl, q⟩
  | tup e _ =>
    cases rx
    obtain ⟨its2, rv2, hL, _⟩ := I.tuple (SqT.of e.2.2)
    exact RcAt.tuple_str b k hL hu0 _ _ _ _ ⟨.bl _, H, I, rfl, q⟩
  | dic e _ =>
    cases rx
    obtain ⟨_, _, vs, _, o, es, ep, ho, hex, hdt, _⟩ := I.hok _ _ e.2.2
    exact rc_dictS b k ho hex.1 hdt hu0 _ _ _ _ ⟨.bl _, H, I, rfl, q⟩
/-- a list == [], a list != [] -/
def rEqL0 : R2 := fun x y H Q => ∃ a xs t, x = .ref a ∧ H a = some (.lst xs) ∧ y = .ref t ∧ H t = some (.lst []) ∧ Q (.bl (decide (xs = []))) H
def rNeL0 : R2 := fun x y H Q => ∃ a xs t, x = .ref a ∧ H a = some (.lst xs) ∧ y = .ref t ∧ H t = some (.lst []) ∧ Q (.bl (!decide (xs = []))) H
theorem op_eqL0 (hu : X.A.units + 64 < cLine) : OpR X (compareOp .Eq) rEqL0 := by
  intro pins s σ H x y v u Q I rx ry h
  obtain ⟨a, xs, t, rfl, ha, rfl, ht, q⟩ := h
  cases rx
  cases ry
  have hu0 : X.A.units < cLine := by omega
  obtain ⟨its, rv, hT, _⟩ := I.list (SqL.of ht)
  cases rv
  obtain ⟨its2, rv2, hT2, _⟩ := I.list (SqL.of ha)
  cases rv2 with
  | nil => exact RcAt.lists (e := fun _ => true) hT2.isList hT.isList rfl hu0 (fun j h1 _ => by simp at h1) _ _ _ _ ⟨.bl _, H, I, rfl, q⟩
  | cons h1 h2 => exact RcAt.lists_lengths hT2.isList hT.isList (by simp) hu0 _ _ _ _ ⟨.bl _, H, I, rfl, q⟩
theorem op_neL0 (hu : X.A.units + 64 < cLine) : OpR X (compareOp .NotEq) rNeL0 := by
  intro pins s σ H x y v u Q I rx ry h
  obtain ⟨a, xs, t, rfl, ha, rfl, ht, q⟩ := h
  cases rx
  cases ry
  have hu0 : X.A.units < cLine := by omega
  obtain ⟨its, rv, hT, _⟩ := I.list (SqL.of ht)
  cases rv
  obtain ⟨its2, rv2, hT2, _⟩ := I.list (SqL.of ha)
  cases rv2 with
  | nil => exact RcNeAt.lists (e := fun _ => true) hT2.isList hT.isList rfl hu0 (fun j h1 _ => by simp at h1) _ _ _ _ ⟨.bl _, H, I, rfl, q⟩
  | cons h1 h2 => exact RcNeAt.lists_lengths hT2.isList hT.isList (by simp) hu0 _ _ _ _ ⟨.bl _, H, I, rfl, q⟩
end
end Ag

end
/-! ## Z5 -/
section
set_option linter.all false
set_option maxRecDepth 100000
set_option maxHeartbeats 4000000
namespace Ag
open PySem PySem.Spec PyProof.Rows L2
open SX (S S_len S_cat S_inj)
/-! ### the law's own looks -/
def tupN (n : Nat) : PyData → Bool
  | .tuple xs => decide (xs.length = n)
  | _ => false
theorem ix_tupK {X : Cx} (K : PySem.W.Frag) (hK : X.K = K) : IxR X (rIxT K) := by
  subst hK
  exact ix_tup
section
variable {P : Program} {w : World} {K : PySem.W.Frag} {mg : Str → Option Value} {base : Heap}
def spLInt : Sp := fun vs H Q _ => ∃ p c v d lo hi, vs = [v, .int lo, .int hi] ∧ Dg p c H v d ∧ Q (.bl (wholeB lo hi d)) H
theorem ok_lint {f : Addr} {fd : FuncData} (F : Fn K mg "_law_is_int" s__law_is_int ["_law_thing", "_law_low", "_law_high"] f fd) (B : Blt mg) : FnOk P w K mg base CX0 1 f fd ["_law_thing", "_law_low", "_law_high"] spLInt := by
  refine F.F.ok sc__law_is_int (fun vs H Q E h => ?_) (fun cdv A outer s H vs Q E hr h => ?_)
  · obtain ⟨p, c, x, d, lo, hi, rfl, _⟩ := h
    rfl
  · obtain ⟨p, c, x, d, lo, hi, rfl, hd, q⟩ := h
    refine ⟨_, (pss_one (ps_ret (pe_and (pe_callB call_isi (by rfl) B.n_isinstance (by decide +kernel) (pa_cons (pv 0) (pa_cons (pe_bltn (v := .ty "int") (by rfl) B.n_int (by decide +kernel) rfl) pa_nil))) (pe_and (pe_not (pe_callB call_isi (by rfl) B.n_isinstance (by decide +kernel) (pa_cons (pv 0) (pa_cons (pe_bltn (v := .ty "bool") (by rfl) B.n_bool (by decide +kernel) rfl) pa_nil)))) (pe_one (pe_chain op_le op_le (pv 1) (pv 0) (pv 2))))))), ?_⟩
    refine ⟨x, rfl, x, .ty "int", _, _, _, rfl, .ty "int", hd.tyx, isi_I d, _, rfl, ite2 (fun h => ?_) (fun h => ?_)⟩
    · refine ⟨_, rfl, x, .ty "bool", _, _, _, rfl, .ty "bool", hd.tyx, isi_B d, _, rfl, _, rfl, ?_⟩
      cases hd with
      | int i =>
        refine iteT ⟨_, rfl, _, rfl, _, _, rfl, rfl, _, rfl, ?_⟩
        simp only [wholeB] at q
        refine ite2 (fun h1 => ?_) (fun h1 => ?_)
        · rw [h1, Bool.true_and] at q
          exact ⟨_, rfl, _, _, rfl, rfl, q⟩
        · rw [Bool.eq_false_iff.mpr h1, Bool.false_and] at q
          exact q
      | bl b => exact iteF q
      | _ => exact absurd h (by simp [isI])
    · cases d <;> first | exact q | exact absurd rfl h
def spLTup : Sp := fun vs H Q _ => ∃ p c v d, ∃ n : Nat, vs = [v, .int n] ∧ Dg p c H v d ∧ Q (.bl (tupN n d)) H
theorem ok_ltup {f : Addr} {fd : FuncData} (F : Fn K mg "_law_is_tuple" s__law_is_tuple ["_law_thing", "_law_many"] f fd) (B : Blt mg) : FnOk P w K mg base CX0 1 f fd ["_law_thing", "_law_many"] spLTup := by
  refine F.F.ok sc__law_is_tuple (fun vs H Q E h => ?_) (fun cdv A outer s H vs Q E hr h => ?_)
  · obtain ⟨p, c, x, d, n, rfl, _⟩ := h
    rfl
  · obtain ⟨p, c, x, d, n, rfl, hd, q⟩ := h
    refine ⟨_, (pss_one (ps_ret (pe_and (pe_callB call_isi (by rfl) B.n_isinstance (by decide +kernel) (pa_cons (pv 0) (pa_cons (pe_bltn (v := .ty "tuple") (by rfl) B.n_tuple (by decide +kernel) rfl) pa_nil))) (pe_one (pe_cmpR op_eq (pe_callB call_len_seq (by rfl) B.n_len PySem.boot_len (pa_cons (pv 0) pa_nil)) (pv 1) (nomark _)))))), ?_⟩
    refine ⟨x, rfl, x, .ty "tuple", _, _, _, rfl, .ty "tuple", hd.tyx, isi_T d, _, rfl, ?_⟩
    cases hd with
    | @tup a xs ds ha hA =>
      refine iteT ⟨_, rfl, a, xs, rfl, .inr (SqT.of ha.2.2), _, rfl, rfl, ?_⟩
      have e : decide (V.int (xs.length : Nat) = V.int (n : Nat)) = decide (ds.length = n) := by
        rw [hA.len, Bool.eq_iff_iff, decide_eq_true_eq, decide_eq_true_eq]
        constructor
        · intro h
          injection h with h
          omega
        · rintro rfl
          rfl
      rw [e]
      exact q
    | _ => exact iteF q
def spLRule : Sp := fun vs H Q _ => ∃ p c v d, vs = [v] ∧ Dg p c H v d ∧ ∀ H', Same H H' → Q (.bl (ruleB d)) H'
theorem ok_lrule {f f1 f2 : Addr} {fd fd1 fd2 : FuncData} (F : Fn K mg "_law_is_rule" s__law_is_rule ["_law_thing"] f fd) (B : Blt mg) (F__law_is_tuple : Fn K mg "_law_is_tuple" s__law_is_tuple ["_law_thing", "_law_many"] f1 fd1)
    (F__law_is_int : Fn K mg "_law_is_int" s__law_is_int ["_law_thing", "_law_low", "_law_high"] f2 fd2) : FnOk P w K mg base CX0 2 f fd ["_law_thing"] spLRule := by
  have G__law_is_tuple : FnOk P w K mg base CX0 1 f1 fd1 ["_law_thing", "_law_many"] spLTup := ok_ltup F__law_is_tuple B
  have G__law_is_int : FnOk P w K mg base CX0 1 f2 fd2 ["_law_thing", "_law_low", "_law_high"] spLInt := ok_lint F__law_is_int B
  refine F.F.ok sc__law_is_rule (fun vs H Q E h => ?_) (fun cdv A outer s H vs Q E hr h => ?_)
  · obtain ⟨p, c, v, d, rfl, _⟩ := h
    rfl
  · obtain ⟨p, c, x, d, rfl, hd, q⟩ := h
    refine ⟨_, (pss_cons (ps_if (PW.pt (pw_or (pt_not (pt_val (pe_call G__law_is_tuple (hr.mono (by decide)) (by rfl) F__law_is_tuple.g F__law_is_tuple.F.kp F__law_is_tuple.b .nil pass0 (pa_cons (pv 0) (pa_cons pe_int pa_nil))))) (pw_or1 (pt_cmpR (op_neL0 hr.units) (pe_lc (own := [("_law_one", 1)]) rfl sc__law_is_rule.nd (pi_tup (pv 0)) (blkOk_by (N := N__law_is_rule) (sc := defScope s__law_is_rule) (by decide +kernel)) (fun _ _ _ _ _ => (pg_name (i := 1) sc__law_is_rule.nd rfl (Or.inl rfl))) (fun _ _ _ _ _ => (pts_one (pt_not (pt_val (pe_call G__law_is_int (hr.mono (by decide)) (by rfl) F__law_is_int.g F__law_is_int.F.kp F__law_is_int.b .nil pass0 (pa_cons (pv 1) (pa_cons pe_int (pa_cons pe_int pa_nil)))))))) (fun _ _ _ _ _ => (pv 1))) (pe_lst pa_nil) (nomark _)))))
      (pss_one (ps_ret pe_bl))
      pss_nil)
      (pss_one (ps_ret (pe_cmpR op_le (pe_ix ix_tup (pv 0) pe_int (fun _ _ => rfl)) (pe_ix ix_tup (pv 0) pe_int (fun _ _ => rfl)) (nomark _))))), ?_⟩
    refine ⟨_, rfl, p, c, x, d, 4, rfl, hd, _, rfl, ?_⟩
    by_cases h4 : tupN 4 d = true
    · cases hd with
      | @tup a xs ds at_ da =>
        have h44 : ds.length = 4 := of_decide_eq_true h4
        obtain ⟨v1, v2, v3, v4, d1, d2, d3, d4, rfl, rfl, k1, k2, k3, k4⟩ := da.four (by rw [da.len]; exact h44)
        refine iteF ⟨_, rfl, a, rfl, ⟨_, SqT.of at_.2.2⟩, fun D hD => ?_⟩
        refine lc_fails (K := K) (wholeB 1 99) da at_.2.2 (by show 4 ≤ 16000000; decide) hD (fun y d H2 k k0 _ dd s1 hk hk0 => ⟨rfl, _, rfl, p, c, y, d, 1, 99, rfl, dd, _, rfl, ?_⟩) fun H2 L s2 h2 eL => ?_
        · cases ht : wholeB 1 99 d with
          | false => exact iteT ⟨_, rfl, hk ht _ (Same.refl _)⟩
          | true => exact iteF (hk0 ht _ (Same.refl _))
        · refine ⟨Nat.zero_le _, fun t0 ht0 => ?_⟩
          have s3 := same_new (o := .lst []) ht0
          refine ⟨D, _, t0, rfl, s3 _ _ h2, rfl, upd_same, _, rfl, ?_⟩
          rw [eL]
          have s23 := s2.trans s3
          generalize upd H2 t0 (.lst []) = H3 at s23 ⊢
          have q : ∀ H', Same H H' → Q (.bl ((wholeB 1 99 d1 && (wholeB 1 99 d2 && (wholeB 1 99 d3 && wholeB 1 99 d4))) && decide (asInt d3 ≤ asInt d4))) H' := q
          have eall : [d1, d2, d3, d4].all (wholeB 1 99) = (wholeB 1 99 d1 && (wholeB 1 99 d2 && (wholeB 1 99 d3 && wholeB 1 99 d4))) := by simp
          rw [eall]
          cases hall : (wholeB 1 99 d1 && (wholeB 1 99 d2 && (wholeB 1 99 d3 && wholeB 1 99 d4))) with
          | false =>
            rw [hall, Bool.false_and] at q
            exact iteT (q _ s23)
          | true =>
            rw [hall, Bool.true_and] at q
            rw [Bool.and_eq_true, Bool.and_eq_true, Bool.and_eq_true] at hall
            obtain ⟨i3, rfl, rfl, _⟩ := whole_E k3 hall.2.2.1
            obtain ⟨i4, rfl, rfl, _⟩ := whole_E k4 hall.2.2.2
            exact iteF ⟨_, rfl, a, _, _, _, rfl, rfl, SqT.of (s23 _ _ at_.2.2), atI_nat (j := 2) rfl, _, rfl, a, _, _, _, rfl, rfl, SqT.of (s23 _ _ at_.2.2), atI_nat (j := 3) rfl, _, _, rfl, rfl, q _ s23⟩
      | _ => cases h4
    · have e0 : ruleB d = false := by
        unfold ruleB
        split
        · exact absurd rfl h4
        · rfl
      rw [e0] at q
      rw [Bool.eq_false_iff.mpr h4]
      exact iteT (iteT (q _ (Same.refl _)))
end
end Ag

end
/-! ## Z6 -/
section
set_option linter.all false
set_option maxRecDepth 100000
set_option maxHeartbeats 8000000
namespace Ag
open PySem PySem.Spec PyProof.Rows L2
open SX (S S_len S_cat S_inj)
/-- ints that no look leaves behind it are far away -/
def farD : PyData → Prop
  | .tuple ds => ∀ i : Int, PyData.int i ∈ ds → i ≤ 10 ^ 60
  | _ => True
theorem mark_whole {r f i m : Nat} {a : Addr} {H : Hp} (R : Rl r f i m a H) {u : Bool} {run wait due : Int} (h : markP r f i m (mkD u run wait due)) (hf : farD (mkD u run wait due)) : wholeB 0 (10 ^ 60) (.int run) = true ∧ wholeB 0 (10 ^ 60) (.int wait) = true ∧ wholeB 0 (10 ^ 60) (.int due) = true := by
  obtain ⟨h1, h2, h3⟩ : 0 ≤ run ∧ wait ≤ due ∧ _ := h
  have f1 := hf run (by simp)
  have f2 := hf wait (by simp)
  have f3 := hf due (by simp)
  have hw : 0 ≤ wait := by
    rcases h3 with ⟨_, _, e⟩ | ⟨_, _, _, e⟩ | ⟨_, _, j, _, e⟩ <;> omega
  refine ⟨?_, ?_, ?_⟩ <;> (unfold wholeB; rw [Bool.and_eq_true, decide_eq_true_eq, decide_eq_true_eq]) <;> constructor <;> omega
theorem cut1 {v1 v2 v3 v4 : V} : cutV [v1, v2, v3, v4] (some 1) none = [v2, v3, v4] := by
  unfold cutV
  rw [HT.sIx_none, show HT.sIx ([v1, v2, v3, v4] : List V).length 0 (some 1) = min 1 ([v1, v2, v3, v4] : List V).length from HT.sIx_nat _ _ 1]
  rfl
theorem min_ofR {a b : Int} {x m : Nat} (ha : a = (x : Int) * 2) (hb : b = (m : Int)) : (if b < a then b else a) = ((min (2 * x) m : Nat) : Int) := by
  subst ha hb
  split <;> omega
section
variable {P : Program} {w : World} {K : PySem.W.Frag} {mg : Str → Option Value} {base : Heap}
def spLMark : Sp := fun vs H Q _ => ∃ p c a r f i m v d, vs = [.ref a, v] ∧ Rl r f i m a H ∧ Dg p c H v d ∧ farD d ∧ ∀ (b : Bool) H', Same H H' → (b = true ↔ markP r f i m d) → Q (.bl b) H'
theorem ok_lmark {f f1 f2 : Addr} {fd fd1 fd2 : FuncData} (F : Fn K mg "_law_is_mark" s__law_is_mark ["_law_rule", "_law_thing"] f fd) (B : Blt mg) (F__law_is_tuple : Fn K mg "_law_is_tuple" s__law_is_tuple ["_law_thing", "_law_many"] f1 fd1)
    (F__law_is_int : Fn K mg "_law_is_int" s__law_is_int ["_law_thing", "_law_low", "_law_high"] f2 fd2) : FnOk P w K mg base CX0 2 f fd ["_law_rule", "_law_thing"] spLMark := by
  have G__law_is_tuple : FnOk P w K mg base CX0 1 f1 fd1 ["_law_thing", "_law_many"] spLTup := ok_ltup F__law_is_tuple B
  have G__law_is_int : FnOk P w K mg base CX0 1 f2 fd2 ["_law_thing", "_law_low", "_law_high"] spLInt := ok_lint F__law_is_int B
  refine F.F.ok sc__law_is_mark (fun vs H Q E h => ?_) (fun cdv A outer s H vs Q E hr h => ?_)
  · obtain ⟨p, c, a, r, f', i, m, v, d, rfl, _⟩ := h
    rfl
  · obtain ⟨p, c, a, r, f', i, m, v, d, rfl, R, hd, hf, q⟩ := h
    refine ⟨_, (pss_cons (ps_asg (pv 0) (pg_tup rfl (pgs_cons (pg_name (i := 2) sc__law_is_mark.nd rfl (Or.inl rfl)) (pgs_cons (pg_name (i := 3) sc__law_is_mark.nd rfl (Or.inl rfl)) (pgs_cons (pg_name (i := 4) sc__law_is_mark.nd rfl (Or.inl rfl)) (pgs_cons (pg_name (i := 5) sc__law_is_mark.nd rfl (Or.inl rfl)) pgs_nil))))))
      (pss_cons (ps_if (PW.pt (pw_or (pt_not (pt_val (pe_call G__law_is_tuple (hr.mono (by decide)) (by rfl) F__law_is_tuple.g F__law_is_tuple.F.kp F__law_is_tuple.b .nil pass0 (pa_cons (pv 1) (pa_cons pe_int pa_nil))))) (pw_or1 (pt_not (pt_val (pe_callB call_isi (by rfl) B.n_isinstance (by decide +kernel) (pa_cons (pe_ix ix_tup (pv 1) pe_int (fun _ _ => rfl)) (pa_cons (pe_bltn (v := .ty "bool") (by rfl) B.n_bool (by decide +kernel) rfl) pa_nil))))))))
      (pss_one (ps_ret pe_bl))
      pss_nil)
      (pss_cons (ps_if (PW.pt (pw_or (pt_cmpR (op_neL0 hr.units) (pe_lc (own := [("_law_one", 8)]) rfl sc__law_is_mark.nd (pi_tup (pe_slice sl_tupA (pv 1) (po_some pe_int) po_none)) (blkOk_by (N := N__law_is_mark) (sc := defScope s__law_is_mark) (by decide +kernel)) (fun _ _ _ _ _ => (pg_name (i := 8) sc__law_is_mark.nd rfl (Or.inl rfl))) (fun _ _ _ _ _ => (pts_one (pt_not (pt_val (pe_call G__law_is_int (hr.mono (by decide)) (by rfl) F__law_is_int.g F__law_is_int.F.kp F__law_is_int.b .nil pass0 (pa_cons (pv 8) (pa_cons pe_int (pa_cons (pe_op op_pow pe_int pe_int) pa_nil)))))))) (fun _ _ _ _ _ => (pv 8))) (pe_lst pa_nil) (nomark _)) (pw_or1 (pt_cmpR op_lt (pe_ix ix_tup (pv 1) pe_int (fun _ _ => rfl)) (pe_ix ix_tup (pv 1) pe_int (fun _ _ => rfl)) (nomark _)))))
      (pss_one (ps_ret pe_bl))
      pss_nil)
      (pss_cons (ps_if (PW.pt (pw_or (pt_val (pe_ix ix_tup (pv 1) pe_int (fun _ _ => rfl))) (pw_or1 (pt_cmpR op_gt (pe_ix ix_tup (pv 1) pe_int (fun _ _ => rfl)) pe_int (nomark _)))))
      (pss_one (ps_ret (pe_and (pe_cmpR op_lt (pe_ix ix_tup (pv 1) pe_int (fun _ _ => rfl)) (pe_ifExp (pt_val (pe_ix ix_tup (pv 1) pe_int (fun _ _ => rfl))) (pv 3) (pv 2)) (nomark _)) (pe_one (pe_cmpR op_eq (pe_ix ix_tup (pv 1) pe_int (fun _ _ => rfl)) (pv 4) (nomark _))))))
      pss_nil)
      (pss_cons (ps_set (i := 6) sc__law_is_mark.nd rfl (.inl rfl) (pe_lst (pa_cons (pe_callB (call_min2 rfl) (by rfl) B.n_min (by decide +kernel) (pa_cons (pe_op op_mul (pv 4) pe_int) (pa_cons (pv 5) pa_nil))) pa_nil)))
      (pss_cons (ps_for PassesOwn.never rfl (pi_range1 (by rfl) B.n_range (pa_cons pe_int pa_nil)) (pg_name (i := 7) sc__law_is_mark.nd rfl (Or.inl rfl))
      (pss_one (ps_expr (pe_bm PySem.F.plainAttrs_list PySem.F.slot_list_append PySem.F.type_list_append mt_append (pv 6) (pa_cons (pe_callB (call_min2 rfl) (by rfl) B.n_min (by decide +kernel) (pa_cons (pe_op op_mul (pe_ix ix_list (pv 6) (pe_un un_neg pe_int) (fun _ _ => rfl)) pe_int) (pa_cons (pv 5) pa_nil))) pa_nil)))))
      (pss_one (ps_ret (pe_cmpR op_in_seq (pe_ix ix_tup (pv 1) pe_int (fun _ _ => rfl)) (pv 6) rfl))))))))), ?_⟩
    have no : ∀ (H' : Hp), Same H H' → ¬ markP r f' i m d → Q (.bl false) H' := fun H' s' h => q false H' s' ⟨fun z => (by cases z), fun z => absurd z h⟩
    refine ⟨_, rfl, a, _, rfl, SqT.of R.at_, rfl, _, _, rfl, _, _, rfl, _, _, rfl, _, _, rfl, rfl, ?_⟩
    refine ⟨_, rfl, p, c, v, d, 4, rfl, hd, _, rfl, ?_⟩
    by_cases h4 : tupN 4 d = true
    · cases hd with
      | @tup b xs ds at_ da =>
        have h44 : ds.length = 4 := of_decide_eq_true h4
        obtain ⟨v1, v2, v3, v4, d1, d2, d3, d4, rfl, rfl, k1, k2, k3, k4⟩ := da.four (by rw [da.len]; exact h44)
        refine (show (if (!tupN 4 (.tuple [d1, d2, d3, d4])) = true then _ else _) from ?_)
        refine iteF ⟨_, rfl, b, _, _, _, rfl, rfl, SqT.of at_.2.2, atI_nat (j := 0) rfl, v1, .ty "bool", _, _, _, rfl, .ty "bool", k1.tyx, isi_B' d1, _, rfl, ?_⟩
        cases hb : isBoolB d1 with
        | false => exact iteT (no _ (Same.refl _) fun z => by rw [(mark_bl z).1] at hb; cases hb)
        | true =>
        obtain ⟨u, rfl, rfl⟩ := bool_E k1 hb
        refine iteF ⟨_, rfl, _, rfl, b, _, rfl, SqT.of at_.2.2, fun z => ?_, fun _ T hT => ?_⟩
        · have z := z.1
          rw [show HT.sIx ([V.bl u, v2, v3, v4] : List V).length 0 (some 1) = min 1 ([V.bl u, v2, v3, v4] : List V).length from HT.sIx_nat _ _ 1] at z
          cases z
        rw [cut1]
        have s1 := same_new (o := .tup [v2, v3, v4]) hT
        have hT1 : upd H T (.tup [v2, v3, v4]) T = some (.tup [v2, v3, v4]) := upd_same
        generalize upd H T (.tup [v2, v3, v4]) = H1 at s1 hT1 ⊢
        have da1 : DgA p c H1 [v2, v3, v4] [d2, d3, d4] := .cons (k2.to (Kp.same s1)) (.cons (k3.to (Kp.same s1)) (.cons (k4.to (Kp.same s1)) .nil))
        refine ⟨T, rfl, ⟨_, SqT.of hT1⟩, fun D hD => ?_⟩
        refine lc_fails (K := K) (wholeB 0 (10 ^ 60)) da1 hT1 (by show 3 ≤ 16000000; decide) hD (fun y d H2 k k0 _ dd s1 hk hk0 => ⟨rfl, _, rfl, _, _, rfl, rfl, ⟨by decide, by decide, by decide⟩, p, c, y, d, 0, _, rfl, dd, _, rfl, ?_⟩) fun H2 L s2 h2 eL => ?_
        · have e : (10 : Int) ^ (60 : Int).toNat = 10 ^ 60 := rfl
          rw [e]
          cases ht : wholeB 0 (10 ^ 60) d with
          | false => exact iteT ⟨_, rfl, hk ht _ (Same.refl _)⟩
          | true => exact iteF (hk0 ht _ (Same.refl _))
        · refine ⟨Nat.zero_le _, fun t0 ht0 => ?_⟩
          have s3 := same_new (o := .lst []) ht0
          refine ⟨D, _, t0, rfl, s3 _ _ h2, rfl, upd_same, _, rfl, ?_⟩
          rw [eL]
          have s23 := (s1.trans s2).trans s3
          generalize upd H2 t0 (.lst []) = H3 at s23 ⊢
          have eall : [d2, d3, d4].all (wholeB 0 (10 ^ 60)) = (wholeB 0 (10 ^ 60) d2 && (wholeB 0 (10 ^ 60) d3 && wholeB 0 (10 ^ 60) d4)) := by simp
          rw [eall]
          cases hall : (wholeB 0 (10 ^ 60) d2 && (wholeB 0 (10 ^ 60) d3 && wholeB 0 (10 ^ 60) d4)) with
          | false =>
            refine iteT (no _ s23 fun z => ?_)
            obtain ⟨_, z2, z3, z4⟩ := mark_bl z
            obtain ⟨run, _, rfl⟩ := int_E k2 z2
            obtain ⟨wait, _, rfl⟩ := int_E k3 z3
            obtain ⟨due, _, rfl⟩ := int_E k4 z4
            obtain ⟨y1, y2, y3⟩ := mark_whole R z hf
            rw [y1, y2, y3] at hall
            cases hall
          | true =>
          rw [Bool.and_eq_true, Bool.and_eq_true] at hall
          obtain ⟨run, rfl, rfl, r0, _⟩ := whole_E k2 hall.1
          obtain ⟨wait, rfl, rfl, w0, _⟩ := whole_E k3 hall.2.1
          obtain ⟨due, rfl, rfl, _⟩ := whole_E k4 hall.2.2
          have hmk : markP r f' i m (.tuple [.bool u, .int run, .int wait, .int due]) ↔ (0 ≤ run ∧ wait ≤ due ∧ ((u = true ∧ run < f' ∧ wait = i) ∨ (u = false ∧ 0 < run ∧ run < r ∧ wait = i) ∨ (u = false ∧ run = 0 ∧ inW i m wait))) := Iff.rfl
          have hb3 := s23 _ _ at_.2.2
          refine iteF ⟨_, rfl, b, _, _, _, rfl, rfl, SqT.of hb3, atI_nat (j := 3) rfl, _, rfl, b, _, _, _, rfl, rfl, SqT.of hb3, atI_nat (j := 2) rfl, _, _, rfl, rfl, _, rfl, ?_⟩
          refine ite2 (fun z => ?_) (fun z => ?_)
          · have z := of_decide_eq_true z
            exact no _ s23 fun y => by have := (hmk.mp y).2.1; omega
          have hdue : wait ≤ due := by
            have := of_decide_eq_false (Bool.eq_false_iff.mpr z)
            omega
          refine ⟨_, rfl, b, _, _, _, rfl, rfl, SqT.of hb3, atI_nat (j := 0) rfl, u, rfl, ?_⟩
          cases u with
          | true =>
            refine iteT (iteT ⟨_, rfl, b, _, _, _, rfl, rfl, SqT.of hb3, atI_nat (j := 1) rfl, _, rfl, b, _, _, _, rfl, rfl, SqT.of hb3, atI_nat (j := 0) rfl, true, rfl, iteT ⟨_, rfl, _, _, rfl, rfl, _, rfl, ?_⟩⟩)
            refine ite2 (fun z => ?_) (fun z => ?_)
            · have z := of_decide_eq_true z
              refine ⟨_, rfl, b, _, _, _, rfl, rfl, SqT.of hb3, atI_nat (j := 2) rfl, _, rfl, rfl, q _ _ s23 ?_⟩
              rw [decide_eq_true_eq, hmk]
              exact ⟨fun e => ⟨r0, hdue, .inl ⟨rfl, z, V.int.inj e⟩⟩, fun ⟨_, _, y⟩ => by
                rcases y with ⟨_, _, y⟩ | ⟨y, _⟩ | ⟨y, _⟩
                · rw [y]
                · cases y
                · cases y⟩
            · have z := of_decide_eq_false (Bool.eq_false_iff.mpr z)
              refine no _ s23 fun y => ?_
              rcases (hmk.mp y).2.2 with ⟨_, y, _⟩ | ⟨y, _⟩ | ⟨y, _⟩
              · exact z y
              · cases y
              · cases y
          | false =>
            refine iteF ⟨_, rfl, b, _, _, _, rfl, rfl, SqT.of hb3, atI_nat (j := 1) rfl, _, _, rfl, rfl, _, rfl, ?_⟩
            refine ite2 (fun z => ?_) (fun z => ?_)
            · have z := of_decide_eq_true z
              refine ⟨_, rfl, b, _, _, _, rfl, rfl, SqT.of hb3, atI_nat (j := 1) rfl, _, rfl, b, _, _, _, rfl, rfl, SqT.of hb3, atI_nat (j := 0) rfl, false, rfl, iteF ⟨_, rfl, _, _, rfl, rfl, _, rfl, ?_⟩⟩
              refine ite2 (fun z2 => ?_) (fun z2 => ?_)
              · have z2 := of_decide_eq_true z2
                refine ⟨_, rfl, b, _, _, _, rfl, rfl, SqT.of hb3, atI_nat (j := 2) rfl, _, rfl, rfl, q _ _ s23 ?_⟩
                rw [decide_eq_true_eq, hmk]
                exact ⟨fun e => ⟨r0, hdue, .inr (.inl ⟨rfl, z, z2, V.int.inj e⟩)⟩, fun ⟨_, _, y⟩ => by
                  rcases y with ⟨y, _⟩ | ⟨_, _, _, y⟩ | ⟨_, y, _⟩
                  · cases y
                  · rw [y]
                  · omega⟩
              · have z2 := of_decide_eq_false (Bool.eq_false_iff.mpr z2)
                refine no _ s23 fun y => ?_
                rcases (hmk.mp y).2.2 with ⟨y, _⟩ | ⟨_, _, y, _⟩ | ⟨_, y, _⟩
                · cases y
                · exact z2 y
                · omega
            · have z := of_decide_eq_false (Bool.eq_false_iff.mpr z)
              have e0 : run = 0 := by omega
              subst e0
              refine ⟨_, rfl, _, _, rfl, rfl, .inr ⟨by decide, by decide⟩, _, rfl, _, _, rfl, ?_⟩
              rw [min_ofR rfl rfl]
              refine ⟨sz (by show 1 ≤ 16000000; decide), fun L hL => ?_⟩
              have e1 : min (2 * i) m = min (i * 2 ^ 1) m := by rw [Nat.pow_one, Nat.mul_comm]
              rw [e1]
              have nL : H L = none := s23.free hL
              refine ⟨8, rfl, by decide, by decide, ?_⟩
              refine for_range (lo := 0) (n := (8 : Int).toNat) (fun k σ H' => ∃ x7, σ = [some (.ref a), some (.ref b), some (.int r), some (.int f'), some (.int i), some (.int m), some (.ref L), x7, none] ∧ Same H H' ∧ H' L = some (.lst ((dbl i m (k + 1)).map V.int))) ⟨_, rfl, s23.trans (same_new hL), upd_same⟩ ?_ ?_
              · rintro k σ H4 hk ⟨x7, rfl, s4, h4⟩
                have last : atI ((dbl i m (k + 1)).map V.int) (-1) = some (.int ((min (i * 2 ^ (k + 1)) m : Nat) : Int)) := by
                  rw [dbl_succ, List.map_append]
                  exact atI_last _ _
                refine ⟨_, rfl, .inl ⟨rfl, _, SqL.of h4⟩, _, rfl, _, rfl, L, _, _, _, rfl, rfl, SqL.of h4, last, _, _, rfl, rfl, .inr ⟨by decide, by decide⟩, _, rfl, _, _, rfl, ?_⟩
                rw [min_ofR rfl rfl, dbl_two]
                refine ⟨L, _, _, rfl, rfl, h4, ?_, _, rfl, fun b o e => ?_, ?_⟩
                · rw [List.length_map, dbl_len, sizeLine_eq]
                  have : k < 8 := hk
                  omega
                · rw [upd_ne (ne_of_none e nL)]
                  exact s4 b o e
                · rw [upd_same, dbl_succ i m (k + 1), List.map_append]
                  rfl
              · rintro σ H4 ⟨x7, rfl, s4, h4⟩
                refine ⟨_, rfl, b, _, _, _, rfl, rfl, SqT.of (s4 _ _ at_.2.2), atI_nat (j := 2) rfl, _, rfl, L, _, rfl, .inl (SqL.of h4), rfl, flat_ints _, q _ _ s4 ?_⟩
                have h9 : m ≤ i * 2 ^ 9 := by have := R.m9; have := R.i1; omega
                show inV (.int wait) ((dbl i m 9).map V.int) = true ↔ _
                rw [dbl_inW R.i1 h9 (by decide), hmk]
                exact ⟨fun e => ⟨r0, hdue, .inr (.inr ⟨rfl, rfl, e⟩)⟩, fun ⟨_, _, y⟩ => by
                  rcases y with ⟨y, _⟩ | ⟨_, y, _⟩ | ⟨_, _, y⟩
                  · cases y
                  · omega
                  · exact y⟩
      | _ => cases h4
    · have n0 : ¬ markP r f' i m d := fun z => by
        cases d with
        | tuple ds => exact h4 (decide_eq_true (mark_four z))
        | _ => exact z
      rw [Bool.eq_false_iff.mpr h4]
      exact iteT (iteT (no _ (Same.refl _) n0))
end
end Ag

end
/-! ## Z7 -/
section
set_option linter.all false
set_option maxRecDepth 100000
set_option maxHeartbeats 8000000
namespace Ag
open PySem PySem.Spec PyProof.Rows L2
open SX (S S_len S_cat S_inj)
/-- what is due -/
def bad (s : String) (d : PyData) : PyData := .tuple [.str (Str.ofString s), d]
def lkL (r f i m : Int) (u : Bool) (run wait : Int) (g : Bool) (now : Int) : List PyData :=
  [.bool (lkS r f i m u run wait g).1, .int (lkS r f i m u run wait g).2.1, .int (lkS r f i m u run wait g).2.2, .int (now + (lkS r f i m u run wait g).2.2)]
def Due (d1 d2 d3 d4 D : PyData) : Prop := (ruleB d1 = false ∧ D = bad "BadRule" d1) ∨ ∃ r f i m, d1 = rlD r f i m ∧ ruleB d1 = true ∧ ((¬ markP r f i m d2 ∧ D = bad "BadMark" d2) ∨ ∃ u run wait due, d2 = mkD u run wait due ∧ markP r f i m d2 ∧
  ((isBoolB d3 = false ∧ D = bad "BadBool" d3) ∨ ∃ g, d3 = .bool g ∧ ((nonnegB d4 = false ∧ D = bad "BadNumber" d4) ∨ ∃ now : Int, d4 = .int now ∧ 0 ≤ now ∧ D = bad "returned" (.tuple (lkL r f i m u run wait g now)))))
theorem rlD_inj {r f i m r' f' i' m' : Nat} (h : rlD r f i m = rlD r' f' i' m') : r = r' ∧ f = f' ∧ i = i' ∧ m = m' := by
  unfold rlD at h
  injection h with h
  injection h with h1 h
  injection h with h2 h
  injection h with h3 h
  injection h with h4 _
  injection h1 with h1
  injection h2 with h2
  injection h3 with h3
  injection h4 with h4
  exact ⟨Int.ofNat.inj h1, Int.ofNat.inj h2, Int.ofNat.inj h3, Int.ofNat.inj h4⟩
theorem mkD_inj {u u' : Bool} {a b c a' b' c' : Int} (h : mkD u a b c = mkD u' a' b' c') : u = u' ∧ a = a' ∧ b = b' ∧ c = c' := by
  unfold mkD at h
  injection h with h
  injection h with h1 h
  injection h with h2 h
  injection h with h3 h
  injection h with h4 _
  injection h1 with h1
  injection h2 with h2
  injection h3 with h3
  injection h4 with h4
  exact ⟨h1, h2, h3, h4⟩
theorem Due.uniq {d1 d2 d3 d4 D D' : PyData} (h : Due d1 d2 d3 d4 D) (h' : Due d1 d2 d3 d4 D') : D = D' := by
  rcases h with ⟨a1, rfl⟩ | ⟨r, f, i, m, a1, a2, h⟩ <;> rcases h' with ⟨b1, rfl⟩ | ⟨r', f', i', m', b1, b2, h'⟩
  · rfl
  · rw [a1] at b2; cases b2
  · rw [a2] at b1; cases b1
  obtain ⟨rfl, rfl, rfl, rfl⟩ := rlD_inj (a1.symm.trans b1)
  rcases h with ⟨a3, rfl⟩ | ⟨u, x, y, z, a3, a4, h⟩ <;> rcases h' with ⟨b3, rfl⟩ | ⟨u', x', y', z', b3, b4, h'⟩
  · rfl
  · exact absurd b4 a3
  · exact absurd a4 b3
  obtain ⟨rfl, rfl, rfl, rfl⟩ := mkD_inj (a3.symm.trans b3)
  rcases h with ⟨a5, rfl⟩ | ⟨g, a5, h⟩ <;> rcases h' with ⟨b5, rfl⟩ | ⟨g', b5, h'⟩
  · rfl
  · rw [b5] at a5; cases a5
  · rw [a5] at b5; cases b5
  have e := a5.symm.trans b5
  injection e with e
  subst e
  rcases h with ⟨a6, rfl⟩ | ⟨n, a6, a7, rfl⟩ <;> rcases h' with ⟨b6, rfl⟩ | ⟨n', b6, b7, rfl⟩
  · rfl
  · rw [b6] at a6; exact absurd b7 (of_decide_eq_false a6)
  · rw [a6] at b6; exact absurd a7 (of_decide_eq_false b6)
  · have e := a6.symm.trans b6
    injection e with e
    subst e
    rfl
section
variable {P : Program} {w : World} {K : PySem.W.Frag} {mg : Str → Option Value} {base : Heap}
def spLLook : Sp := fun vs H Q _ => ∃ a bb r f i m u g, ∃ run wait due now : Int, vs = [.ref a, .ref bb, .bl g, .int now] ∧ Rl r f i m a H ∧ H bb = some (.tup [.bl u, .int run, .int wait, .int due]) ∧
  ∀ t H', Same H H' → H' t = some (.tup (lkV r f i m u run wait g now)) → H t = none → Q (.ref t) H'
theorem ok_llook {f : Addr} {fd : FuncData} (F : Fn K mg "_law_looked" s__law_looked ["_law_rule", "_law_mark", "_law_is_good", "_law_now"] f fd) (B : Blt mg) : FnOk P w K mg base CX0 1 f fd ["_law_rule", "_law_mark", "_law_is_good", "_law_now"] spLLook := by
  refine F.F.ok sc__law_looked (fun vs H Q E h => ?_) (fun cdv A outer s H vs Q E hr h => ?_)
  · obtain ⟨a, bb, r, f', i, m, u, g, run, wait, due, now, rfl, _⟩ := h
    rfl
  · obtain ⟨a, bb, r, f', i, m, u, g, run, wait, due, now, rfl, R, hm, q⟩ := h
    refine ⟨_, (pss_cons (ps_asg (pv 1) (pg_tup rfl (pgs_cons (pg_name (i := 4) sc__law_looked.nd rfl (Or.inl rfl)) (pgs_cons (pg_name (i := 5) sc__law_looked.nd rfl (Or.inl rfl)) (pgs_cons (pg_name (i := 6) sc__law_looked.nd rfl (Or.inl rfl)) (pgs_cons (pg_name (i := 7) sc__law_looked.nd rfl (Or.inl rfl)) pgs_nil))))))
      (pss_cons (ps_set (i := 5) sc__law_looked.nd rfl (.inl rfl) (pe_ifExp (pt_cmpR op_eq (pv 2) (pv 4) (nomark _)) pe_int (pe_op op_add (pv 5) pe_int)))
      (C8.pss_cut (ps_if (pt_cmpR op_eq (pv 5) (pe_ifExp (pt_val (pv 4)) (pe_ix ix_tup (pv 0) pe_int (fun _ _ => rfl)) (pe_ix ix_tup (pv 0) pe_int (fun _ _ => rfl))) (nomark _))
      (pss_one (ps_par (i := 4) (j := 5) (by rfl) sc__law_looked.nd rfl rfl (by decide) rfl rfl (pa_cons (pe_not (pv 4)) (pa_cons pe_int pa_nil)) (by rfl)))
      pss_nil)
      (pss_cons (ps_set (i := 6) sc__law_looked.nd rfl (.inl rfl) (pe_ifExp (PW.pt (pw_or (pt_val (pv 2)) (pw_or1 (pt_val (pv 4))))) (pe_ix ix_tup (pv 0) pe_int (fun _ _ => rfl)) (pe_callB (call_min2 rfl) (by rfl) B.n_min (by decide +kernel) (pa_cons (pe_op op_mul pe_int (pv 6)) (pa_cons (pe_ix ix_tup (pv 0) pe_int (fun _ _ => rfl)) pa_nil)))))
      (pss_one (ps_ret (pe_tup (pa_cons (pv 4) (pa_cons (pv 5) (pa_cons (pv 6) (pa_cons (pe_op op_add (pv 3) (pv 6)) pa_nil))))))))))), ?_⟩
    have ha := R.at_
    refine ⟨_, rfl, bb, _, rfl, SqT.of hm, rfl, _, _, rfl, _, _, rfl, _, _, rfl, _, _, rfl, rfl, ?_⟩
    have fin : ∀ (u' : Bool) (run' wait' : Int), lkS r f' i m u run wait g = (u', run', wait') → ∀ t, H t = none → Q (.ref t) (upd H t (.tup [.bl u', .int run', .int wait', .int (now + wait')])) := by
      intro u' run' wait' e t ht
      refine q t _ (same_new ht) ?_ ht
      rw [upd_same]
      unfold lkV
      rw [e]
    cases g <;> cases u
    · -- g = false, u = false
      refine ⟨_, rfl, _, rfl, rfl, _, rfl, iteT ?_⟩
      refine ⟨fun σ H' => H' = H ∧ ((0 = (r : Int) ∧ σ = [some (.ref a), some (.ref bb), some (.bl false), some (.int now), some (.bl true), some (.int 0), some (.int wait), some (.int due)]) ∨ (¬ 0 = (r : Int) ∧ σ = [some (.ref a), some (.ref bb), some (.bl false), some (.int now), some (.bl false), some (.int 0), some (.int wait), some (.int due)])), ?_, ?_⟩
      · refine ⟨_, rfl, _, rfl, _, rfl, iteF ⟨_, rfl, a, _, _, _, rfl, rfl, SqT.of ha, atI_nat (j := 0) rfl, rfl, _, rfl, ?_⟩⟩
        refine ite2 (fun z => ?_) (fun z => ?_)
        · have z := of_decide_eq_true z
          have z : 0 = (r : Int) := V.int.inj z
          exact ⟨_, rfl, _, rfl, _, _, rfl, rfl, .inl ⟨z, rfl⟩⟩
        · refine ⟨rfl, .inr ⟨fun y => z (decide_eq_true ?_), rfl⟩⟩
          show V.int (0) = .int (r : Int)
          rw [y]
      · rintro σ H' ⟨rfl, ⟨e, rfl⟩ | ⟨e, rfl⟩⟩
        · refine ⟨_, rfl, false, rfl, iteF ⟨_, rfl, true, rfl, iteT ⟨_, rfl, a, _, _, _, rfl, rfl, SqT.of ha, atI_nat (j := 2) rfl, ?_⟩⟩⟩
          refine ⟨_, rfl, _, rfl, _, rfl, _, rfl, _, rfl, _, _, rfl, rfl, sz (by show 4 ≤ 16000000; decide), fun t ht => ?_⟩
          exact fin true (0) (i : Int) (by simp [lkS, lkR, lkT, lkW, e]) t ht
        · refine ⟨_, rfl, false, rfl, iteF ⟨_, rfl, false, rfl, iteF ⟨_, rfl, _, _, rfl, rfl, .inl ⟨by decide, by decide⟩, _, rfl, a, _, _, _, rfl, rfl, SqT.of ha, atI_nat (j := 3) rfl, _, _, rfl, ?_⟩⟩⟩
          refine ⟨_, rfl, _, rfl, _, rfl, _, rfl, _, rfl, _, _, rfl, rfl, sz (by show 4 ≤ 16000000; decide), fun t ht => ?_⟩
          exact fin false (0) (if (m : Int) < 2 * wait then (m : Int) else 2 * wait) (by simp [lkS, lkR, lkT, lkW, e]) t ht
    · -- g = false, u = true
      refine ⟨_, rfl, _, rfl, rfl, _, rfl, iteF ⟨_, rfl, _, _, rfl, rfl, ?_⟩⟩
      refine ⟨fun σ H' => H' = H ∧ ((run + 1 = (f' : Int) ∧ σ = [some (.ref a), some (.ref bb), some (.bl false), some (.int now), some (.bl false), some (.int 0), some (.int wait), some (.int due)]) ∨ (¬ run + 1 = (f' : Int) ∧ σ = [some (.ref a), some (.ref bb), some (.bl false), some (.int now), some (.bl true), some (.int (run + 1)), some (.int wait), some (.int due)])), ?_, ?_⟩
      · refine ⟨_, rfl, _, rfl, _, rfl, iteT ⟨_, rfl, a, _, _, _, rfl, rfl, SqT.of ha, atI_nat (j := 1) rfl, rfl, _, rfl, ?_⟩⟩
        refine ite2 (fun z => ?_) (fun z => ?_)
        · have z := of_decide_eq_true z
          have z : run + 1 = (f' : Int) := V.int.inj z
          exact ⟨_, rfl, _, rfl, _, _, rfl, rfl, .inl ⟨z, rfl⟩⟩
        · refine ⟨rfl, .inr ⟨fun y => z (decide_eq_true ?_), rfl⟩⟩
          show V.int (run + 1) = .int (f' : Int)
          rw [y]
      · rintro σ H' ⟨rfl, ⟨e, rfl⟩ | ⟨e, rfl⟩⟩
        · refine ⟨_, rfl, false, rfl, iteF ⟨_, rfl, false, rfl, iteF ⟨_, rfl, _, _, rfl, rfl, .inl ⟨by decide, by decide⟩, _, rfl, a, _, _, _, rfl, rfl, SqT.of ha, atI_nat (j := 3) rfl, _, _, rfl, ?_⟩⟩⟩
          refine ⟨_, rfl, _, rfl, _, rfl, _, rfl, _, rfl, _, _, rfl, rfl, sz (by show 4 ≤ 16000000; decide), fun t ht => ?_⟩
          exact fin false (0) (if (m : Int) < 2 * wait then (m : Int) else 2 * wait) (by simp [lkS, lkR, lkT, lkW, e]) t ht
        · refine ⟨_, rfl, false, rfl, iteF ⟨_, rfl, true, rfl, iteT ⟨_, rfl, a, _, _, _, rfl, rfl, SqT.of ha, atI_nat (j := 2) rfl, ?_⟩⟩⟩
          refine ⟨_, rfl, _, rfl, _, rfl, _, rfl, _, rfl, _, _, rfl, rfl, sz (by show 4 ≤ 16000000; decide), fun t ht => ?_⟩
          exact fin true (run + 1) (i : Int) (by simp [lkS, lkR, lkT, lkW, e]) t ht
    · -- g = true, u = false
      refine ⟨_, rfl, _, rfl, rfl, _, rfl, iteF ⟨_, rfl, _, _, rfl, rfl, ?_⟩⟩
      refine ⟨fun σ H' => H' = H ∧ ((run + 1 = (r : Int) ∧ σ = [some (.ref a), some (.ref bb), some (.bl true), some (.int now), some (.bl true), some (.int 0), some (.int wait), some (.int due)]) ∨ (¬ run + 1 = (r : Int) ∧ σ = [some (.ref a), some (.ref bb), some (.bl true), some (.int now), some (.bl false), some (.int (run + 1)), some (.int wait), some (.int due)])), ?_, ?_⟩
      · refine ⟨_, rfl, _, rfl, _, rfl, iteF ⟨_, rfl, a, _, _, _, rfl, rfl, SqT.of ha, atI_nat (j := 0) rfl, rfl, _, rfl, ?_⟩⟩
        refine ite2 (fun z => ?_) (fun z => ?_)
        · have z := of_decide_eq_true z
          have z : run + 1 = (r : Int) := V.int.inj z
          exact ⟨_, rfl, _, rfl, _, _, rfl, rfl, .inl ⟨z, rfl⟩⟩
        · refine ⟨rfl, .inr ⟨fun y => z (decide_eq_true ?_), rfl⟩⟩
          show V.int (run + 1) = .int (r : Int)
          rw [y]
      · rintro σ H' ⟨rfl, ⟨e, rfl⟩ | ⟨e, rfl⟩⟩
        · refine ⟨_, rfl, true, rfl, iteT (iteT ⟨_, rfl, a, _, _, _, rfl, rfl, SqT.of ha, atI_nat (j := 2) rfl, ?_⟩)⟩
          refine ⟨_, rfl, _, rfl, _, rfl, _, rfl, _, rfl, _, _, rfl, rfl, sz (by show 4 ≤ 16000000; decide), fun t ht => ?_⟩
          exact fin true (0) (i : Int) (by simp [lkS, lkR, lkT, lkW, e]) t ht
        · refine ⟨_, rfl, true, rfl, iteT (iteT ⟨_, rfl, a, _, _, _, rfl, rfl, SqT.of ha, atI_nat (j := 2) rfl, ?_⟩)⟩
          refine ⟨_, rfl, _, rfl, _, rfl, _, rfl, _, rfl, _, _, rfl, rfl, sz (by show 4 ≤ 16000000; decide), fun t ht => ?_⟩
          exact fin false (run + 1) (i : Int) (by simp [lkS, lkR, lkT, lkW, e]) t ht
    · -- g = true, u = true
      refine ⟨_, rfl, _, rfl, rfl, _, rfl, iteT ?_⟩
      refine ⟨fun σ H' => H' = H ∧ ((0 = (f' : Int) ∧ σ = [some (.ref a), some (.ref bb), some (.bl true), some (.int now), some (.bl false), some (.int 0), some (.int wait), some (.int due)]) ∨ (¬ 0 = (f' : Int) ∧ σ = [some (.ref a), some (.ref bb), some (.bl true), some (.int now), some (.bl true), some (.int 0), some (.int wait), some (.int due)])), ?_, ?_⟩
      · refine ⟨_, rfl, _, rfl, _, rfl, iteT ⟨_, rfl, a, _, _, _, rfl, rfl, SqT.of ha, atI_nat (j := 1) rfl, rfl, _, rfl, ?_⟩⟩
        refine ite2 (fun z => ?_) (fun z => ?_)
        · have z := of_decide_eq_true z
          have z : 0 = (f' : Int) := V.int.inj z
          exact ⟨_, rfl, _, rfl, _, _, rfl, rfl, .inl ⟨z, rfl⟩⟩
        · refine ⟨rfl, .inr ⟨fun y => z (decide_eq_true ?_), rfl⟩⟩
          show V.int (0) = .int (f' : Int)
          rw [y]
      · rintro σ H' ⟨rfl, ⟨e, rfl⟩ | ⟨e, rfl⟩⟩
        · refine ⟨_, rfl, true, rfl, iteT (iteT ⟨_, rfl, a, _, _, _, rfl, rfl, SqT.of ha, atI_nat (j := 2) rfl, ?_⟩)⟩
          refine ⟨_, rfl, _, rfl, _, rfl, _, rfl, _, rfl, _, _, rfl, rfl, sz (by show 4 ≤ 16000000; decide), fun t ht => ?_⟩
          exact fin false (0) (i : Int) (by simp [lkS, lkR, lkT, lkW, e]) t ht
        · refine ⟨_, rfl, true, rfl, iteT (iteT ⟨_, rfl, a, _, _, _, rfl, rfl, SqT.of ha, atI_nat (j := 2) rfl, ?_⟩)⟩
          refine ⟨_, rfl, _, rfl, _, rfl, _, rfl, _, rfl, _, _, rfl, rfl, sz (by show 4 ≤ 16000000; decide), fun t ht => ?_⟩
          exact fin true (0) (i : Int) (by simp [lkS, lkR, lkT, lkW, e]) t ht
def spLDue : Sp := fun vs H Q _ => ∃ p c v1 d1 v2 d2 v3 d3 v4 d4, vs = [v1, v2, v3, v4] ∧ H p ≠ none ∧ H c ≠ none ∧ Dg p c H v1 d1 ∧ Dg p c H v2 d2 ∧ Dg p c H v3 d3 ∧ Dg p c H v4 d4 ∧ farD d2 ∧ farD (.tuple [d4]) ∧ ∀ v D H', Same H H' → Due d1 d2 d3 d4 D → Dg p c H' v D → Q v H'
theorem At.newp {p c a : Addr} {H : Hp} {o : HO} (hp : H p ≠ none) (hc : H c ≠ none) (h : H a = none) : At p c (upd H a o) a o := ⟨fun e => hp (e ▸ h), fun e => hc (e ▸ h), upd_same⟩
theorem has_of {H H' : Hp} {p : Addr} (s : Same H H') (h : H p ≠ none) : H' p ≠ none := by
  cases e : H p with
  | none => exact absurd e h
  | some o => rw [s p o e]; simp
/-- ("..", v) made -/
theorem bad_dg {p c t : Addr} {H : Hp} {v : V} {d : PyData} {s : String} (hp : H p ≠ none) (hc : H c ≠ none) (hd : Dg p c H v d) (ht : H t = none) : Dg p c (upd H t (.tup [.str (Str.ofString s), v])) (.ref t) (bad s d) := .tup (.newp hp hc ht) (.cons (.str _) (.cons (hd.to (Kp.same (same_new ht))) .nil))
theorem lk_dg {p c t : Addr} {H : Hp} {r f i m : Int} {u : Bool} {run wait : Int} {g : Bool} {now : Int} (np : t ≠ p) (nc : t ≠ c) (h : H t = some (.tup (lkV r f i m u run wait g now))) : Dg p c H (.ref t) (.tuple (lkL r f i m u run wait g now)) := .tup ⟨np, nc, h⟩ (.cons (.bl _) (.cons (.int _) (.cons (.int _) (.cons (.int _) .nil))))
theorem ok_ldue {f f1 f2 f3 f4 : Addr} {fd fd1 fd2 fd3 fd4 : FuncData} (F : Fn K mg "_law_due" s__law_due ["_law_rule", "_law_mark", "_law_is_good", "_law_now"] f fd) (B : Blt mg) (F__law_is_rule : Fn K mg "_law_is_rule" s__law_is_rule ["_law_thing"] f1 fd1) (G__law_is_rule : FnOk P w K mg base CX0 2 f1 fd1 ["_law_thing"] spLRule)
    (F__law_is_mark : Fn K mg "_law_is_mark" s__law_is_mark ["_law_rule", "_law_thing"] f2 fd2) (G__law_is_mark : FnOk P w K mg base CX0 2 f2 fd2 ["_law_rule", "_law_thing"] spLMark) (F__law_is_int : Fn K mg "_law_is_int" s__law_is_int ["_law_thing", "_law_low", "_law_high"] f3 fd3)
    (F__law_looked : Fn K mg "_law_looked" s__law_looked ["_law_rule", "_law_mark", "_law_is_good", "_law_now"] f4 fd4) : FnOk P w K mg base CX0 3 f fd ["_law_rule", "_law_mark", "_law_is_good", "_law_now"] spLDue := by
  have G__law_is_int : FnOk P w K mg base CX0 1 f3 fd3 ["_law_thing", "_law_low", "_law_high"] spLInt := ok_lint F__law_is_int B
  have G__law_looked : FnOk P w K mg base CX0 1 f4 fd4 ["_law_rule", "_law_mark", "_law_is_good", "_law_now"] spLLook := ok_llook F__law_looked B
  refine F.F.ok sc__law_due (fun vs H Q E h => ?_) (fun cdv A outer s H vs Q E hr h => ?_)
  · obtain ⟨p, c, v1, d1, v2, d2, v3, d3, v4, d4, rfl, _⟩ := h
    rfl
  · obtain ⟨p, c, v1, d1, v2, d2, v3, d3, v4, d4, rfl, hp, hc, hd1, hd2, hd3, hd4, hf, hf4, q⟩ := h
    refine ⟨_, (pss_cons (ps_if (pt_not (pt_val (pe_call G__law_is_rule (hr.mono (by decide)) (by rfl) F__law_is_rule.g F__law_is_rule.F.kp F__law_is_rule.b .nil pass0 (pa_cons (pv 0) pa_nil))))
      (pss_one (ps_ret (pe_tup (pa_cons pe_str (pa_cons (pv 0) pa_nil)))))
      pss_nil)
      (pss_cons (ps_if (pt_not (pt_val (pe_call G__law_is_mark (hr.mono (by decide)) (by rfl) F__law_is_mark.g F__law_is_mark.F.kp F__law_is_mark.b .nil pass0 (pa_cons (pv 0) (pa_cons (pv 1) pa_nil)))))
      (pss_one (ps_ret (pe_tup (pa_cons pe_str (pa_cons (pv 1) pa_nil)))))
      pss_nil)
      (pss_cons (ps_if (pt_not (pt_val (pe_callB call_isi (by rfl) B.n_isinstance (by decide +kernel) (pa_cons (pv 2) (pa_cons (pe_bltn (v := .ty "bool") (by rfl) B.n_bool (by decide +kernel) rfl) pa_nil)))))
      (pss_one (ps_ret (pe_tup (pa_cons pe_str (pa_cons (pv 2) pa_nil)))))
      pss_nil)
      (pss_one (ps_ret (pe_ifExp (pt_val (pe_call G__law_is_int (hr.mono (by decide)) (by rfl) F__law_is_int.g F__law_is_int.F.kp F__law_is_int.b .nil pass0 (pa_cons (pv 3) (pa_cons pe_int (pa_cons (pe_op op_pow pe_int pe_int) pa_nil))))) (pe_tup (pa_cons pe_str (pa_cons (pe_call G__law_looked (hr.mono (by decide)) (by rfl) F__law_looked.g F__law_looked.F.kp F__law_looked.b .nil pass0 (pa_cons (pv 0) (pa_cons (pv 1) (pa_cons (pv 2) (pa_cons (pv 3) pa_nil))))) pa_nil))) (pe_tup (pa_cons pe_str (pa_cons (pv 3) pa_nil))))))))), ?_⟩
    refine ⟨_, rfl, p, c, v1, d1, rfl, hd1, fun H1 s1 => ⟨_, rfl, ?_⟩⟩
    have hp1 := has_of s1 hp
    have hc1 := has_of s1 hc
    cases h1 : ruleB d1 with
    | false => exact iteT ⟨_, rfl, sz (by show 2 ≤ 16000000; decide), fun t ht => q _ _ _ (s1.trans (same_new ht)) (.inl ⟨h1, rfl⟩) (bad_dg hp1 hc1 (hd1.to (Kp.same s1)) ht)⟩
    | true =>
    obtain ⟨a, r, f', i, m, rfl, rfl, R, _⟩ := rule_E hd1 h1
    have R1 := R.to s1
    have hd2 := hd2.to (Kp.same s1)
    refine iteF ⟨_, rfl, _, rfl, p, c, a, r, f', i, m, v2, d2, rfl, R1, hd2, hf, fun b H2 s2 hb => ⟨_, rfl, ?_⟩⟩
    have s12 := s1.trans s2
    have hp2 := has_of s12 hp
    have hc2 := has_of s12 hc
    cases b with
    | false => exact iteT ⟨_, rfl, sz (by show 2 ≤ 16000000; decide), fun t ht => q _ _ _ (s12.trans (same_new ht)) (.inr ⟨r, f', i, m, rfl, h1, .inl ⟨fun z => (by have := hb.mpr z; cases this), rfl⟩⟩) (bad_dg hp2 hc2 (hd2.to (Kp.same s2)) ht)⟩
    | true =>
    have hmk := hb.mp rfl
    obtain ⟨bb, u, run, wait, due, rfl, rfl, hm⟩ := mark_E hd2 hmk
    have hd3 := hd3.to (Kp.same s12)
    have hd4 := hd4.to (Kp.same s12)
    refine iteF ⟨v3, rfl, v3, .ty "bool", _, _, _, rfl, .ty "bool", hd3.tyx, isi_B' d3, _, rfl, ?_⟩
    cases h3 : isBoolB d3 with
    | false => exact iteT ⟨_, rfl, sz (by show 2 ≤ 16000000; decide), fun t ht => q _ _ _ (s12.trans (same_new ht)) (.inr ⟨r, f', i, m, rfl, h1, .inr ⟨u, run, wait, due, rfl, hmk, .inl ⟨h3, rfl⟩⟩⟩) (bad_dg hp2 hc2 hd3 ht)⟩
    | true =>
    obtain ⟨g, rfl, rfl⟩ := bool_E hd3 h3
    refine iteF ⟨_, rfl, _, _, rfl, rfl, ⟨by decide, by decide, by decide⟩, p, c, v4, d4, 0, _, rfl, hd4, _, rfl, ?_⟩
    have e60 : (10 : Int) ^ (60 : Int).toNat = 10 ^ 60 := rfl
    rw [e60]
    cases h4 : wholeB 0 (10 ^ 60) d4 with
    | false =>
      refine iteF ⟨_, rfl, sz (by show 2 ≤ 16000000; decide), fun t ht => q _ _ _ (s12.trans (same_new ht)) (.inr ⟨r, f', i, m, rfl, h1, .inr ⟨u, run, wait, due, rfl, hmk, .inr ⟨g, rfl, .inl ⟨?_, rfl⟩⟩⟩⟩) (bad_dg hp2 hc2 hd4 ht)⟩
      cases d4 with
      | int n =>
        have := hf4 n (by simp)
        refine decide_eq_false fun z => ?_
        have h4 : (decide (0 ≤ n) && decide (n ≤ 10 ^ 60)) = false := h4
        rw [decide_eq_true z, decide_eq_true this] at h4
        cases h4
      | _ => rfl
    | true =>
      obtain ⟨now, rfl, rfl, n0, _⟩ := whole_E hd4 h4
      refine iteT ⟨_, rfl, _, rfl, _, rfl, _, rfl, a, bb, r, f', i, m, u, g, run, wait, due, now, rfl, R1.to s2, s2 _ _ hm, fun T H3 s3 h3 hT => ?_⟩
      have s123 := s12.trans s3
      refine ⟨sz (by show 2 ≤ 16000000; decide), fun t ht => q _ _ _ (s123.trans (same_new ht)) (.inr ⟨r, f', i, m, rfl, h1, .inr ⟨u, run, wait, due, rfl, hmk, .inr ⟨g, rfl, .inr ⟨now, rfl, n0, rfl⟩⟩⟩⟩) ?_⟩
      exact bad_dg (has_of s123 hp) (has_of s123 hc) (lk_dg (fun e => hp2 (e ▸ hT)) (fun e => hc2 (e ▸ hT)) h3) ht
end
end Ag

end
/-! ## Pw -/
section
set_option linter.all false
set_option maxRecDepth 100000
namespace Ag
open PySem PySem.Spec PyProof.Rows L2
/-! ### lists of pairs (a word, whether it is so) -/
inductive PsA (H : Hp) : List V → List (Str × Bool) → Prop
  | nil : PsA H [] []
  | cons {t : Addr} {s : Str} {b : Bool} {vs : List V} {ps : List (Str × Bool)} (at_ : H t = some (.tup [.str s, .bl b])) (r : PsA H vs ps) : PsA H (.ref t :: vs) ((s, b) :: ps)
section
variable {H H' : Hp} {vs ws : List V} {ps qs : List (Str × Bool)}
theorem PsA.to (h : PsA H vs ps) (s : Same H H') : PsA H' vs ps := by
  induction h with
  | nil => exact .nil
  | cons a _ ih => exact .cons (s _ _ a) ih
theorem PsA.app (h : PsA H vs ps) (k : PsA H ws qs) : PsA H (vs ++ ws) (ps ++ qs) := by
  induction h with
  | nil => exact k
  | cons a _ ih => exact .cons a ih
theorem PsA.len (h : PsA H vs ps) : vs.length = ps.length := by
  induction h with
  | nil => rfl
  | cons _ _ ih => exact congrArg (· + 1) ih
theorem PsA.get (h : PsA H vs ps) : ∀ {i : Nat} {v : V}, vs[i]? = some v → ∃ t s b, v = .ref t ∧ ps[i]? = some (s, b) ∧ H t = some (.tup [.str s, .bl b]) := by
  induction h with
  | nil => intro i v e; simp at e
  | @cons t s b _ _ a _ ih =>
    intro i v e
    cases i with
    | zero => exact ⟨t, s, b, (by simpa using e.symm), rfl, a⟩
    | succ j => exact ih (i := j) (by simpa using e)
theorem PsA.put {D : Addr} {xs ys : List V} (h : PsA H vs ps) (e : H D = some (.lst xs)) : PsA (upd H D (.lst ys)) vs ps := by
  induction h with
  | nil => exact .nil
  | @cons t _ _ _ _ a _ ih =>
    refine .cons ?_ ih
    rw [upd_ne fun z => ?_]
    · exact a
    · rw [z, e] at a; cases a
end
theorem sel_at {α : Type} (l : List α) (p : α → Bool) (f : α → V) (d : α) : ((List.range l.length).filter fun i => p (l.getD i d)).map (fun i => f (l.getD i d)) = (l.filter p).map f := by
  induction l with
  | nil => rfl
  | cons a l ih =>
    rw [List.length_cons, List.range_succ_eq_map, List.filter_cons, List.filter_map, List.filter_cons]
    have e : (l.filter p).map f = ((List.range l.length).filter ((fun i => p ((a :: l).getD i d)) ∘ Nat.succ)).map ((fun i => f ((a :: l).getD i d)) ∘ Nat.succ) := ih.symm
    show List.map _ (if p a = true then 0 :: _ else _) = _
    cases h : p a
    · rw [if_neg (by decide), if_neg (by decide), List.map_map, e]
    · rw [if_pos rfl, if_pos rfl, List.map_cons, List.map_cons, List.map_map, e]
      rfl
section
variable {K : PySem.W.Frag} {a D : Addr} {H1 : Hp} {vs : List V} {ps : List (Str × Bool)} {gt : TG} {tt : TT} {te : TE} {sl : List Nat} {σ : L2.St} {Qd : Hp → Prop}
/-- [word for word, is_it in words if is_it] -/
theorem lc_words (h : PsA H1 vs ps) (hq : H1 a = some (.lst vs)) (hn : vs.length ≤ 16000000) (hD : H1 D = none)
    (hs : ∀ t s b H (k : VK) (k0 : Hp → Prop), H t = some (.tup [.str s, .bl b]) → (b = true → k (.str s) H) → (b = false → k0 H) → gt (.ref t) (wipe σ sl) H fun σ2 H2 => wipe σ2 sl = wipe σ sl ∧ tt σ2 H2 fun b H3 => if b = true then te σ2 H3 k else k0 H3)
    (hd : ∀ H, Same H1 H → H D = some (.lst ((ps.filter (·.2)).map fun p => .str p.1)) → Qd H) :
    ∃ W : Nat → Nat → Hp → Prop, (∃ m, W 0 m (upd H1 D (.lst []))) ∧ ∀ i m H, W i m H →
      ((Itl K a).stop i H ∧ Qd H) ∨ ((Itl K a).go i H ∧ ∃ Nx : Hp → Prop, (∀ H', Nx H' → ∃ m', m' < m ∧ W (i + 1) m' H') ∧ ∀ x H', (Itl K a).yld i H x H' → gt x (wipe σ sl) H' fun σ2 H2 => wipe σ2 sl = wipe σ sl ∧ tt σ2 H2 fun b H3 =>
        if b = true then te σ2 H3 fun y H4 => ∃ acc, H4 D = some (.lst acc) ∧ acc.length < sizeLine ∧ Nx (upd H4 D (.lst (acc ++ [y]))) else Nx H3) := by
  refine lc_sel (walk_list (K := K) (a := a) (xs := vs)) (fun i => (ps.getD i (Str.ofString "", false)).2) (fun i => .str (ps.getD i (Str.ofString "", false)).1) hn hD (fun H' s => SqL.of (s _ _ hq)) ?_ fun H2 s2 h2 => hd H2 s2 ?_
  · rintro j y H2 H3 k k0 hi s1 ⟨rfl, hy⟩ hk hk0
    obtain ⟨t, s, b, rfl, e, ea⟩ := h.get hy
    rw [List.getD_eq_getElem?_getD, e] at hk hk0
    exact hs t s b _ k k0 (s1 _ _ ea) (fun z => hk z _ (Same.refl _)) fun z => hk0 z _ (Same.refl _)
  · rw [h2, h.len, sel_at ps (fun p => p.2) (fun p => .str p.1)]
/-- [(word, is_it) for word, is_it in words if is_it] -/
theorem lc_pairs (h : PsA H1 vs ps) (hq : H1 a = some (.lst vs)) (hn : vs.length ≤ 16000000) (hD : H1 D = none)
    (hs : ∀ t s b H (k : VK) (k0 : Hp → Prop), Same H1 H → H t = some (.tup [.str s, .bl b]) → (b = true → ∀ T, H T = none → k (.ref T) (upd H T (.tup [.str s, .bl true]))) → (b = false → k0 H) → gt (.ref t) (wipe σ sl) H fun σ2 H2 => wipe σ2 sl = wipe σ sl ∧ tt σ2 H2 fun b H3 => if b = true then te σ2 H3 k else k0 H3)
    (hd : ∀ H ws, Same H1 H → H D = some (.lst ws) → PsA H ws (ps.filter (·.2)) → Qd H) :
    ∃ W : Nat → Nat → Hp → Prop, (∃ m, W 0 m (upd H1 D (.lst []))) ∧ ∀ i m H, W i m H →
      ((Itl K a).stop i H ∧ Qd H) ∨ ((Itl K a).go i H ∧ ∃ Nx : Hp → Prop, (∀ H', Nx H' → ∃ m', m' < m ∧ W (i + 1) m' H') ∧ ∀ x H', (Itl K a).yld i H x H' → gt x (wipe σ sl) H' fun σ2 H2 => wipe σ2 sl = wipe σ sl ∧ tt σ2 H2 fun b H3 =>
        if b = true then te σ2 H3 fun y H4 => ∃ acc, H4 D = some (.lst acc) ∧ acc.length < sizeLine ∧ Nx (upd H4 D (.lst (acc ++ [y]))) else Nx H3) := by
  have put : ∀ (H : Hp) (o : HO), Same H1 H → Same H1 (upd H D o) := fun H o s b u eb => by
    rw [upd_ne (ne_of_none eb hD)]
    exact s b u eb
  refine lc_it (g := gt) (tt := tt) (te := te) (vs := sl) (σ := σ) (walk_list (K := K) (a := a) (xs := vs)) (fun i H => Same H1 H ∧ ∃ ws, H D = some (.lst ws) ∧ ws.length ≤ i ∧ PsA H ws ((ps.take i).filter (·.2))) ⟨put _ _ (Same.refl _), [], upd_same, Nat.le_refl _, .nil⟩ (fun i H _ p => SqL.of (p.1 _ _ hq)) ?_ ?_
  · rintro i x H H' hi ⟨s1, ws, hw, lw, pw⟩ ⟨rfl, hx⟩
    obtain ⟨t, s, b, rfl, e, ea⟩ := h.get hx
    have tk : ps.take (i + 1) = ps.take i ++ [(s, b)] := by rw [List.take_succ, e]; rfl
    refine hs t s b _ _ _ s1 (s1 _ _ ea) (fun z T hT => ?_) fun z => ⟨s1, ws, hw, Nat.le_succ_of_le lw, ?_⟩
    · have ne : D ≠ T := ne_of_none hw hT
      have hw' : upd H' T (.tup [.str s, .bl true]) D = some (.lst ws) := by rw [upd_ne ne]; exact hw
      refine ⟨ws, hw', by rw [sizeLine_eq]; omega, put _ _ (s1.trans (same_new hT)), ws ++ [.ref T], upd_same, by simp; omega, ?_⟩
      rw [tk, List.filter_append, z]
      exact ((pw.to (same_new hT)).put hw').app (.cons (by rw [upd_ne (Ne.symm ne), upd_same]) .nil)
    · rw [tk, List.filter_append, z]
      simpa using pw
  · rintro H ⟨s1, ws, hw, _, pw⟩
    refine hd H ws s1 hw ?_
    rw [h.len, List.take_length] at pw
    exact pw
end
end Ag

end
/-! ## XH -/
section
set_option linter.all false
set_option maxRecDepth 100000
set_option maxHeartbeats 2000000
namespace Ag
open PySem PySem.Spec PyProof.Rows L2 HotX
/-! ### the end of a walk while an exception is handled -/
section
variable {prog : Program} {w : World} {A : Around} {E : Value → Shared → Prop} {s : Shared} {it x1 : Addr}
/-- no item is left: the iterator lets its thing go, StopIteration is raised and heard -/
theorem stop_hot {α : Type} {oi : Obj} {vi : Array Value} {Q : α → Shared → Prop} {K : Value → Shared → Prop} (hot : HotAt A x1 s.heap) (apart : x1 ≠ it) (hi : s.heap.get? it = some oi) (di : oi.data = .fields vi) (n0 : 0 < vi.size)
    (k : ∀ a h', Heap.ExtBut it s.heap h' → (∃ o, h'.get? a = some o ∧ o.cls = .type "StopIteration") → K (.ref a) { s with heap := h' }) :
    wpAny (model prog w) A (do setField (.ref it) 0 .none; raiseNew (← newExc (.type "StopIteration") []) : Sem α) Q K s := by
  obtain ⟨hh, o1, v1, g1, d1, c1⟩ := hot
  refine wpAny_bind (wpAny_setField hi di n0 ?_)
  have g2 : (s.heap.update it (Obj.mapFields (·.setIfInBounds 0 Value.none))).get? x1 = some o1 := (Heap.get?_update_other _ _ (Ne.symm apart)).trans g1
  have e2 : Heap.ExtBut it s.heap (s.heap.update it (Obj.mapFields (·.setIfInBounds 0 Value.none))) := (Heap.SameBut.update ..).extBut
  generalize s.heap.update it (Obj.mapFields (·.setIfInBounds 0 Value.none)) = h2 at g2 e2 ⊢
  refine wpAny_bind ?_
  simp only [newExc, newTuple]; refine wpAny_bind (wpAny_newObj_type ?_ (by size_fits))
  refine wpAny_bind (m := firstArgMember _ _) (wpAny_of_eq (a := Value.none) (by first | rfl | (simp only [firstArgMember]; rfl)) ?_); refine wpAny_newObj_type ?_ (by size_fits)
  have g3 : ∀ {p q : Obj}, ((h2.push p).push q).get? x1 = some o1 := fun {p q} => Heap.get?_push_of_some _ (Heap.get?_push_of_some _ g2)
  refine raiseNew_hot (oe := _) ⟨hh, o1, v1, g3, d1, c1⟩ (Nat.ne_of_lt (Heap.lt_size (Heap.get?_push_of_some _ g2))) (Heap.get?_push_size _ rfl) rfl (by first | (simp; done) | (simp; omega) | (simp only [Array.size_append]; simp; omega)) (k _ _ (fun b o nb z => ?_) ⟨_, Heap.get?_update_self _ (Heap.get?_push_size _ rfl) rfl, rfl⟩)
  have z2 := e2 b o nb z
  exact (Heap.get?_update_other _ _ (Nat.ne_of_gt (Heap.lt_size (Heap.get?_push_of_some _ z2)))).trans (Heap.get?_push_of_some _ (Heap.get?_push_of_some _ z2))
theorem tup_end_hot {t : Addr} {n : Nat} {xs : Array Value} {Q : Option Value → Shared → Prop} (hot : HotAt A x1 s.heap) (apart : x1 ≠ it) (hit : IsTupIter s.heap it t n) (ht : IsTup s.heap t xs) (hn : xs[n]? = none)
    (k : ∀ h', Heap.ExtBut it s.heap h' → Q none { s with heap := h' }) : wpAny (model prog w) A (pyNext (.ref it)) Q E s := by
  obtain ⟨oi, g1, c1, d1⟩ := id hit
  obtain ⟨ot, g2, _, nt, d2⟩ := ht
  have f0 := fun {Q : Value → Shared → Prop} {E : Value → Shared → Prop} (q : Q (.ref t) s) => wpAny_field (M := model prog w) (A := A.in1) (E := E) (i := 0) g1 d1 (x := .ref t) rfl q
  have f1 := fun {Q : Value → Shared → Prop} {E : Value → Shared → Prop} (q : Q (.int n 0) s) => wpAny_field (M := model prog w) (A := A.in1) (E := E) (i := 1) g1 d1 (x := .int n 0) rfl q
  have f2 := fun {Q : Option (Array Value) → Shared → Prop} {E : Value → Shared → Prop} (q : Q (some xs) s) => wpAny_seqItems (M := model prog w) (A := A.in1) (E := E) g2 d2 q
  unfold pyNext
  refine wpAny_bind (wpAny_attempt (wpAny_callSpecial?_slot (name := Str.ofString "__next__") hit.typeIs slot_tupleiter_next (wpAny_call_entry slot_tupleiter_next hit.typeIs entry_tupleiter_next ?_ (args_tupleiter_next _))))
  show wpAny _ _ (field (.ref it) 0 >>= _) _ _ s; refine wpAny_bind (f0 ?_)
  show wpAny _ _ (if (Value.ref t == Value.none) = true then _ else _) _ _ s; rw [if_neg (show ¬ ((Value.ref t == Value.none) = true) from Bool.false_ne_true)]
  show wpAny _ _ (field (.ref it) 1 >>= _) _ _ s; refine wpAny_bind (f1 ?_)
  show wpAny _ _ (seqItems? (.ref t) >>= _) _ _ s; refine wpAny_bind (f2 ?_)
  simp only [Int.toNat_natCast, hn]; refine wpAny_bind (wpAny_rule ?_)
  refine stop_hot (A := A.in1) ⟨hot.1, hot.2⟩ apart g1 d1 (by simp) fun a h' eb ⟨o, z, c⟩ => ?_
  refine wpAny_bind (wpAny_isInstance (T := "StopIteration") (b := true) ⟨o, z, c⟩ isSubtype_stop (wpAny_pure (k h' eb)))
theorem lst_end_hot {l : Addr} {n : Nat} {xs : Array Value} {Q : Option Value → Shared → Prop} (hot : HotAt A x1 s.heap) (apart : x1 ≠ it) (hit : s.heap.IsListIter it l n) (hl : s.heap.IsList l xs) (hn : xs[n]? = none)
    (k : ∀ h', Heap.ExtBut it s.heap h' → Q none { s with heap := h' }) : wpAny (model prog w) A (pyNext (.ref it)) Q E s := by
  obtain ⟨oi, g1, c1, d1⟩ := id hit
  obtain ⟨ol, g2, _, nl, d2⟩ := hl
  have f0 := fun {Q : Value → Shared → Prop} {E : Value → Shared → Prop} (q : Q (.ref l) s) => wpAny_field (M := model prog w) (A := A.in1) (E := E) (i := 0) g1 d1 (x := .ref l) rfl q
  have f1 := fun {Q : Value → Shared → Prop} {E : Value → Shared → Prop} (q : Q (.int n 0) s) => wpAny_field (M := model prog w) (A := A.in1) (E := E) (i := 1) g1 d1 (x := .int n 0) rfl q
  have f2 := fun {Q : Option (Array Value) → Shared → Prop} {E : Value → Shared → Prop} (q : Q (some xs) s) => wpAny_seqItems (M := model prog w) (A := A.in1) (E := E) g2 d2 q
  unfold pyNext
  refine wpAny_bind (wpAny_attempt (wpAny_callSpecial?_slot (name := Str.ofString "__next__") hit.typeIs slot_listiter_next (wpAny_call_entry slot_listiter_next hit.typeIs entry_listiter_next ?_ (args_listiter_next _))))
  show wpAny _ _ (field (.ref it) 0 >>= _) _ _ s; refine wpAny_bind (f0 ?_)
  show wpAny _ _ (if (Value.ref l == Value.none) = true then _ else _) _ _ s; rw [if_neg (show ¬ ((Value.ref l == Value.none) = true) from Bool.false_ne_true)]
  show wpAny _ _ (field (.ref it) 1 >>= _) _ _ s; refine wpAny_bind (f1 ?_)
  show wpAny _ _ (seqItems? (.ref l) >>= _) _ _ s; refine wpAny_bind (f2 ?_)
  simp only [Int.toNat_natCast, hn]; refine wpAny_bind (wpAny_rule ?_)
  refine stop_hot (A := A.in1) ⟨hot.1, hot.2⟩ apart g1 d1 (by simp) fun a h' eb ⟨o, z, c⟩ => ?_
  refine wpAny_bind (wpAny_isInstance (T := "StopIteration") (b := true) ⟨o, z, c⟩ isSubtype_stop (wpAny_pure (k h' eb)))
end
end Ag

end
/-! ## XL -/
section
set_option linter.all false
set_option maxRecDepth 100000
set_option maxHeartbeats 2000000
namespace Ag
open PySem PySem.Spec PyProof.Rows L2
/-! ### a comprehension whose block may raise -/
/-- behind the loop; an exception goes on through the very frame that it came through -/
def Bhd (M : Model) (A : Around) (E : Value → Shared → Prop) (use : Option (Value → Sem Unit)) (Q : Value → Shared → Prop) (acc : Value) (ce : Env) (r : Result) (s : Shared) : Prop :=
  match r with
  | .ok f => compPost M A E use Q acc ce.locals (.ok f) s
  | .error x => ∃ m, s.heap.Ns ce.locals m ∧ ∀ h', Heap.SameBut ce.locals s.heap h' → wpAny M A (passOn "comprehension.variables-let-go" x ce : Sem Value) (fun _ _ => False) E { s with heap := h' }
section
variable {M : Model} {A : Around} {E : Value → Shared → Prop} {s : Shared} {env : Env}
theorem comp_bhd {e : Expr} {scope : Scope} {pos : Pos} {mk ahead : Sem Value} {g : Comprehension} {more : List Comprehension} {cl : List (Str × Addr)} {use : Option (Value → Sem Unit)} {Q : Value → Shared → Prop}
    (c1 : clausesOf e = g :: more) (c2 : ∀ x, foldedSetIterable g.iter env x = pure x) (c3 : closureFor scope env = pure cl) (c4 : scope.kind = .function) (c5 : ∀ y ∈ scope.names, y.2 = .local → scope.names.lookup y.1 = some .local)
    (run : wpAny M A ahead (fun x s1 => wpAny M A (pyIter x) (fun it s2 => wpAny M A mk (fun acc s3 => wpAny M A (newFunctionEnv scope env.globals cl [] env.qual none .none (some env))
      (fun ce s4 => codeAny M A (.compStart e 0 it acc { ce with scope := relabel scope env }) (Bhd M A E use Q acc { ce with scope := relabel scope env }) s4) E s3) E s2) E s1) E s) :
    wpAny M A (comprehension e scope env pos mk false ahead use) Q E s := by
  have id1 : ∀ {α : Type} {t : Sem α} {P P' : α → Shared → Prop} {u : Shared}, wpAny M A t P E u → (∀ a v, P a v → P' a v) → wpAny M A t P' E u := fun h k => wpAny_mono h k fun _ _ z => z
  unfold comprehension
  rw [c3, c1]
  refine wpAny_bind (id1 run fun x s1 r1 => ?_)
  refine wpAny_bind (wpAny_standAt (wpAny_bind (wpAny_of_eq (c2 x) (wpAny_bind (wpAny_holding (id1 r1 fun it s2 r2 => ?_))))))
  refine wpAny_standIf (wpAny_bind (id1 r2 fun acc s3 r3 => ?_))
  refine wpAny_bind (wpAny_pure (wpAny_bind (id1 r3 fun ce s4 r4 => ?_)))
  dsimp only
  generalize hv : (scope.names.filter fun x => (x.2 == .local || x.2 == .cell) && x.1 != (".0" : Str)).reverse = vars
  have inn : ∀ y ∈ vars, y.2 = .local → Env.kindOf { ce with scope := relabel scope env } y.1 = some .local := fun y hy hl => by
    rw [← hv] at hy
    exact lookup_relabel_local (c5 y (List.mem_filter.mp (List.mem_reverse.mp hy)).1 hl)
  refine wpAny_holding (wpAny_bind (wpAny_attempt (wpAny_holding (wpAny_run (codeAny_mono r4 fun r s5 r5 => ?_)))))
  match r, r5 with
  | .error x, ⟨m, n5, go⟩ =>
    refine wpAny_bind (wpAny_holding (wpAny_comp_letGo (cenv := { ce with scope := relabel scope env }) c4 _ s5 m inn n5 fun h6 _ _ sb => ?_))
    exact wpAny_mono (go h6 sb) (fun _ _ z => z.elim) fun _ _ z => z
  | .ok f, ok5 =>
    match use, ok5 with
    | none, ⟨m, n5, go⟩ => exact wpAny_bind (wpAny_holding (wpAny_comp_letGo (cenv := { ce with scope := relabel scope env }) c4 _ s5 m inn n5 fun h6 _ _ sb => wpAny_pure (go h6 sb)))
    | some u, go =>
      refine wpAny_bind (wpAny_rule (wpAny_bind (wpAny_holding (id1 go fun _ s6 r6 => ?_))))
      obtain ⟨m, n6, go⟩ := r6
      refine wpAny_bind (wpAny_comp_letGo (cenv := { ce with scope := relabel scope env }) c4 _ s6 m (fun y hy hl => inn y ?_ hl) n6 fun h7 _ _ sb => wpAny_pure (go h7 sb))
      rcases List.mem_append.mp hy with z | z
      · exact List.mem_of_mem_drop z
      · exact List.mem_of_mem_take z
end
end Ag

end
/-! ## XL2 -/
section
set_option linter.all false
set_option maxRecDepth 100000
set_option maxHeartbeats 2000000
namespace Ag
open PySem PySem.Spec PyProof.Rows L2
/-! ### what a comprehension walks, where more may be known of the context than that it is calm -/
structure Trn (ok : Cx → Prop) (P : Program) (w : World) (K : PySem.W.Frag) (tg : Expr) (J : It) (fp : List Addr) (it : Addr) (tn : Nat → Heap → Prop) : Prop where
  objs : ∀ n h, tn n h → ∀ b ∈ fp, ∃ o, h.get? b = some o ∧ ∀ v, o.data ≠ .cell v
  stay : ∀ n h h', tn n h → (∀ b ∈ fp, ∀ o, h.get? b = some o → h'.get? b = some o) → tn n h'
  give : ∀ (X : Cx) (n : Nat) (pins : List (Addr × Obj)) (s : Shared) (σ : L2.St) (H : Hp) (E : Value → Shared → Prop), X.prog = P → X.w = w → X.K = K → ok X → Inv X pins σ H s → (∀ b ∈ fp, FpOk X pins H b) → tn n s.heap → J.go n H →
    wpAny (model P w) X.A (pyNext (.ref it)) (fun r s1 => ∃ u, r = some u ∧
      wpAny (model P w) X.A (letOwnedTupleGo tg (.ref it) u) (fun _ s2 => ∃ x H', Inv X pins σ H' s2 ∧ RelV x u ∧ J.yld n H x H' ∧ tn (n + 1) s2.heap ∧ ∀ b ∈ fp, H' b = none) E s1) E s
  over : ∀ (X : Cx) (n : Nat) (pins : List (Addr × Obj)) (s : Shared) (σ : L2.St) (H : Hp) (E : Value → Shared → Prop), X.prog = P → X.w = w → X.K = K → ok X → Inv X pins σ H s → (∀ b ∈ fp, FpOk X pins H b) → tn n s.heap → J.stop n H →
    wpAny (model P w) X.A (pyNext (.ref it)) (fun r s1 => r = none ∧ Inv X pins σ H s1) E s
  self : ∀ (A : Around) (n : Nat) (s : Shared) (Q : Value → Shared → Prop) (E : Value → Shared → Prop), tn n s.heap → Q (.ref it) s → wpAny (model P w) A (pyIter (.ref it)) Q E s
def Pic (ok : Cx → Prop) (X : Cx) (tg iter : Expr) (wi : TI) : Prop :=
  ∀ (pins : List (Addr × Obj)) (s : Shared) (σ : L2.St) (H : Hp) (R : It → Hp → Prop), Inv X pins σ H s → wi σ H R →
    wpAny (model X.prog X.w) X.A (eval iter X.env) (fun v s1 => wpAny (model X.prog X.w) X.A (pyIter v) (fun itv s2 => ∃ (it : Addr) (fp : List Addr) (tn : Nat → Heap → Prop) (J : It) (H' : Hp),
      itv = .ref it ∧ Inv X pins σ H' s2 ∧ Trn ok X.prog X.w X.K tg J fp it tn ∧ tn 0 s2.heap ∧ (∀ b ∈ fp, FpOk X pins H' b) ∧ R J H') X.xe s1) X.xe s
abbrev okCalm : Cx → Prop := fun X => X.calm = true
theorem Trn.of {P : Program} {w : World} {K : PySem.W.Frag} {tg : Expr} {J : It} {fp : List Addr} {it : Addr} {tn : Nat → Heap → Prop} (t : Turn P w K tg J fp it tn) : Trn okCalm P w K tg J fp it tn :=
  ⟨t.obj, t.keep, fun X n pins s σ H E h1 h2 h3 h4 => t.item X h1 h2 h3 h4 n pins s σ H E, fun X n pins s σ H E h1 h2 h3 h4 => t.done X h1 h2 h3 h4 n pins s σ H E, t.self⟩
theorem Pic.of {X : Cx} {tg iter : Expr} {wi : TI} (p : PI X tg iter wi) : Pic okCalm X tg iter wi := fun pins s σ H R I h =>
  thn (p.run pins s σ H R I h) fun _ _ h1 => thn h1 fun _ _ ⟨it, fp, tn, J, H', e, I', t, r⟩ => ⟨it, fp, tn, J, H', e, I', .of t, r⟩
/-- what is wished of an exception of the block -/
abbrev xeB (X : Cx) (use : Option (Value → Sem Unit)) (Qf : Value → Shared → Prop) (acc : Value) (ce : Env) : Value → Shared → Prop :=
  notedBy (model X.prog X.w) X.A ce fun e s => Bhd (model X.prog X.w) X.A X.xe use Qf acc ce (.error e) s
abbrev blkX (X : Cx) (bp : List (Addr × Obj)) (use : Option (Value → Sem Unit)) (Qf : Value → Shared → Prop) (acc : Value) (s : Shared) (H : Hp) (scope : Scope) (ce : Env) (fp : List Addr) : Cx := (X.blk s H scope ce fp).tr bp (xeB X use Qf acc ce)
section
variable {X : Cx}
theorem lc_wide {ok : Cx → Prop} {pins bp : List (Addr × Obj)} {s : Shared} {σ : L2.St} {H : Hp} {Q : VK} {elt tg iter : Expr} {ifs : List Expr} {scope : Scope} {own : List (Str × Nat)} {pos pos' : Pos} {wi : TI} {g : TG} {tt : TT} {te : TE} {use : Option (Value → Sem Unit)} {Qf : Value → Shared → Prop}
    (hN : X.N.Nodup) (I : Inv X pins σ H s) (hbp : ∀ p ∈ bp, p ∈ X.pn ++ pins) (hok : ∀ acc s H ce fp, ok (blkX X bp use Qf acc s H scope ce fp)) (hi : Pic ok X tg iter wi) (bk : BlkOk X.N X.env.scope scope own)
    (hg : ∀ (acc : Value) (s : Shared) (H : Hp) (C : Addr) (cl : List (Str × Addr)) (fp : List Addr), PG (blkX X bp use Qf acc s H scope (compEnvC scope cl C X.env) fp) tg g)
    (ht : ∀ (acc : Value) (s : Shared) (H : Hp) (C : Addr) (cl : List (Str × Addr)) (fp : List Addr), cl = cellsFrom (s.heap.objs.size + 1) scope.names (cloFrom X.env.cells scope.names []) → C = s.heap.objs.size → Inv X pins σ H s → (∀ b ∈ fp, FpOk X pins H b ∧ b < s.heap.objs.size) → PTs (blkX X bp use Qf acc s H scope (compEnvC scope cl C X.env) fp) ifs tt)
    (he : ∀ (acc : Value) (s : Shared) (H : Hp) (C : Addr) (cl : List (Str × Addr)) (fp : List Addr), cl = cellsFrom (s.heap.objs.size + 1) scope.names (cloFrom X.env.cells scope.names []) → C = s.heap.objs.size → Inv X pins σ H s → (∀ b ∈ fp, FpOk X pins H b ∧ b < s.heap.objs.size) → PE (blkX X bp use Qf acc s H scope (compEnvC scope cl C X.env) fp) elt te)
    (hs : ∀ x, foldedSetIterable iter X.env x = pure x) (h : tLc wi g tt te (own.map (·.2)) σ H Q)
    (hQ : ∀ D C s' m H', Inv X pins σ H' s' → Q (.ref D) H' → s'.heap.Ns C m → FpOk X pins H' C → compPost (model X.prog X.w) X.A X.xe use Qf (.ref D) C (.ok .next) s') :
    wpAny (model X.prog X.w) X.A (comprehension (.ListComp elt [⟨tg, iter, ifs, 0⟩] scope pos) scope X.env pos' (newList []) false (eval iter X.env) use) Qf X.xe s := by
  refine comp_bhd (use := use) rfl hs (closure_ok fun y hy e => ?_) bk.kind (fun y hy e => by rw [← e]; exact bk.uniq y hy) ?_
  · exact (bk.free y hy e).elim (fun k => I.ok.has _ (.inl k)) fun k => I.ok.has _ (.inr k)
  refine thn (hi pins s σ H _ I h) fun xv s1 h1 => thn h1 fun itv s2 ⟨it, fp, tn, J, H2, eq2, I2, T, st2, f2, q⟩ => ?_
  subst eq2
  refine wpAny_newObj_type (newEnv_comp ?_) (by show 0 ≤ sizeLine; decide)
  obtain ⟨D, hD⟩ : ∃ D, D = s2.heap.objs.size := ⟨_, rfl⟩
  rw [← hD]
  obtain ⟨W, ⟨m0, w0⟩, turn⟩ := q D (I2.hok.fresh (Nat.le_of_eq hD.symm))
  obtain ⟨s3, hs3⟩ : ∃ u : Shared, u = { s2 with heap := s2.heap.push { cls := .type "list", data := .seq ([] : List Value).toArray } } := ⟨_, rfl⟩
  have hp3 : s3.heap = s2.heap.push { cls := .type "list", data := .seq ([] : List Value).toArray } := congrArg Shared.heap hs3
  have I3 : Inv X pins σ (upd H2 D (.lst [])) s3 := by
    rw [hs3]
    exact I2.laid (t' := s2.toks) (fun _ _ z => Heap.get?_push_of_some _ z) (Nat.le_of_eq hD.symm) ⟨Nat.zero_le _, [], 0, .nil, by rw [hD]; exact Heap.get?_push_size _ rfl⟩
  have f3 : ∀ b ∈ fp, FpOk X pins (upd H2 D (.lst [])) b ∧ b < s3.heap.objs.size := fun b hb => by
    obtain ⟨o, z, _⟩ := T.objs _ _ st2 b hb
    have lt := Heap.lt_size z
    refine ⟨⟨?_, (f2 b hb).2⟩, by rw [hp3, Heap.size_push]; exact Nat.lt_succ_of_lt lt⟩
    rw [upd_ne (by rw [hD]; exact Nat.ne_of_lt lt)]
    exact (f2 b hb).1
  have st3 : tn 0 s3.heap := T.stay _ _ _ st2 fun b _ o z => by rw [hp3]; exact Heap.get?_push_of_some _ z
  rw [← hs3]
  obtain ⟨H3, hH3⟩ : ∃ G, G = upd H2 D (.lst []) := ⟨_, rfl⟩
  rw [← hH3] at I3 f3 w0
  obtain ⟨cl, hcl⟩ : ∃ c, c = cellsFrom (s3.heap.objs.size + 1) scope.names (cloFrom X.env.cells scope.names []) := ⟨_, rfl⟩
  have pt := ht (.ref D) s3 H3 s3.heap.objs.size cl fp hcl rfl I3 f3
  have pe := he (.ref D) s3 H3 s3.heap.objs.size cl fp hcl rfl I3 f3
  have pg := hg (.ref D) s3 H3 s3.heap.objs.size cl fp
  have B4 := block_start I3 bk hN f3
  rw [← hcl] at B4
  show codeAny _ _ (.compStart (.ListComp elt [⟨tg, iter, ifs, 0⟩] scope pos) 0 (.ref it) (.ref D) (compEnvC scope (cellsFrom (s3.heap.objs.size + 1) scope.names (cloFrom X.env.cells scope.names [])) s3.heap.objs.size X.env)) (Bhd (model X.prog X.w) X.A X.xe use Qf (.ref D) (compEnvC scope (cellsFrom (s3.heap.objs.size + 1) scope.names (cloFrom X.env.cells scope.names [])) s3.heap.objs.size X.env)) _
  rw [← hcl]
  obtain ⟨ce, hce⟩ : ∃ c, c = compEnvC scope cl s3.heap.objs.size X.env := ⟨_, rfl⟩
  have cL : ce.locals = s3.heap.objs.size := by rw [hce]; rfl
  rw [← hce] at pt pe pg B4 ⊢
  obtain ⟨s4, hs4⟩ : ∃ u : Shared, u = { s3 with heap := pushCells (s3.heap.push { cls := .type "dict", data := .dict #[] }) scope.names } := ⟨_, rfl⟩
  have grow : ∀ b o, s3.heap.get? b = some o → s4.heap.get? b = some o := fun b o z => by rw [hs4]; exact pushCells_keeps _ _ _ _ (Heap.get?_push_of_some _ z)
  have lift : ({ s3 with heap := pushCells (s3.heap.push { cls := .type "dict", data := .dict #[] }) scope.names } : Shared) = s4 := hs4.symm
  show codeAny _ _ _ _ ({ s3 with heap := pushCells (s3.heap.push { cls := .type "dict", data := .dict #[] }) scope.names } : Shared)
  rw [lift] at B4 ⊢
  have nin : ∀ p ∈ X.pn ++ pins, p.1 ∉ frs X.stack := fun p hp z => by
    obtain ⟨_, _, a, b, _⟩ := I3.pin p hp
    exact (List.mem_cons.mp (I3.stkSub _ z)).elim a b
  have I4 : Inv (blkX X bp use Qf (.ref D) s3 H3 scope ce fp) [] (wipe σ (own.map (·.2))) H3 s4 := (B4.pins_of (pins' := bp) fun p hp => by
    obtain ⟨a1, a2, a3, a4, a5⟩ := I3.pin p (hbp p hp)
    exact ⟨grow _ _ a1, a2, by show p.1 ≠ ce.locals; rw [cL]; exact Nat.ne_of_lt (Heap.lt_size a1), nin p (hbp p hp), a5⟩).toTry _
  have st4 : tn 0 s4.heap := T.stay _ _ _ st3 fun b _ o z => grow b o z
  have own4 : ∀ {τ : L2.St} {G : Hp} {u : Shared} {bq : List (Addr × Obj)}, Inv (blkX X bp use Qf (.ref D) s3 H3 scope ce fp) bq τ G u → (∀ b ∈ fp, G b = none) → ∀ b ∈ fp, FpOk (blkX X bp use Qf (.ref D) s3 H3 scope ce fp) [] G b := fun {τ G u bq} J n b hb =>
    ⟨n b hb, (J.ok.exf b hb).1, J.ok.exfs b hb, .inl hb, fun x c z => (J.ok.exf b hb).2 x c z, fun p hp => (f3 b hb).1.2.2.2.2.2 p (hbp p (by simpa using hp))⟩
  have okB : ok (blkX X bp use Qf (.ref D) s3 H3 scope ce fp) := hok _ _ _ _ _
  have loop : codeAny (model X.prog X.w) X.A (.compLoop (.ListComp elt [⟨tg, iter, ifs, 0⟩] scope pos) 0 (.ref it) (.ref D) ce) (Bhd (model X.prog X.w) X.A X.xe use Qf (.ref D) ce) s4 := by
    refine compLoop_any (fun n u => ∃ k G, Inv (blkX X bp use Qf (.ref D) s3 H3 scope ce fp) [] (wipe σ (own.map (·.2))) G u ∧ tn k u.heap ∧ (∀ b ∈ fp, G b = none) ∧ W k n G) ?_ m0 ⟨0, H3, I4, st4, fun b hb => (f3 b hb).1.1, w0⟩
    intro n s5 ⟨k, H5, I5, st5, n5, w5⟩
    rcases turn k n H5 w5 with ⟨stop, qq⟩ | ⟨go, Nx, hNx, step⟩
    · refine thn (T.over (blkX X bp use Qf (.ref D) s3 H3 scope ce fp) k [] s5 _ H5 (xeB X use Qf (.ref D) ce) rfl rfl rfl okB I5 (own4 I5 n5) st5 stop) fun r s6 ⟨hr, I6⟩ => ?_
      subst hr
      have J6 : Inv X pins σ H5 s6 := I3.call' (ch := fp) I6.os I6.base I6.hok I6.bare fun b hb => ⟨(f3 b hb).1.2.2.2.1, (f3 b hb).1.2.1, (f3 b hb).1.2.2.2.2.1, (f3 b hb).1.2.2.2.2.2⟩
      obtain ⟨m, hn, _⟩ := I6.loc
      have fr : H5 s3.heap.objs.size = none := by rw [← cL]; exact I6.free
      have hn' : s6.heap.Ns ce.locals m := hn
      rw [cL] at hn'
      have fin := hQ D s3.heap.objs.size s6 m H5 J6 qq hn' (I3.fpOk (Nat.le_refl _) fr)
      show compPost _ _ _ _ _ _ ce.locals _ _
      rw [cL]
      exact fin
    · refine thn (T.give (blkX X bp use Qf (.ref D) s3 H3 scope ce fp) k [] s5 _ H5 (xeB X use Qf (.ref D) ce) rfl rfl rfl okB I5 (own4 I5 n5) st5 go) fun r s6 ⟨u, hr, h6⟩ => ?_
      subst hr
      refine thn h6 fun _ s7 ⟨x, H7, I7, r7, y7, st7, n7⟩ => ?_
      have P7 := I7.pinned (own4 I7 n7) (T.objs _ _ st7)
      refine thn (pg.run _ s7 _ H7 x u _ P7 r7 (step x H7 y7)) fun _ s8 ⟨σ8, H8, I8, hw8, q8⟩ => ?_
      refine thn (pt.run _ s8 σ8 H8 _ I8 q8) fun b s9 ⟨H9, I9, q9⟩ => ?_
      have next : ∀ {u : Shared} {G : Hp}, Inv (blkX X bp use Qf (.ref D) s3 H3 scope ce fp) ([] ++ pinsAt fp s7.heap) σ8 G u → Nx G → ∃ m, m < n ∧ ∃ k G, Inv (blkX X bp use Qf (.ref D) s3 H3 scope ce fp) [] (wipe σ (own.map (·.2))) G u ∧ tn k u.heap ∧ (∀ b ∈ fp, G b = none) ∧ W k m G := fun {u G} J nx => by
        obtain ⟨m, lt, w'⟩ := hNx G nx
        have held : ∀ b ∈ fp, ∀ o, s7.heap.get? b = some o → u.heap.get? b = some o ∧ G b = none := fun b hb o z => by
          obtain ⟨a1, a2, _⟩ := J.pin (b, o) (List.mem_append_right _ (List.mem_append_right _ (mem_pinsAt hb z)))
          exact ⟨a1, a2⟩
        refine ⟨m, lt, k + 1, G, (J.unpinned (pins := [])).weak (by rw [← hw8, wipe_length]) (fun j v z => ?_), T.stay _ _ _ st7 fun b hb o z => (held b hb o z).1, fun b hb => ?_, w'⟩
        · rw [← hw8] at z
          exact (wipe_some z).1
        · obtain ⟨o, z, _⟩ := T.objs _ _ st7 b hb
          exact (held b hb o z).2
      cases b with
      | false =>
        rw [if_neg Bool.false_ne_true] at q9
        exact next I9 q9
      | true =>
        rw [if_pos rfl] at q9
        refine thn (pe.run _ s9 σ8 H9 _ I9 q9) fun z s10 ⟨yv, H10, I10, r10, acc, hD10, hz10, nx⟩ => ?_
        exact app_ok (X := blkX X bp use Qf (.ref D) s3 H3 scope ce fp) I10 hD10 hz10 r10 fun s11 I11 => next I11 nx
  exact codeAny_compStart_list loop (T.self X.A 0 _ _ _ st4 loop)
end
end Ag

end
/-! ## XL3 -/
section
set_option linter.all false
set_option maxRecDepth 100000
set_option maxHeartbeats 2000000
namespace Ag
open PySem PySem.Spec PyProof.Rows L2
/-! ### an exception leaves a comprehension's block -/
theorem note_same {e : Value} {a b : Env} (h : a.frame = b.frame) : noteFrame e a = noteFrame e b := by
  unfold noteFrame PySem.frameOf
  rw [h]
theorem on_same {w : String} {e : Value} {a b : Env} (h : a.frame = b.frame) : (PySem.passOn w e a : Sem Value) = PySem.passOn w e b := by
  unfold PySem.passOn
  rw [h]
theorem frames_at {base base' h h' : Heap} : ∀ {l : List Env}, h.FunFrames base l → (∀ b ∈ frs l, h'.get? b = h.get? b) → (∀ b ∈ frs l, base'.get? b = none) → h'.FunFrames base' l
  | [], _, _, _ => trivial
  | env :: l, ⟨k, ⟨L, o, f, n, g, d⟩, r⟩, e, z => by
    have mem : L ∈ frs (env :: l) := List.mem_filterMap.mpr ⟨env, List.mem_cons_self, f⟩
    have sub : ∀ b ∈ frs l, b ∈ frs (env :: l) := fun b hb => by
      obtain ⟨v, hv, q⟩ := List.mem_filterMap.mp hb
      exact List.mem_filterMap.mpr ⟨v, List.mem_cons_of_mem _ hv, q⟩
    exact ⟨k, ⟨L, o, f, z L mem, (e L mem).trans g, d⟩, frames_at r (fun b hb => e b (sub b hb)) fun b hb => z b (sub b hb)⟩
section
variable {X : Cx} {W : WX} {use : Option (Value → Sem Unit)} {Qf : Value → Shared → Prop} {acc : Value} {s : Shared} {H : Hp} {scope : Scope} {C : Addr} {cl : List (Str × Addr)} {fp : List Addr} {pins : List (Addr × Obj)} {σ : L2.St}
/-- what a def that the block calls lets out is taken by the def around -/
theorem blk_out (hs : X.stack = X.env :: X.outer) (hf : X.env.frame = some X.env.locals) (tk : Takes X W) (hC : C = s.heap.objs.size) (I : Inv X pins σ H s) (ok : ∀ b ∈ fp, FpOk X pins H b ∧ b < s.heap.objs.size) :
    Passes (L2.CX X.prog X.w) (blkX X [] use Qf acc s H scope (compEnvC scope cl C X.env) fp) (fun cls d G => W cls d σ G) := by
  intro bq τ H1 s1 e s2 J c
  obtain ⟨a, B, H2, cls, d, rfl, fl, hok, ub, na, os, ag, w⟩ := c
  have sameF : (compEnvC scope cl C X.env).frame = X.env.frame := rfl
  have lC : (compEnvC scope cl C X.env).locals = C := rfl
  have fr : X.A.frames = some (X.env :: X.outer) := I.ok.frames.trans (congrArg some hs)
  have fl' : HandSPX.FlyingZ B (X.env :: X.outer) a (Zc cls d) s2.heap := by rw [← hs]; exact fl
  -- the block's own dict
  have newC : s.heap.get? C = none := Heap.get?_none_of_le (Nat.le_of_eq hC.symm)
  have outC : C ∉ frs X.stack := fun m => by
    obtain ⟨_, o, z, _⟩ := I.stack.mem m
    rw [newC] at z; cases z
  obtain ⟨m, hm, _⟩ := J.loc
  have hm : s1.heap.Ns C m := hm
  obtain ⟨oC, es, ep, c1, c2, c3⟩ := id hm
  have freeC1 : H1 C = none := J.free
  have c4 : B.get? C = some oC := ub.keep C oC c1 freeC1 outC
  have freeC2 : H2 C = none := ub.free C oC c1 freeC1
  show wpAny _ _ (noteFrame (.ref a) (compEnvC scope cl C X.env)) _ _ _
  rw [note_same sameF]
  refine HandSPX.looks_onZ Zc.steady fr hf fl' fun h3 held up3 => ?_
  have c5 : h3.get? C = some oC := held.1 _ _ c4
  refine ⟨m, ⟨oC, es, ep, c5, c2, c3⟩, fun h4 sb => ?_⟩
  rw [on_same sameF]
  have keep4 : ∀ b, b ≠ C → h4.get? b = h3.get? b := sb.2
  -- the ground without it
  have B_of : ∀ {b o}, (PySem.W.hideAll B [C]).get? b = some o → B.get? b = some o ∧ b ≠ C := fun {b o} z => by
    refine ⟨PySem.W.of_hideAll _ z, fun q => ?_⟩
    rw [q, PySem.W.hideAll_none [C] (by simp)] at z
    cases z
  have toB : ∀ {b o}, B.get? b = some o → b ≠ C → (PySem.W.hideAll B [C]).get? b = some o := fun z q => PySem.W.hideAll_get _ z (by simpa using q)
  obtain ⟨k1, k2, k3, oe, vs, T, oT, ts, e1, e2, e3, e4, e5, e6, e7, e8, e9⟩ := held
  have nf : ∀ {x : Addr} {o : Obj} {vs : Array Value}, h3.get? x = some o → o.data = .fields vs → x ≠ C := fun {x o vs} z q r => by
    rw [r, c5] at z
    have z := Option.some.inj z
    rw [← z, c2] at q
    cases q
  have noB : ∀ {b}, B.get? b = none → (PySem.W.hideAll B [C]).get? b = none := fun {b} z => by
    cases q : (PySem.W.hideAll B [C]).get? b with
    | none => rfl
    | some o => rw [(B_of q).1] at z; cases z
  have frC : ∀ b ∈ frs (X.env :: X.outer), b ≠ C := fun b hb q => outC (by rw [hs, ← q]; exact hb)
  have held4 : HandSPX.HeldZ (PySem.W.hideAll B [C]) (X.env :: X.outer) a (Zc cls d) X.env.locals h4 :=
    ⟨fun b o z => (keep4 b (B_of z).2).trans (k1 b o (B_of z).1), noB k2, frames_at k3 (fun b hb => keep4 b (frC b hb)) (fun b hb => by
      obtain ⟨q, _⟩ := k3.mem hb
      exact noB q), oe, vs, T, oT, ts, (keep4 a (nf e1 e3)).trans e1, e2, e3, e4, noB e5, e6, (keep4 T (nf e7 e8)).trans e7, e8, e9⟩
  obtain ⟨G, g1, g2⟩ := restrict h4 fun b => ((PySem.W.hideAll B [C]).get? b).isSome || decide (b ∈ frs X.stack)
  have gB : ∀ b o, (PySem.W.hideAll B [C]).get? b = some o → G.get? b = some o := fun b o z => by
    rw [g1 b (by rw [z]; rfl)]
    exact held4.1 b o z
  have gF : ∀ b, b ∈ frs X.stack → G.get? b = h4.get? b := fun b hb => g1 b (by rw [decide_eq_true hb, Bool.or_true])
  have gof : ∀ b o, G.get? b = some o → h4.get? b = some o ∧ (((PySem.W.hideAll B [C]).get? b).isSome = true ∨ b ∈ frs X.stack) := fun b o z => by
    cases q : (((PySem.W.hideAll B [C]).get? b).isSome || decide (b ∈ frs X.stack)) with
    | false => rw [g2 b q] at z; cases z
    | true =>
      rw [g1 b q] at z
      rw [Bool.or_eq_true, decide_eq_true_eq] at q
      exact ⟨z, q⟩
  have oldC : ∀ {b o}, s.heap.get? b = some o → b ≠ C := fun {b o} z q => by rw [q, newC] at z; cases z
  -- a frame's object, up to its slots
  have frame : ∀ b ∈ frs X.stack, ∀ o, s1.heap.get? b = some o → (∀ vs, o.data ≠ .fields vs) → ∃ sl, G.get? b = some { o with slots := sl } := fun b hb o z hd => by
    obtain ⟨sl, z2⟩ := ub.slot b o z hb
    obtain ⟨sl3, z3⟩ := up3 b _ z2 hd
    exact ⟨sl3, by rw [gF b hb, keep4 b (fun q => outC (q ▸ hb))]; exact z3⟩
  have inv : Inv X pins σ H2 { s2 with heap := G } := by
    refine I.call' (ch := C :: fp) (os.trans J.os) ⟨fun b o z n nfr nx => ?_, fun b o z n fr nx => ?_, fun b o z n nx => ?_, fun b o z nx => ?_, fun b xs z => ub.tups b xs (J.base.tups b xs z), fun b o xs z => ub.frzs b o xs (J.base.frzs b o xs z), fun b ps z => ?_⟩ (fun b o z => ?_) ag (fun b hb => ?_)
    · have nx' : b ∉ fp := fun q => nx (List.mem_cons_of_mem _ q)
      exact gB b o (toB (ub.keep b o (J.base.keep b o z n nfr nx') (J.base.free b o z n nx') nfr) (oldC z))
    · have nx' : b ∉ fp := fun q => nx (List.mem_cons_of_mem _ q)
      obtain ⟨sl, z1⟩ := J.base.slot b o z n fr nx'
      obtain ⟨_, o', z', hd⟩ := I.stack.mem fr
      rw [z] at z'
      cases z'
      obtain ⟨sl', z2⟩ := frame b fr _ z1 hd
      exact ⟨sl', z2⟩
    · have nx' : b ∉ fp := fun q => nx (List.mem_cons_of_mem _ q)
      obtain ⟨o', z1⟩ := J.base.there b o z nx'
      exact ub.free b o' z1 (J.base.free b o z n nx')
    · have nx' : b ∉ fp := fun q => nx (List.mem_cons_of_mem _ q)
      by_cases hb : b ∈ frs X.stack
      · obtain ⟨_, o', z', hd⟩ := I.stack.mem hb
        rw [z] at z'
        cases z'
        obtain ⟨sl, z1⟩ := J.base.slot b o z (I.stkFree b hb) hb nx'
        obtain ⟨sl', z2⟩ := frame b hb _ z1 hd
        exact ⟨_, z2⟩
      · obtain ⟨o', z1⟩ := J.base.there b o z nx'
        obtain ⟨o2, z2⟩ := ub.there b o' z1 hb
        exact ⟨o2, gB b o2 (toB z2 (oldC z))⟩
    · obtain ⟨m1, z1⟩ := J.base.tbls b ps z
      obtain ⟨m2, z2⟩ := ub.tbls b _ z1
      exact ⟨m1 ++ m2, by rw [z2, Array.append_assoc]⟩
    · refine (hok b o z).stay (fun c u hc q => gB c u (toB q fun r => ?_)) (fun _ q => q) fun _ _ q => q
      rw [r, freeC2] at hc
      rcases hc with hc | hc
      · rw [← hc, freeC2] at z; cases z
      · cases hc
    · rcases List.mem_cons.mp hb with rfl | hb
      · refine ⟨.inr (by rw [hC]; exact I.sz), fun q => ?_, fun x c z q => ?_, fun p hp q => ?_⟩
        · have lt := I.lt
          rw [← q, hC] at lt
          exact Nat.lt_irrefl _ lt
        · obtain ⟨v, o, z2, _⟩ := I.cell x c z
          exact oldC z2 q
        · exact oldC (I.pin p hp).1 q
      · exact ⟨(ok b hb).1.2.2.2.1, (ok b hb).1.2.1, (ok b hb).1.2.2.2.2.1, (ok b hb).1.2.2.2.2.2⟩
  have e1' : h4.get? a = some oe := (keep4 a (nf e1 e3)).trans e1
  have on : wpAny (model X.prog X.w) X.A (setFlight (.ref a) X.env.frame) (fun _ s4 => wpAny (model X.prog X.w) X.A (throw (.ref a) : Sem Value) (fun _ _ => False) X.xe s4) X.xe { s2 with heap := h4 } := by
    rw [hf]
    refine HandSPX.setFlight_onZ held4 fun h5 held5 up5 => wpAny_throw (tk _ _ ?_)
    refine ⟨a, PySem.W.hideAll B [C], _, pins, σ, H2, cls, d, rfl, inv, fun b o z nb => ?_, (Heap.UpToSlots.of_keeps fun b o z => (gof b o z).1).trans up5, .inr (.inr (by rw [hs]; exact held5)), na, rfl, ag, w⟩
    obtain ⟨z1, z2 | z2⟩ := gof b o z
    · obtain ⟨o', q⟩ := Option.isSome_iff_exists.mp z2
      have := held4.1 b o' q
      rw [z1] at this
      cases this
      exact q
    · exact absurd z2 nb
  unfold PySem.passOn
  refine wpAny_bind (wpAny_field e1' e3 e4 ?_)
  rw [if_neg (by simp)]
  first
    | exact wpAny_bind on
    | exact wpAny_bind (wpAny_pure (wpAny_bind on))
end
end Ag

end
/-! ## XL4 -/
section
set_option linter.all false
set_option maxRecDepth 100000
set_option maxHeartbeats 2000000
namespace Ag
open PySem PySem.Spec PyProof.Rows L2
/-! ### [e for target in iter if ..] where e, the tests or both may raise: as a value, as name = [..] -/
/-- tt, te: by what is wished of what is raised -/
def tLcX (W : WX) (wi : TI) (g : TG) (tt : XK → TT) (te : XK → TE) (vs : List Nat) : TE := fun σ H Q => tLc wi g (tt fun c d G => W c d σ G) (te fun c d G => W c d σ G) vs σ H Q
section
variable {X : Cx} {W : WX} {elt tg iter : Expr} {ifs : List Expr} {scope : Scope} {own : List (Str × Nat)} {pos : Pos} {wi : TI} {g : TG} {tt : XK → TT} {te : XK → TE}
/-- what is asked of a part of the block -/
abbrev InBlk (X : Cx) (scope : Scope) (R : Cx → XK → Prop) : Prop := ∀ (E : XK) (use : Option (Value → Sem Unit)) (Qf : Value → Shared → Prop) (acc : Value) (s : Shared) (H : Hp) (C : Addr) (cl : List (Str × Addr)) (fp : List Addr),
  Passes (L2.CX X.prog X.w) (blkX X [] use Qf acc s H scope (compEnvC scope cl C X.env) fp) E → R (blkX X [] use Qf acc s H scope (compEnvC scope cl C X.env) fp) E
theorem pe_lcX (hs : X.stack = X.env :: X.outer) (hf : X.env.frame = some X.env.locals) (tk : Takes X W) (hc : X.calm = true) (hN : X.N.Nodup) (hi : PI X tg iter wi) (bk : BlkOk X.N X.env.scope scope own)
    (hg : InBlk X scope fun Y _ => PG Y tg g) (ht : InBlk X scope fun Y E => PTs Y ifs (tt E)) (he : InBlk X scope fun Y E => PE Y elt (te E)) (hz : ∀ x, foldedSetIterable iter X.env x = pure x := by intro _; rfl) :
    PE X (.ListComp elt [⟨tg, iter, ifs, 0⟩] scope pos) (tLcX W wi g tt te (own.map (·.2))) := by
  constructor
  intro pins s σ H Q I h
  rw [eval_ListComp]
  refine lc_wide (ok := okCalm) (bp := []) (use := none) (tt := tt fun c d G => W c d σ G) (te := te fun c d G => W c d σ G) hN I (fun _ z => nomatch z) (fun _ _ _ _ _ => hc) (.of hi) bk (fun acc s3 H3 C cl fp => ?_) (fun acc s3 H3 C cl fp _ hC J ok => ?_) (fun acc s3 H3 C cl fp _ hC J ok => ?_) hz h ?_
  · exact hg (fun _ _ _ => False) _ _ acc s3 H3 C cl fp fun _ _ _ _ _ _ _ ⟨_, _, _, _, _, _, _, _, _, _, _, _, z⟩ => z.elim
  · exact ht _ _ _ _ _ _ _ _ _ (blk_out hs hf tk hC J ok)
  · exact he _ _ _ _ _ _ _ _ _ (blk_out hs hf tk hC J ok)
  · rintro D C s' m H' I' q hn ⟨f0, f1, _, f3, f4, f5⟩
    exact ⟨m, hn, fun h2 sb => ⟨.ref D, H', I'.turned (t' := s'.toks) (fun b o hb z => (sb.2 b hb).trans z) f0 f1 f3 f4 f5, rfl, q⟩⟩
theorem ps_setLcX {i : Nat} {y : Str} {py spos : Pos} (hs : X.stack = X.env :: X.outer) (hf : X.env.frame = some X.env.locals) (tk : Takes X W) (hc : X.calm = true) (hN : X.N.Nodup) (hy : X.N[i]? = some y) (hl : X.env.scope.names.lookup y = some .local)
    (hsw : swapsWith (.ListComp elt [⟨tg, iter, ifs, 0⟩] scope pos) (some (.Name y py)) spos.line X.env = pure true) (hi : PI X tg iter wi) (bk : BlkOk X.N X.env.scope scope own)
    (hg : InBlk X scope fun Y _ => PG Y tg g) (ht : InBlk X scope fun Y E => PTs Y ifs (tt E)) (he : InBlk X scope fun Y E => PE Y elt (te E)) (hz : ∀ x, foldedSetIterable iter X.env x = pure x := by intro _; rfl) :
    PS X (.Assign [.Name y py] (.ListComp elt [⟨tg, iter, ifs, 0⟩] scope pos) spos) (tAsg (tLcX W wi g tt te (own.map (·.2))) (gName i)) := by
  constructor
  intro pins s σ H D I h
  rw [exec_Assign_Name_used _ _ _ _ hsw]
  apply wpAny_bind
  apply wpAny_standAt
  apply wpAny_bind
  have h : tLcX W wi g tt te (own.map (·.2)) σ H (fun x G => gName i x σ G D.nx) := h
  show wpAny _ X.A (do let _ ← comprehension (.ListComp elt [⟨tg, iter, ifs, 0⟩] scope pos) scope X.env (firstIterPos [⟨tg, iter, ifs, 0⟩] pos) (newList []) false (eval iter X.env) (some (assign (.Name y py) X.env))) _ _ s; apply wpAny_bind
  refine thn (lc_wide (ok := okCalm) (bp := []) (use := some (assign (.Name y py) X.env)) (Qf := fun _ u => SP X pins D .next u) (tt := tt fun c d G => W c d σ G) (te := te fun c d G => W c d σ G) hN I (fun _ z => nomatch z) (fun _ _ _ _ _ => hc) (.of hi) bk (fun acc s3 H3 C cl fp => ?_) (fun acc s3 H3 C cl fp _ hC J ok => ?_) (fun acc s3 H3 C cl fp _ hC J ok => ?_) hz h ?_) fun _ s2 q => wpAny_pure (wpAny_pure q)
  · exact hg (fun _ _ _ => False) _ _ acc s3 H3 C cl fp fun _ _ _ _ _ _ _ ⟨_, _, _, _, _, _, _, _, _, _, _, _, z⟩ => z.elim
  · exact ht _ _ _ _ _ _ _ _ _ (blk_out hs hf tk hC J ok)
  · exact he _ _ _ _ _ _ _ _ _ (blk_out hs hf tk hC J ok)
  · rintro L C s' m H' I' q hn ⟨f0, f1, _, f3, f4, f5⟩
    show wpAny _ _ (assign (.Name y py) X.env (.ref L)) _ _ _
    refine wpAny_assign_Name (store_ok2 (v := V.ref L) I' hN hy (.inl hl) rfl (fun s3 I3 ⟨a, sb, ha⟩ => ?_) (.inr hl))
    have away : C ≠ a := fun z => by
      rcases ha with q | q
      · exact f1 (z.trans q)
      · exact f4 y a q z.symm
    exact ⟨m, hn.sameBut sb away, fun h4 sb4 => ⟨_, H', I3.turned (t' := s3.toks) (fun b o hb z => (sb4.2 b hb).trans z) f0 f1 f3 f4 f5, q⟩⟩
end
end Ag

end
/-! ## XL4N -/
section
set_option linter.all false
set_option maxRecDepth 100000
set_option maxHeartbeats 2000000
namespace Ag
open PySem PySem.Spec PyProof.Rows L2
/-! ### the same of exceptions whose context is None -/
section
variable {X : Cx} {W : WX} {use : Option (Value → Sem Unit)} {Qf : Value → Shared → Prop} {acc : Value} {s : Shared} {H : Hp} {scope : Scope} {C : Addr} {cl : List (Str × Addr)} {fp : List Addr} {pins : List (Addr × Obj)} {σ : L2.St}
/-- what a def that the block calls lets out is taken by the def around -/
theorem blk_outN (hs : X.stack = X.env :: X.outer) (hf : X.env.frame = some X.env.locals) (tk : L2N.Takes X W) (hC : C = s.heap.objs.size) (I : Inv X pins σ H s) (ok : ∀ b ∈ fp, FpOk X pins H b ∧ b < s.heap.objs.size) :
    Passes (L2N.CX X.prog X.w) (blkX X [] use Qf acc s H scope (compEnvC scope cl C X.env) fp) (fun cls d G => W cls d σ G) := by
  intro bq τ H1 s1 e s2 J c
  obtain ⟨a, B, H2, cls, d, rfl, fl, hok, ub, na, os, ag, w⟩ := c
  have sameF : (compEnvC scope cl C X.env).frame = X.env.frame := rfl
  have lC : (compEnvC scope cl C X.env).locals = C := rfl
  have fr : X.A.frames = some (X.env :: X.outer) := I.ok.frames.trans (congrArg some hs)
  have fl' : HandSPX.FlyingZ B (X.env :: X.outer) a (L2N.Zn cls d) s2.heap := by rw [← hs]; exact fl
  -- the block's own dict
  have newC : s.heap.get? C = none := Heap.get?_none_of_le (Nat.le_of_eq hC.symm)
  have outC : C ∉ frs X.stack := fun m => by
    obtain ⟨_, o, z, _⟩ := I.stack.mem m
    rw [newC] at z; cases z
  obtain ⟨m, hm, _⟩ := J.loc
  have hm : s1.heap.Ns C m := hm
  obtain ⟨oC, es, ep, c1, c2, c3⟩ := id hm
  have freeC1 : H1 C = none := J.free
  have c4 : B.get? C = some oC := ub.keep C oC c1 freeC1 outC
  have freeC2 : H2 C = none := ub.free C oC c1 freeC1
  show wpAny _ _ (noteFrame (.ref a) (compEnvC scope cl C X.env)) _ _ _
  rw [note_same sameF]
  refine PXN.looks_onZ L2N.Zn.steady fr hf fl' fun h3 held up3 => ?_
  have c5 : h3.get? C = some oC := held.1 _ _ c4
  refine ⟨m, ⟨oC, es, ep, c5, c2, c3⟩, fun h4 sb => ?_⟩
  rw [on_same sameF]
  have keep4 : ∀ b, b ≠ C → h4.get? b = h3.get? b := sb.2
  -- the ground without it
  have B_of : ∀ {b o}, (PySem.W.hideAll B [C]).get? b = some o → B.get? b = some o ∧ b ≠ C := fun {b o} z => by
    refine ⟨PySem.W.of_hideAll _ z, fun q => ?_⟩
    rw [q, PySem.W.hideAll_none [C] (by simp)] at z
    cases z
  have toB : ∀ {b o}, B.get? b = some o → b ≠ C → (PySem.W.hideAll B [C]).get? b = some o := fun z q => PySem.W.hideAll_get _ z (by simpa using q)
  obtain ⟨k1, k2, k3, oe, vs, T, oT, ts, e1, e2, e3, e4, e5, e6, e7, e8, e9⟩ := held
  have nf : ∀ {x : Addr} {o : Obj} {vs : Array Value}, h3.get? x = some o → o.data = .fields vs → x ≠ C := fun {x o vs} z q r => by
    rw [r, c5] at z
    have z := Option.some.inj z
    rw [← z, c2] at q
    cases q
  have noB : ∀ {b}, B.get? b = none → (PySem.W.hideAll B [C]).get? b = none := fun {b} z => by
    cases q : (PySem.W.hideAll B [C]).get? b with
    | none => rfl
    | some o => rw [(B_of q).1] at z; cases z
  have frC : ∀ b ∈ frs (X.env :: X.outer), b ≠ C := fun b hb q => outC (by rw [hs, ← q]; exact hb)
  have held4 : HandSPX.HeldZ (PySem.W.hideAll B [C]) (X.env :: X.outer) a (L2N.Zn cls d) X.env.locals h4 :=
    ⟨fun b o z => (keep4 b (B_of z).2).trans (k1 b o (B_of z).1), noB k2, frames_at k3 (fun b hb => keep4 b (frC b hb)) (fun b hb => by
      obtain ⟨q, _⟩ := k3.mem hb
      exact noB q), oe, vs, T, oT, ts, (keep4 a (nf e1 e3)).trans e1, e2, e3, e4, noB e5, e6, (keep4 T (nf e7 e8)).trans e7, e8, e9⟩
  obtain ⟨G, g1, g2⟩ := restrict h4 fun b => ((PySem.W.hideAll B [C]).get? b).isSome || decide (b ∈ frs X.stack)
  have gB : ∀ b o, (PySem.W.hideAll B [C]).get? b = some o → G.get? b = some o := fun b o z => by
    rw [g1 b (by rw [z]; rfl)]
    exact held4.1 b o z
  have gF : ∀ b, b ∈ frs X.stack → G.get? b = h4.get? b := fun b hb => g1 b (by rw [decide_eq_true hb, Bool.or_true])
  have gof : ∀ b o, G.get? b = some o → h4.get? b = some o ∧ (((PySem.W.hideAll B [C]).get? b).isSome = true ∨ b ∈ frs X.stack) := fun b o z => by
    cases q : (((PySem.W.hideAll B [C]).get? b).isSome || decide (b ∈ frs X.stack)) with
    | false => rw [g2 b q] at z; cases z
    | true =>
      rw [g1 b q] at z
      rw [Bool.or_eq_true, decide_eq_true_eq] at q
      exact ⟨z, q⟩
  have oldC : ∀ {b o}, s.heap.get? b = some o → b ≠ C := fun {b o} z q => by rw [q, newC] at z; cases z
  -- a frame's object, up to its slots
  have frame : ∀ b ∈ frs X.stack, ∀ o, s1.heap.get? b = some o → (∀ vs, o.data ≠ .fields vs) → ∃ sl, G.get? b = some { o with slots := sl } := fun b hb o z hd => by
    obtain ⟨sl, z2⟩ := ub.slot b o z hb
    obtain ⟨sl3, z3⟩ := up3 b _ z2 hd
    exact ⟨sl3, by rw [gF b hb, keep4 b (fun q => outC (q ▸ hb))]; exact z3⟩
  have inv : Inv X pins σ H2 { s2 with heap := G } := by
    refine I.call' (ch := C :: fp) (os.trans J.os) ⟨fun b o z n nfr nx => ?_, fun b o z n fr nx => ?_, fun b o z n nx => ?_, fun b o z nx => ?_, fun b xs z => ub.tups b xs (J.base.tups b xs z), fun b o xs z => ub.frzs b o xs (J.base.frzs b o xs z), fun b ps z => ?_⟩ (fun b o z => ?_) ag (fun b hb => ?_)
    · have nx' : b ∉ fp := fun q => nx (List.mem_cons_of_mem _ q)
      exact gB b o (toB (ub.keep b o (J.base.keep b o z n nfr nx') (J.base.free b o z n nx') nfr) (oldC z))
    · have nx' : b ∉ fp := fun q => nx (List.mem_cons_of_mem _ q)
      obtain ⟨sl, z1⟩ := J.base.slot b o z n fr nx'
      obtain ⟨_, o', z', hd⟩ := I.stack.mem fr
      rw [z] at z'
      cases z'
      obtain ⟨sl', z2⟩ := frame b fr _ z1 hd
      exact ⟨sl', z2⟩
    · have nx' : b ∉ fp := fun q => nx (List.mem_cons_of_mem _ q)
      obtain ⟨o', z1⟩ := J.base.there b o z nx'
      exact ub.free b o' z1 (J.base.free b o z n nx')
    · have nx' : b ∉ fp := fun q => nx (List.mem_cons_of_mem _ q)
      by_cases hb : b ∈ frs X.stack
      · obtain ⟨_, o', z', hd⟩ := I.stack.mem hb
        rw [z] at z'
        cases z'
        obtain ⟨sl, z1⟩ := J.base.slot b o z (I.stkFree b hb) hb nx'
        obtain ⟨sl', z2⟩ := frame b hb _ z1 hd
        exact ⟨_, z2⟩
      · obtain ⟨o', z1⟩ := J.base.there b o z nx'
        obtain ⟨o2, z2⟩ := ub.there b o' z1 hb
        exact ⟨o2, gB b o2 (toB z2 (oldC z))⟩
    · obtain ⟨m1, z1⟩ := J.base.tbls b ps z
      obtain ⟨m2, z2⟩ := ub.tbls b _ z1
      exact ⟨m1 ++ m2, by rw [z2, Array.append_assoc]⟩
    · refine (hok b o z).stay (fun c u hc q => gB c u (toB q fun r => ?_)) (fun _ q => q) fun _ _ q => q
      rw [r, freeC2] at hc
      rcases hc with hc | hc
      · rw [← hc, freeC2] at z; cases z
      · cases hc
    · rcases List.mem_cons.mp hb with rfl | hb
      · refine ⟨.inr (by rw [hC]; exact I.sz), fun q => ?_, fun x c z q => ?_, fun p hp q => ?_⟩
        · have lt := I.lt
          rw [← q, hC] at lt
          exact Nat.lt_irrefl _ lt
        · obtain ⟨v, o, z2, _⟩ := I.cell x c z
          exact oldC z2 q
        · exact oldC (I.pin p hp).1 q
      · exact ⟨(ok b hb).1.2.2.2.1, (ok b hb).1.2.1, (ok b hb).1.2.2.2.2.1, (ok b hb).1.2.2.2.2.2⟩
  have e1' : h4.get? a = some oe := (keep4 a (nf e1 e3)).trans e1
  have on : wpAny (model X.prog X.w) X.A (setFlight (.ref a) X.env.frame) (fun _ s4 => wpAny (model X.prog X.w) X.A (throw (.ref a) : Sem Value) (fun _ _ => False) X.xe s4) X.xe { s2 with heap := h4 } := by
    rw [hf]
    refine HandSPX.setFlight_onZ held4 fun h5 held5 up5 => wpAny_throw (tk _ _ ?_)
    refine ⟨a, PySem.W.hideAll B [C], _, pins, σ, H2, cls, d, rfl, inv, fun b o z nb => ?_, (Heap.UpToSlots.of_keeps fun b o z => (gof b o z).1).trans up5, .inr (.inr (by rw [hs]; exact held5)), na, rfl, ag, w⟩
    obtain ⟨z1, z2 | z2⟩ := gof b o z
    · obtain ⟨o', q⟩ := Option.isSome_iff_exists.mp z2
      have := held4.1 b o' q
      rw [z1] at this
      cases this
      exact q
    · exact absurd z2 nb
  unfold PySem.passOn
  refine wpAny_bind (wpAny_field e1' e3 e4 ?_)
  rw [if_neg (by simp)]
  first
    | exact wpAny_bind on
    | exact wpAny_bind (wpAny_pure (wpAny_bind on))

end
section
variable {X : Cx} {W : WX} {elt tg iter : Expr} {ifs : List Expr} {scope : Scope} {own : List (Str × Nat)} {pos : Pos} {wi : TI} {g : TG} {tt : XK → TT} {te : XK → TE}
/-- what is asked of a part of the block -/
abbrev InBlkN (X : Cx) (scope : Scope) (R : Cx → XK → Prop) : Prop := ∀ (E : XK) (use : Option (Value → Sem Unit)) (Qf : Value → Shared → Prop) (acc : Value) (s : Shared) (H : Hp) (C : Addr) (cl : List (Str × Addr)) (fp : List Addr),
  Passes (L2N.CX X.prog X.w) (blkX X [] use Qf acc s H scope (compEnvC scope cl C X.env) fp) E → R (blkX X [] use Qf acc s H scope (compEnvC scope cl C X.env) fp) E
theorem pe_lcXN (hs : X.stack = X.env :: X.outer) (hf : X.env.frame = some X.env.locals) (tk : L2N.Takes X W) (hc : X.calm = true) (hN : X.N.Nodup) (hi : PI X tg iter wi) (bk : BlkOk X.N X.env.scope scope own)
    (hg : InBlkN X scope fun Y _ => PG Y tg g) (ht : InBlkN X scope fun Y E => PTs Y ifs (tt E)) (he : InBlkN X scope fun Y E => PE Y elt (te E)) (hz : ∀ x, foldedSetIterable iter X.env x = pure x := by intro _; rfl) :
    PE X (.ListComp elt [⟨tg, iter, ifs, 0⟩] scope pos) (tLcX W wi g tt te (own.map (·.2))) := by
  constructor
  intro pins s σ H Q I h
  rw [eval_ListComp]
  refine lc_wide (ok := okCalm) (bp := []) (use := none) (tt := tt fun c d G => W c d σ G) (te := te fun c d G => W c d σ G) hN I (fun _ z => nomatch z) (fun _ _ _ _ _ => hc) (.of hi) bk (fun acc s3 H3 C cl fp => ?_) (fun acc s3 H3 C cl fp _ hC J ok => ?_) (fun acc s3 H3 C cl fp _ hC J ok => ?_) hz h ?_
  · exact hg (fun _ _ _ => False) _ _ acc s3 H3 C cl fp fun _ _ _ _ _ _ _ ⟨_, _, _, _, _, _, _, _, _, _, _, _, z⟩ => z.elim
  · exact ht _ _ _ _ _ _ _ _ _ (blk_outN hs hf tk hC J ok)
  · exact he _ _ _ _ _ _ _ _ _ (blk_outN hs hf tk hC J ok)
  · rintro D C s' m H' I' q hn ⟨f0, f1, _, f3, f4, f5⟩
    exact ⟨m, hn, fun h2 sb => ⟨.ref D, H', I'.turned (t' := s'.toks) (fun b o hb z => (sb.2 b hb).trans z) f0 f1 f3 f4 f5, rfl, q⟩⟩
theorem ps_setLcXN {i : Nat} {y : Str} {py spos : Pos} (hs : X.stack = X.env :: X.outer) (hf : X.env.frame = some X.env.locals) (tk : L2N.Takes X W) (hc : X.calm = true) (hN : X.N.Nodup) (hy : X.N[i]? = some y) (hl : X.env.scope.names.lookup y = some .local)
    (hsw : swapsWith (.ListComp elt [⟨tg, iter, ifs, 0⟩] scope pos) (some (.Name y py)) spos.line X.env = pure true) (hi : PI X tg iter wi) (bk : BlkOk X.N X.env.scope scope own)
    (hg : InBlkN X scope fun Y _ => PG Y tg g) (ht : InBlkN X scope fun Y E => PTs Y ifs (tt E)) (he : InBlkN X scope fun Y E => PE Y elt (te E)) (hz : ∀ x, foldedSetIterable iter X.env x = pure x := by intro _; rfl) :
    PS X (.Assign [.Name y py] (.ListComp elt [⟨tg, iter, ifs, 0⟩] scope pos) spos) (tAsg (tLcX W wi g tt te (own.map (·.2))) (gName i)) := by
  constructor
  intro pins s σ H D I h
  rw [exec_Assign_Name_used _ _ _ _ hsw]
  apply wpAny_bind
  apply wpAny_standAt
  apply wpAny_bind
  have h : tLcX W wi g tt te (own.map (·.2)) σ H (fun x G => gName i x σ G D.nx) := h
  show wpAny _ X.A (do let _ ← comprehension (.ListComp elt [⟨tg, iter, ifs, 0⟩] scope pos) scope X.env (firstIterPos [⟨tg, iter, ifs, 0⟩] pos) (newList []) false (eval iter X.env) (some (assign (.Name y py) X.env))) _ _ s; apply wpAny_bind
  refine thn (lc_wide (ok := okCalm) (bp := []) (use := some (assign (.Name y py) X.env)) (Qf := fun _ u => SP X pins D .next u) (tt := tt fun c d G => W c d σ G) (te := te fun c d G => W c d σ G) hN I (fun _ z => nomatch z) (fun _ _ _ _ _ => hc) (.of hi) bk (fun acc s3 H3 C cl fp => ?_) (fun acc s3 H3 C cl fp _ hC J ok => ?_) (fun acc s3 H3 C cl fp _ hC J ok => ?_) hz h ?_) fun _ s2 q => wpAny_pure (wpAny_pure q)
  · exact hg (fun _ _ _ => False) _ _ acc s3 H3 C cl fp fun _ _ _ _ _ _ _ ⟨_, _, _, _, _, _, _, _, _, _, _, _, z⟩ => z.elim
  · exact ht _ _ _ _ _ _ _ _ _ (blk_outN hs hf tk hC J ok)
  · exact he _ _ _ _ _ _ _ _ _ (blk_outN hs hf tk hC J ok)
  · rintro L C s' m H' I' q hn ⟨f0, f1, _, f3, f4, f5⟩
    show wpAny _ _ (assign (.Name y py) X.env (.ref L)) _ _ _
    refine wpAny_assign_Name (store_ok2 (v := V.ref L) I' hN hy (.inl hl) rfl (fun s3 I3 ⟨a, sb, ha⟩ => ?_) (.inr hl))
    have away : C ≠ a := fun z => by
      rcases ha with q | q
      · exact f1 (z.trans q)
      · exact f4 y a q z.symm
    exact ⟨m, hn.sameBut sb away, fun h4 sb4 => ⟨_, H', I3.turned (t' := s3.toks) (fun b o hb z => (sb4.2 b hb).trans z) f0 f1 f3 f4 f5, q⟩⟩
end
end Ag

end
/-! ## XH2 -/
section
set_option linter.all false
set_option maxRecDepth 100000
set_option maxHeartbeats 2000000
namespace Ag
open PySem PySem.Spec PyProof.Rows L2 HotX L2H
/-! ### within an except suite: comprehensions over lists and tuples, a tuple taken apart, a, b = x, y -/
/-- the handled exception is held by the context -/
theorem hot_over {X : Cx} {pins : List (Addr × Obj)} {σ : L2.St} {H : Hp} {s : Shared} (c : HotC X) (I : Inv X pins σ H s) : ∃ x, HotAt X.A x s.heap ∧ x ≠ X.env.locals ∧ (∀ b, FpOk X pins H b → x ≠ b) ∧ x ∉ X.fs := by
  obtain ⟨p, ⟨e1, vs, e2, e3⟩, hp⟩ := c
  have hp := List.mem_append_left pins hp
  obtain ⟨a1, _, a3, a4, _⟩ := I.pin p hp
  exact ⟨p.1, ⟨e1, p.2, vs, a1, e2, e3⟩, a3, fun b f => f.2.2.2.2.2 p hp, a4⟩
section
variable {P : Program} {w : World} {K : PySem.W.Frag} {tg : Expr}
theorem trn_list (a it : Addr) : Trn HotC P w K tg (Itl K a) [it] it (fun i h => h.IsListIter it a i) := by
  have t := turn_list (P := P) (w := w) (K := K) (tg := tg) a it
  refine ⟨t.obj, t.keep, ?_, ?_, t.self⟩
  · rintro X n pins s σ H E rfl rfl rfl hc I f st ⟨xs, x, hq, hx⟩
    obtain ⟨its, rv, pl, _⟩ := I.list hq
    obtain ⟨u, hu, ru⟩ := rv.get hx
    obtain ⟨f0, f1, f2, f3, f4, f5⟩ := f it (List.mem_singleton.mpr rfl)
    refine wpAny_pyNext_list_item st pl.isList (x := u) (by rw [List.getElem?_toArray]; exact hu) fun h2 st2 sb => ?_
    have J : Inv X pins σ H { s with heap := h2 } := I.turned (t' := s.toks) (fun b o nb z => (sb.2 b nb).trans z) f0 f1 f3 f4 f5
    obtain ⟨o, e, c, d⟩ := id st2
    refine ⟨u, rfl, go_of (s := { s with heap := h2 }) e c d (by decide) ⟨x, H, J, ru, ⟨rfl, fun ys hy => ?_⟩, st2, fun b hb => (f b hb).1⟩⟩
    rw [I.list_inj hy hq]
    exact hx
  · rintro X n pins s σ H E rfl rfl rfl hc I f st ⟨xs, hq, hx⟩
    obtain ⟨its, rv, pl, _⟩ := I.list hq
    have ff := f it (List.mem_singleton.mpr rfl)
    obtain ⟨f0, f1, f2, f3, f4, f5⟩ := id ff
    obtain ⟨x1, hot, _, ap, _⟩ := hot_over hc I
    have hl := rv.length
    exact lst_end_hot hot (ap it ff) st pl.isList (by rw [List.getElem?_toArray, List.getElem?_eq_none (by omega)]) fun h2 eb => ⟨rfl, I.turned (t' := s.toks) (fun b o nb z => eb b o nb z) f0 f1 f3 f4 f5⟩
theorem trn_tup (a it : Addr) : Trn HotC P w K tg (Itt K a) [it] it (fun i h => h.IsTupleIter it a i) := by
  have t := turn_tuple (P := P) (w := w) (K := K) (tg := tg) a it
  refine ⟨t.obj, t.keep, ?_, ?_, t.self⟩
  · rintro X n pins s σ H E rfl rfl rfl hc I f st ⟨xs, x, hq, hx⟩
    obtain ⟨its, rv, pt, _⟩ := I.tuple hq
    obtain ⟨u, hu, ru⟩ := rv.get hx
    obtain ⟨f0, f1, f2, f3, f4, f5⟩ := f it (List.mem_singleton.mpr rfl)
    refine wpAny_pyNext_tuple_item st (show s.heap.IsTuple a its.toArray from pt) (x := u) (by rw [List.getElem?_toArray]; exact hu) fun h2 st2 sb => ?_
    have J : Inv X pins σ H { s with heap := h2 } := I.turned (t' := s.toks) (fun b o nb z => (sb.2 b nb).trans z) f0 f1 f3 f4 f5
    obtain ⟨o, e, c, d⟩ := id st2
    refine ⟨u, rfl, go_of (s := { s with heap := h2 }) e c d (by decide) ⟨x, H, J, ru, ⟨rfl, fun ys hy => ?_⟩, st2, fun b hb => (f b hb).1⟩⟩
    rw [I.tuple_inj hy hq]
    exact hx
  · rintro X n pins s σ H E rfl rfl rfl hc I f st ⟨xs, hq, hx⟩
    obtain ⟨its, rv, pt, _⟩ := I.tuple hq
    have ff := f it (List.mem_singleton.mpr rfl)
    obtain ⟨f0, f1, f2, f3, f4, f5⟩ := id ff
    obtain ⟨x1, hot, _, ap, _⟩ := hot_over hc I
    have hl := rv.length
    exact tup_end_hot hot (ap it ff) st pt (by rw [List.getElem?_toArray, List.getElem?_eq_none (by omega)]) fun h2 eb => ⟨rfl, I.turned (t' := s.toks) (fun b o nb z => eb b o nb z) f0 f1 f3 f4 f5⟩
end
section
variable {X : Cx} {tg : Expr}
theorem pic_list {l : Expr} {tl : TE} (hl : PE X l tl) : Pic HotC X tg l (iList X.K tl) := by
  intro pins s σ H R I h
  refine thn (hl.run pins s σ H _ I h) fun v s1 ⟨x, H1, I1, r1, a, e, ⟨xs, hq⟩, q⟩ => ?_
  subst e
  cases r1
  obtain ⟨its, rv, pl, _⟩ := I1.list hq
  refine wpAny_pyIter_list pl.isList ⟨s1.heap.objs.size, [s1.heap.objs.size], _, _, H1, rfl, I1.kept (t' := s1.toks) fun b o z => Heap.get?_push_of_some _ z, trn_list a _, ⟨_, Heap.get?_push_size _ rfl, rfl, rfl⟩, fun b hb => ?_, q⟩
  rw [List.mem_singleton.mp hb]
  exact I1.fpOk (Nat.le_refl _) (I1.hok.fresh (Nat.le_refl _))
theorem pic_tup {l : Expr} {tl : TE} (hl : PE X l tl) : Pic HotC X tg l (iTup X.K tl) := by
  intro pins s σ H R I h
  refine thn (hl.run pins s σ H _ I h) fun v s1 ⟨x, H1, I1, r1, a, e, ⟨xs, hq⟩, q⟩ => ?_
  subst e
  cases r1
  obtain ⟨its, rv, pt, _⟩ := I1.tuple hq
  refine wpAny_pyIter_tuple (show s1.heap.IsTuple a its.toArray from pt) ⟨s1.heap.objs.size, [s1.heap.objs.size], _, _, H1, rfl, I1.kept (t' := s1.toks) fun b o z => Heap.get?_push_of_some _ z, trn_tup a _, ⟨_, Heap.get?_push_size _ rfl, rfl, rfl⟩, fun b hb => ?_, q⟩
  rw [List.mem_singleton.mp hb]
  exact I1.fpOk (Nat.le_refl _) (I1.hok.fresh (Nat.le_refl _))
variable {elt iter : Expr} {ifs : List Expr} {scope : Scope} {own : List (Str × Nat)} {pos : Pos} {wi : TI} {g : TG} {tt : TT} {te : TE}
/-- a part of such a comprehension's block: nothing is raised in it, the handled exception is held -/
abbrev InHot (X : Cx) (p : Addr × Obj) (scope : Scope) (R : Cx → Prop) : Prop := ∀ (s : Shared) (H : Hp) (C : Addr) (cl : List (Str × Addr)) (fp : List Addr), R ((X.blk s H scope (compEnvC scope cl C X.env) fp).tr [p] fun _ _ => False)
theorem pe_lcH {p : Addr × Obj} (hp : p ∈ X.pn) (hot : Hot1 X.A p) (hN : X.N.Nodup) (hi : Pic HotC X tg iter wi) (bk : BlkOk X.N X.env.scope scope own) (hg : InHot X p scope fun Y => PG Y tg g) (ht : InHot X p scope fun Y => PTs Y ifs tt) (he : InHot X p scope fun Y => PE Y elt te)
    (hz : ∀ x, foldedSetIterable iter X.env x = pure x := by intro _; rfl) : PE X (.ListComp elt [⟨tg, iter, ifs, 0⟩] scope pos) (tLc wi g tt te (own.map (·.2))) := by
  constructor
  intro pins s σ H Q I h
  rw [eval_ListComp]
  have un : ∀ {Y : Cx} {E : Value → Shared → Prop} {qs : List (Addr × Obj)} {τ : L2.St} {G : Hp} {u : Shared}, Inv (Y.wish E) qs τ G u → Inv Y qs τ G u := fun J => J.unwish
  have to : ∀ {Y : Cx} {E : Value → Shared → Prop} {qs : List (Addr × Obj)} {τ : L2.St} {G : Hp} {u : Shared}, Inv Y qs τ G u → Inv (Y.wish E) qs τ G u := fun J => J.wish _
  refine lc_wide (ok := HotC) (bp := [p]) (use := none) hN I (fun q hq => ?_) (fun _ _ _ _ _ => ⟨p, hot, List.mem_singleton.mpr rfl⟩) hi bk (fun acc s3 H3 C cl fp => ⟨fun qs u τ G v x R J r q => ?_⟩) (fun acc s3 H3 C cl fp _ hC J ok => ⟨fun qs u τ G R J q => ?_⟩) (fun acc s3 H3 C cl fp _ hC J ok => ⟨fun qs u τ G R J q => ?_⟩) hz h ?_
  · rw [List.mem_singleton.mp hq]
    exact List.mem_append_left _ hp
  · exact wpAny_mono ((hg s3 H3 C cl fp).run qs u τ G v x R (to (E := fun _ _ => False) J) r q) (fun _ _ ⟨a, b, c, d⟩ => ⟨a, b, un (E := fun _ _ => False) (Y := blkX X [p] none _ acc s3 H3 scope _ fp) c, d⟩) fun _ _ z => z.elim
  · exact wpAny_mono ((ht s3 H3 C cl fp).run qs u τ G R (to (E := fun _ _ => False) J) q) (fun _ _ ⟨b, c, d⟩ => ⟨b, un (E := fun _ _ => False) (Y := blkX X [p] none _ acc s3 H3 scope _ fp) c, d⟩) fun _ _ z => z.elim
  · exact wpAny_mono ((he s3 H3 C cl fp).run qs u τ G R (to (E := fun _ _ => False) J) q) (fun _ _ ⟨a, b, c, d⟩ => ⟨a, b, un (E := fun _ _ => False) (Y := blkX X [p] none _ acc s3 H3 scope _ fp) c, d⟩) fun _ _ z => z.elim
  · rintro D C s' m H' I' q hn ⟨f0, f1, _, f3, f4, f5⟩
    exact ⟨m, hn, fun h2 sb => ⟨.ref D, H', I'.turned (t' := s'.toks) (fun b o hb z => (sb.2 b hb).trans z) f0 f1 f3 f4 f5, rfl, q⟩⟩
end
end Ag

end
/-! ## TryI -/
section
set_option linter.all false
set_option maxRecDepth 100000
set_option maxHeartbeats 4000000
namespace Ag
open PySem PySem.Spec PyProof.Rows L2
/-! ### isinstance of the exception that the suite holds, with fields of its own -/
/-- isinstance(e, C) -/
def rIsX (K : PySem.W.Frag) (cls : Value) (d : Option Addr) (a : Addr) : List V → Hp → VK → Prop := fun xs H Q => ∃ (D dd : Addr) (fs : List (Str × V)) (c : V) (cv : Value) (b : Bool),
  xs = [.ref a, c] ∧ cls = .ref D ∧ d = some dd ∧ H dd = some (.xd fs) ∧ ExcC K D ∧ (∀ u, RelV c u → u = cv) ∧ PySem.W.kitOne K (.ref D) cv = some b ∧ Q (.bl b) H
theorem call_isX {X : Cx} {a : Addr} {oe : Obj} {cls : Value} {d : Option Addr} {pn : List (Addr × Obj)} (hz : Zc cls d oe) (hf : ∃ vs, oe.data = .fields vs) : CallR (X.suite a ((a, oe) :: pn)) (.builtin "isinstance") (rIsX X.K cls d a) := by
  intro pins s σ H xs us Q I r h
  obtain ⟨D, dd, fs, c, cv, b, rfl, rfl, rfl, ea, C, hcv, e, q⟩ := h
  cases r with
  | cons rx rr =>
    cases rr with
    | cons rt rr =>
      cases rr
      cases rx
      have ec := hcv _ rt
      subst ec
      obtain ⟨hget, _⟩ := I.pin (a, oe) (List.mem_append.mpr (.inl List.mem_cons_self))
      obtain ⟨vs, hv⟩ := hf
      have hx : ObjOk X.prog X.w H s.heap dd (.xd fs) := I.hok dd _ ea
      obtain ⟨mA, hns, _⟩ := hx
      obtain ⟨od, ho, _⟩ := lookIn_ns hns
      have J : PySem.W.InstAt s.heap a oe D (some od) := ⟨hget, hz.1, by unfold PySem.W.notCls; rw [hv] <;> rfl, by rw [hz.2]; exact ho⟩
      obtain ⟨cdD, hcD, _⟩ := PySem.W.any_some C.hd
      exact PySem.W.kia_one (PySem.W.kitx_exc (by rw [hcD] <;> rfl) C.hg C.hk C.hs C.ha C.hn C.ht C.hm) I.kIn J e (fun z => nomatch z) fun tk => ⟨.bl b, H, I.kept (t' := tk) fun _ _ z => z, rfl, q⟩
/-- a class of the module, as a value -/
theorem pe_cls {X : Cx} {x : Str} {C : Addr} {p : Pos} (hg : Gl X x) (hm : X.mg x = some (.ref C)) (hdb : (x == ("__debug__" : Str)) = false := by decide) : PE X (.Name x p) (tC (.ref C)) :=
  ⟨fun pins s σ H Q I h => ld_glob I hg hm ⟨.ref C, H, I, rfl, h⟩ hdb⟩
theorem ref_only {C : Addr} : ∀ u, RelV (.ref C) u → u = .ref C := fun u h => h
end Ag

end
/-! ## XH3 -/
section
set_option linter.all false
set_option maxRecDepth 100000
set_option maxHeartbeats 2000000
namespace Ag
open PySem PySem.Spec PyProof.Rows L2 HotX L2H
section
variable {prog : Program} {w : World} {A : Around} {E : Value → Shared → Prop} {s : Shared} {x1 : Addr}
theorem items_hot {t : Addr} {xs : Array Value} {Q : List Value → Shared → Prop} (hot : HotAt A x1 s.heap) (ht : IsTup s.heap t xs) (k : ∀ h', Heap.ExtBut s.heap.objs.size s.heap h' → Q xs.toList { s with heap := h' }) :
    wpAny (model prog w) A (unpackItems (.ref t) xs.size none) Q E s := by
  obtain ⟨hh, o1, v1, g1, d1, c1⟩ := hot
  have ne : t ≠ s.heap.objs.size := by
    obtain ⟨o, z, _⟩ := ht
    exact Nat.ne_of_lt (Heap.lt_size z)
  unfold unpackItems
  apply wpAny_bind
  unfold notIterableAtAll
  refine wpAny_bind (wpAny_specialOf ht.typeIs slot_tuple_iter.lookup (wpAny_pure ?_))
  simp only [Bool.false_eq_true, if_false]; refine wpAny_bind (wpAny_holding (iter_tuple ht ?_))
  refine wpAny_bind (wpAny_holding (draw_tuple ne xs.size 0 _ _ ⟨_, Heap.get?_push_size _ rfl, rfl, rfl⟩ (ht.push _) (by omega) fun h1 it1 sb => ?_))
  have e : List.take xs.size (List.drop 0 xs.toList) = xs.toList := by rw [List.drop_zero]; exact List.take_of_length_le (by simp)
  rw [e, if_neg (by simp)]
  have lt1 : x1 ≠ s.heap.objs.size := Nat.ne_of_lt (Heap.lt_size g1)
  have at1 : h1.get? x1 = some o1 := (sb.2 x1 lt1).trans (Heap.get?_push_of_some _ g1)
  refine wpAny_bind (wpAny_holding (tup_end_hot (s := { s with heap := h1 }) ⟨hh, o1, v1, at1, d1, c1⟩ lt1 it1 ((ht.push _).extBut sb.extBut ne) (by simp) fun h2 eb => ?_))
  simp only [Option.isSome_none, Bool.false_eq_true, if_false]; exact wpAny_pure (k h2 fun b o nb z => eb b o nb (sb.extBut b o nb (Heap.get?_push_of_some _ z)))
end
section
variable {X : Cx} {pos : Pos}
/-- (a, b, ..) = a tuple of that length -/
theorem pg_tupH {es : List Expr} {k : Nat} {t : TGs} {n : Nat} (c : HotC X) (h : PGs X es t) (hn : (assignEach es X.env).length = n := by rfl) (hst : (assignEach es X.env).findIdx? (·.1) = none := by rfl) : PG X (.Tuple es k pos) (gTup X.K n t) := by
  constructor
  intro pins s σ H v u Q I r ⟨a, xs, e1, hq, hl, q⟩
  subst e1
  cases r
  obtain ⟨its, rv, ht, _⟩ := I.tuple hq
  obtain ⟨x1, hot, _⟩ := hot_over c I
  have len : (assignEach es X.env).length = its.toArray.size := by rw [hn, ← hl, rv.length]; simp
  rw [assign_Tuple]
  refine wpAny_bind (wpAny_standAt ?_)
  unfold unpack
  rw [len, hst]
  refine wpAny_bind (wpAny_holding (items_hot hot ht fun h2 eb => ?_))
  exact h.run pins _ σ H xs _ Q (I.kept (t' := s.toks) fun b o z => eb b o (Nat.ne_of_lt (Heap.lt_size z)) z) (by simpa using rv) q
/-- a, b = x, y -/
theorem ps_parH {i j : Nat} {x y : Str} {a b : Expr} {ta : TA} {px py pt : Pos} {kt k2 pt2} (c : HotC X) (hN : X.N.Nodup) (hi : X.N[i]? = some x) (hj : X.N[j]? = some y) (hij : i ≠ j) (hx : X.env.scope.names.lookup x = some .local) (hy : X.env.scope.names.lookup y = some .local)
    (ha : PA X [a, b] ta) (hw : swappedStores [.Tuple [.Name x px, .Name y py] kt pt] (.Tuple [a, b] k2 pt2) X.env = pure (some [x, y])) (hs : swapsWithSole [.Tuple [.Name x px, .Name y py] kt pt] (.Tuple [a, b] k2 pt2) pos.line X.env = pure false := by rfl) :
    PS X (.Assign [.Tuple [.Name x px, .Name y py] kt pt] (.Tuple [a, b] k2 pt2) pos) (tPar i j ta) := by
  constructor
  intro pins s σ H D I h
  rw [exec_Assign_arm]; refine wpAny_bind (wpAny_standAt ?_)
  rw [hs]; refine wpAny_bind (wpAny_pure ?_)
  rw [if_neg (by decide)]; refine wpAny_bind (Tuple_ (thn (ha.run _ pins s σ H _ I h) fun us s1 ⟨vs, H1, I1, r1, v, w, e1, q1⟩ => ?_))
  subst e1
  obtain ⟨u1, u2, eu, rv, rw'⟩ : ∃ u1 u2, us = [u1, u2] ∧ RelV v u1 ∧ RelV w u2 := by
    cases r1 with
    | cons k1 l1 => cases l1 with
      | cons k2 l2 => cases l2; exact ⟨_, _, rfl, k1, k2⟩
  subst eu
  refine wpAny_newObj_type ?_ (by show 2 ≤ sizeLine; decide)
  have I2 : Inv X pins σ H1 { s1 with heap := s1.heap.push { cls := .type "tuple", data := .seq [u1, u2].toArray } } := I1.kept (t' := s1.toks) fun _ _ z => Heap.get?_push_of_some _ z
  rw [hw]; refine wpAny_bind (wpAny_pure ?_)
  show wpAny (model X.prog X.w) X.A (do rule "assign.swapped-stores"; let items ← unpackItems (.ref s1.heap.objs.size) 2 none; assignInOrder [fun v => bindName X.env y v, fun v => bindName X.env x v] items.reverse; pure Flow.next) (SP X pins D) _ _
  obtain ⟨x1, hot, _⟩ := hot_over c I2
  refine wpAny_bind (wpAny_rule (wpAny_bind (items_hot (s := { s1 with heap := s1.heap.push { cls := .type "tuple", data := .seq [u1, u2].toArray } }) (xs := #[u1, u2]) hot (IsTup.new s1.heap _) fun h2 eb => ?_)))
  have I3 := I2.kept (h' := h2) (t' := s1.toks) fun b o z => eb b o (Nat.ne_of_lt (Heap.lt_size z)) z
  refine wpAny_bind (assignInOrder_cons (wpAny_bindName (store_ok I3 hN hj (.inl hy) rw' (fun s2 I4 => assignInOrder_cons (wpAny_bindName (store_ok I4 hN hi (.inl hx) rv (fun s3 I5 => assignInOrder_nil (wpAny_pure ?_)) (.inr hx)))) (.inr hy))))
  rw [List.set_comm _ _ (Ne.symm hij)] at I5; exact ⟨_, H1, I5, q1⟩
/-- name = [..] on one line -/
theorem ps_setLcH {elt tg iter : Expr} {ifs : List Expr} {scope : Scope} {own : List (Str × Nat)} {wi : TI} {g : TG} {tt : TT} {te : TE} {i : Nat} {y : Str} {py spos : Pos} {p : Addr × Obj} (hp : p ∈ X.pn) (hot : Hot1 X.A p) (hN : X.N.Nodup) (hy : X.N[i]? = some y) (hl : X.env.scope.names.lookup y = some .local)
    (hsw : swapsWith (.ListComp elt [⟨tg, iter, ifs, 0⟩] scope pos) (some (.Name y py)) spos.line X.env = pure true) (hi : Pic HotC X tg iter wi) (bk : BlkOk X.N X.env.scope scope own)
    (hg : InHot X p scope fun Y => PG Y tg g) (ht : InHot X p scope fun Y => PTs Y ifs tt) (he : InHot X p scope fun Y => PE Y elt te) (hz : ∀ x, foldedSetIterable iter X.env x = pure x := by intro _; rfl) :
    PS X (.Assign [.Name y py] (.ListComp elt [⟨tg, iter, ifs, 0⟩] scope pos) spos) (tAsg (tLc wi g tt te (own.map (·.2))) (gName i)) := by
  constructor
  intro pins s σ H D I h
  rw [exec_Assign_Name_used _ _ _ _ hsw]
  apply wpAny_bind
  apply wpAny_standAt
  apply wpAny_bind
  have h : tLc wi g tt te (own.map (·.2)) σ H (fun x G => gName i x σ G D.nx) := h
  show wpAny _ X.A (do let _ ← comprehension (.ListComp elt [⟨tg, iter, ifs, 0⟩] scope pos) scope X.env (firstIterPos [⟨tg, iter, ifs, 0⟩] pos) (newList []) false (eval iter X.env) (some (assign (.Name y py) X.env))) _ _ s; apply wpAny_bind
  have un : ∀ {Y : Cx} {E : Value → Shared → Prop} {qs : List (Addr × Obj)} {τ : L2.St} {G : Hp} {u : Shared}, Inv (Y.wish E) qs τ G u → Inv Y qs τ G u := fun J => J.unwish
  have to : ∀ {Y : Cx} {E : Value → Shared → Prop} {qs : List (Addr × Obj)} {τ : L2.St} {G : Hp} {u : Shared}, Inv Y qs τ G u → Inv (Y.wish E) qs τ G u := fun J => J.wish _
  refine thn (lc_wide (ok := HotC) (bp := [p]) (use := some (assign (.Name y py) X.env)) (Qf := fun _ u => SP X pins D .next u) hN I (fun q hq => ?_) (fun _ _ _ _ _ => ⟨p, hot, List.mem_singleton.mpr rfl⟩) hi bk (fun acc s3 H3 C cl fp => ⟨fun qs u τ G v x R J r q => ?_⟩) (fun acc s3 H3 C cl fp _ hC J ok => ⟨fun qs u τ G R J q => ?_⟩) (fun acc s3 H3 C cl fp _ hC J ok => ⟨fun qs u τ G R J q => ?_⟩) hz h ?_) fun _ s2 q => wpAny_pure (wpAny_pure q)
  · rw [List.mem_singleton.mp hq]
    exact List.mem_append_left _ hp
  · exact wpAny_mono ((hg s3 H3 C cl fp).run qs u τ G v x R (to (E := fun _ _ => False) J) r q) (fun _ _ ⟨a, b, c, d⟩ => ⟨a, b, un (E := fun _ _ => False) (Y := blkX X [p] (some (assign (.Name y py) X.env)) (fun _ u => SP X pins D .next u) acc s3 H3 scope _ fp) c, d⟩) fun _ _ z => z.elim
  · exact wpAny_mono ((ht s3 H3 C cl fp).run qs u τ G R (to (E := fun _ _ => False) J) q) (fun _ _ ⟨b, c, d⟩ => ⟨b, un (E := fun _ _ => False) (Y := blkX X [p] (some (assign (.Name y py) X.env)) (fun _ u => SP X pins D .next u) acc s3 H3 scope _ fp) c, d⟩) fun _ _ z => z.elim
  · exact wpAny_mono ((he s3 H3 C cl fp).run qs u τ G R (to (E := fun _ _ => False) J) q) (fun _ _ ⟨a, b, c, d⟩ => ⟨a, b, un (E := fun _ _ => False) (Y := blkX X [p] (some (assign (.Name y py) X.env)) (fun _ u => SP X pins D .next u) acc s3 H3 scope _ fp) c, d⟩) fun _ _ z => z.elim
  · rintro L C s' m H' I' q hn ⟨f0, f1, _, f3, f4, f5⟩
    show wpAny _ _ (assign (.Name y py) X.env (.ref L)) (fun _ u => ∃ m, u.heap.Ns C m ∧ _) _ _
    refine wpAny_assign_Name (store_ok2 (v := V.ref L) I' hN hy (.inl hl) rfl (fun s3 I3 ⟨a, sb, ha⟩ => ?_) (.inr hl))
    have away : C ≠ a := fun z => by
      rcases ha with q | q
      · exact f1 (z.trans q)
      · exact f4 y a q z.symm
    exact ⟨m, hn.sameBut sb away, fun h4 sb4 => ⟨_, H', I3.turned (t' := s3.toks) (fun b o hb z => (sb4.2 b hb).trans z) f0 f1 f3 f4 f5, q⟩⟩
end
/-! ### isinstance of the handled exception, its fields, wherever the context holds it -/
theorem call_isH {X : Cx} {a : Addr} {oe : Obj} {cls : Value} {d : Option Addr} (hp : (a, oe) ∈ X.pn) (hz : Zc cls d oe) (hf : ∃ vs, oe.data = .fields vs) : CallR X (.builtin "isinstance") (rIsX X.K cls d a) := by
  rintro pins s σ H xs us Q I r ⟨D, dd, fs, c, cv, b, rfl, rfl, rfl, ea, C, hcv, e, q⟩
  match us, r with
  | [u1, u2], .cons rx (.cons rt .nil) =>
    cases rx
    have ec := hcv _ rt
    subst ec
    obtain ⟨hget, _⟩ := I.pin (a, oe) (List.mem_append_left _ hp)
    obtain ⟨vs, hv⟩ := hf
    have hx : ObjOk X.prog X.w H s.heap dd (.xd fs) := I.hok dd _ ea
    obtain ⟨mA, hns, _⟩ := hx
    obtain ⟨od, ho, _⟩ := lookIn_ns hns
    obtain ⟨cdD, hcD, _⟩ := PySem.W.any_some C.hd
    exact PySem.W.kia_one (PySem.W.kitx_exc (by rw [hcD] <;> rfl) C.hg C.hk C.hs C.ha C.hn C.ht C.hm) I.kIn (show PySem.W.InstAt s.heap a oe D (some od) from ⟨hget, hz.1, by unfold PySem.W.notCls; rw [hv] <;> rfl, by rw [hz.2]; exact ho⟩) e (fun z => nomatch z) fun tk => ⟨.bl b, H, I.kept (t' := tk) fun _ _ z => z, rfl, q⟩
end Ag

end
/-! ## XT -/
section
set_option linter.all false
set_option maxRecDepth 100000
namespace Ag
open PySem PySem.Spec PyProof.Rows L2
/-! ### which clause an exception meets, where a clause names several classes -/
theorem go_through {M : Model} {h : Heap} {α : Type} {f : α → PUnit → Sem (ForInStep PUnit)} : ∀ {l : List α}, (∀ c ∈ l, PySem.W.Looks M h (f c PUnit.unit) (.yield PUnit.unit)) → PySem.W.Looks M h (forIn l PUnit.unit f) PUnit.unit
  | [], _ => by
    rw [List.forIn_nil]
    exact .now
  | c :: l, hf => by
    rw [List.forIn_cons]
    exact (hf c List.mem_cons_self).andThen (go_through fun d hd => hf d (List.mem_cons_of_mem _ hd))
theorem go_until {M : Model} {h : Heap} {α : Type} {f : α → Option Bool × Unit → Sem (ForInStep (Option Bool × Unit))} {t : α → Bool} : ∀ {l : List α}, (∀ c ∈ l, PySem.W.Looks M h (f c (none, ())) (if t c = true then .done (some true, ()) else .yield (none, ()))) →
    PySem.W.Looks M h (forIn l (none, ()) f) (if l.any t = true then (some true, ()) else (none, ()))
  | [], _ => by
    rw [List.forIn_nil]
    exact .now
  | c :: l, hf => by
    rw [List.forIn_cons, List.any_cons]
    have h1 := hf c List.mem_cons_self
    cases ht : t c with
    | true =>
      rw [ht] at h1
      exact h1.andThen .now
    | false =>
      rw [ht] at h1
      exact h1.andThen (go_until fun d hd => hf d (List.mem_cons_of_mem _ hd))
/-- what is known of each class that is named -/
theorem each_named {K : PySem.W.Frag} {cls : Value} : ∀ {cs : List Value} {b : Bool}, PySem.W.exmAny K cls cs = some b → ∃ t : Value → Bool, (∀ c ∈ cs, PySem.W.exmOne K cls c = some (t c)) ∧ cs.any t = b
  | [], b, h => ⟨(fun _ => false), ⟨(fun _ z => nomatch z), Option.some.inj h⟩⟩
  | c :: cs, b, h => by
    obtain ⟨b1, d1, h1, h2, rfl⟩ := PySem.W.exmAny_cons h
    obtain ⟨t, ht, ha⟩ := each_named h2
    refine ⟨fun v => (PySem.W.exmOne K cls v).getD false, fun v hv => ?_, ?_⟩
    · rcases List.mem_cons.mp hv with rfl | hv
      · dsimp only; rw [h1]; rfl
      · dsimp only; rw [ht v hv]; rfl
    · have e : cs.any (fun v => (PySem.W.exmOne K cls v).getD false) = cs.any t := by
        rw [Bool.eq_iff_iff, List.any_eq_true, List.any_eq_true]
        constructor
        · rintro ⟨v, hv, e⟩
          rw [ht v hv] at e
          exact ⟨v, hv, e⟩
        · rintro ⟨v, hv, e⟩
          exact ⟨v, hv, by rw [ht v hv]; exact e⟩
      rw [List.any_cons, e, ha, h1]
      rfl
theorem exm_row {M : Model} {K : PySem.W.Frag} {h : Heap} {cls : Value} {tp e : Addr} {cs : List Value} {b : Bool} (X : K.In h) (LT : PySem.W.Looks M h (typeOf (.ref e)) cls)
    (hp : h.get? tp = some { cls := .type "tuple", data := .seq cs.toArray }) (hx : PySem.W.exmAny K cls cs = some b) : PySem.W.Looks M h (excMatches (.ref e) (.ref tp)) b := by
  obtain ⟨t, ht, rfl⟩ := each_named hx
  have one := fun c hc => PySem.W.exm_cls (M := M) X (ht c hc)
  have tup : PySem.W.Looks M h (isInstance (.ref tp) (.type "tuple")) true := ((PySem.W.Looks.ld hp).andThen .now).andThen (.of_pure isSubtype_tuple_tuple)
  intro A Q E s k q
  unfold excMatches
  refine wpAny_bind ((tup.keeps k).here ?_)
  rw [if_pos rfl]
  have hp2 := k _ _ hp
  have l1 : PySem.W.Looks M s.heap (forIn cs PUnit.unit fun (c : Value) (_ : PUnit) => (do
      let is ← isExcClass c
      if (!is) = true then do
        rule "try.except-non-exception-class"
        raiseErrorWords "TypeError" "catching classes that do not inherit from BaseException is not allowed"
        pure (ForInStep.yield PUnit.unit)
      else pure (ForInStep.yield PUnit.unit) : Sem (ForInStep PUnit))) PUnit.unit := go_through fun c hc => ((one c hc).1.keeps k).andThen .now
  have l2 : PySem.W.Looks M s.heap (forIn cs ((none, ()) : Option Bool × Unit) fun (c : Value) (_ : Option Bool × Unit) => (do
      let is ← isSubtype cls c
      if is = true then pure (ForInStep.done (some true, ())) else pure (ForInStep.yield (none, ())) : Sem (ForInStep (Option Bool × Unit)))) (if cs.any t = true then (some true, ()) else (none, ())) :=
    go_until fun c hc => ((one c hc).2.keeps k).andThen (by cases t c <;> exact .now)
  have items := fun {Q : Option (Array Value) → Shared → Prop} (z : Q (some cs.toArray) s) => wpAny_seqItems (M := M) (A := A) (E := E) hp2 rfl z
  refine wpAny_bind (items ?_)
  refine wpAny_bind (wpAny_pure ?_)
  show wpAny M A _ Q E s
  dsimp only [Option.getD_some]
  refine wpAny_bind (l1.here ?_)
  refine wpAny_bind ((LT.keeps k).here ?_)
  refine wpAny_bind (l2.here ?_)
  cases ha : cs.any t with
  | true => rw [ha] at q; exact wpAny_pure q
  | false => rw [ha] at q; exact wpAny_pure q
end Ag

end
/-! ## XU -/
section
set_option linter.all false
set_option maxRecDepth 100000
namespace Ag
open PySem PySem.Spec PyProof.Rows L2
/-! ### except clauses that name classes, one or several each, as n -/
/-- an exception in the hand of a frame that looks for its clause -/
structure Hand (X : Cx) (pins : List (Addr × Obj)) (σ : L2.St) (H : Hp) (B : Heap) (a : Addr) (cls : Value) (d : Option Addr) (s0 s : Shared) : Prop where
  inv : Inv X pins σ H s0
  low : ∀ b o, s0.heap.get? b = some o → b ∉ frs X.stack → B.get? b = some o
  up : s0.heap.UpToSlots s.heap
  fly : HandSPX.FlyingZ B (X.env :: X.outer) a (Zc cls d) s.heap
  free : H a = none
  os : s.os = s0.os
  bare : AllBare s.gens
section
variable {X : Cx} {pins : List (Addr × Obj)} {σ : L2.St} {H : Hp} {B : Heap} {a : Addr} {cls : Value} {d : Option Addr} {s0 s : Shared}
theorem Hand.now (h : Hand X pins σ H B a cls d s0 s) : Inv X pins σ H s := h.inv.landed h.low h.fly.1 h.up h.os h.bare
/-- things that were made meanwhile take nothing out of the hand -/
theorem Hand.more (h : Hand X pins σ H B a cls d s0 s) {h' : Heap} (k : ∀ b o, s.heap.get? b = some o → h'.get? b = some o) : Hand X pins σ H B a cls d s0 { s with heap := h' } := by
  obtain ⟨f1, f2, f3, oe, vs, T, oT, ts, z1, z2, z3, z4, z5, z6, z7, z8, z9⟩ := h.fly
  exact ⟨h.inv, h.low, h.up.trans (Heap.UpToSlots.of_keeps k), ⟨fun b o e => k b o (f1 b o e), f2, f3.of_keeps (fun b o e _ => ⟨o, k b o e, rfl⟩), oe, vs, T, oT, ts, k _ _ z1, z2, z3, z4, z5, z6, k _ _ z7, z8, z9⟩, h.free, h.os, h.bare⟩
/-- the exception itself, and that it is none of the frames -/
theorem Hand.obj (hs : X.stack = X.env :: X.outer) (hf : X.env.frame = some X.env.locals) (h : Hand X pins σ H B a cls d s0 s) :
    ∃ oe vs, s.heap.get? a = some oe ∧ Zc cls d oe ∧ oe.data = .fields vs ∧ Inv (X.suite a ((a, oe) :: (X.pn ++ pins))) [] σ H s := by
  obtain ⟨oe, vs, e, z, dd⟩ := h.fly.there
  have out : a ∉ frs (X.env :: X.outer) := fun m => by
    obtain ⟨_, u, eu, hu⟩ := h.fly.2.2.1.mem m
    have := Option.some.inj (e.symm.trans eu)
    subst this
    exact hu vs dd
  refine ⟨oe, vs, e, z, dd, h.now.suite e dd h.free (fun q => out ?_) (fun m => out ?_)⟩
  · rw [q]
    exact List.mem_filterMap.mpr ⟨X.env, List.mem_cons_self, hf⟩
  · obtain ⟨v, hv, ev⟩ := List.mem_filterMap.mp m
    exact List.mem_filterMap.mpr ⟨v, List.mem_cons_of_mem _ hv, ev⟩
/-- what a test tells: the classes cs, in any state of the hand -/
def TestsFor (X : Cx) (t : Expr) (cs : List Value) : Prop := ∀ {a : Addr} {pn : List (Addr × Obj)} {σ : L2.St} {H : Hp} {s : Shared} {cls : Value} {b : Bool} {Q : Bool → Shared → Prop} {E : Value → Shared → Prop},
  Inv (X.suite a pn) [] σ H s → PySem.W.Looks (model X.prog X.w) s.heap (typeOf (.ref a)) cls → PySem.W.exmAny X.K cls cs = some b → (∀ h', (∀ b o, s.heap.get? b = some o → h'.get? b = some o) → Q b { s with heap := h' }) →
  wpAny (model X.prog X.w) (X.A.mark (some (.ref a))) (eval t X.env) (fun c s1 => wpAny (model X.prog X.w) (X.A.mark (some (.ref a))) (excMatches (.ref a) c) Q E s1) E s
theorem name_in {a : Addr} {pn : List (Addr × Obj)} {x : Str} {c : Value} {np : Pos} {Q : Value → Shared → Prop} {E : Value → Shared → Prop} (I : Inv (X.suite a pn) [] σ H s) (hc : Names X x c) (q : Q c s) :
    wpAny (model X.prog X.w) (X.A.mark (some (.ref a))) (eval (.Name x np) X.env) Q E s := by
  rcases hc with ⟨g, nd, m | ⟨m, v, nn⟩⟩
  · exact ld_glob (X := X.suite a pn) I g m q nd
  · exact ld_blt (X := X.suite a pn) I g m v q nn nd
theorem tests_one {x : Str} {c : Value} {np : Pos} (hc : Names X x c) : TestsFor X (.Name x np) [c] := by
  intro a pn σ H s cls b Q E I LT e q
  obtain ⟨b1, d1, e1, e2, rfl⟩ := PySem.W.exmAny_cons e
  have : d1 = false := (Option.some.inj e2).symm
  subst this
  rw [Bool.or_false] at q
  exact name_in I hc ((PySem.W.exm_one I.kIn LT e1).here (q s.heap fun _ _ z => z))
/-- names of classes, in a row -/
inductive Named (X : Cx) : List Expr → List Value → Prop
  | nil : Named X [] []
  | cons {x : Str} {c : Value} {np : Pos} {es : List Expr} {cs : List Value} (hc : Names X x c) (r : Named X es cs) : Named X (.Name x np :: es) (c :: cs)
theorem Named.len {es : List Expr} {cs : List Value} (n : Named X es cs) : cs.length = es.length := by
  induction n with
  | nil => rfl
  | cons _ _ ih => rw [List.length_cons, List.length_cons, ih]
theorem Named.run {es : List Expr} {cs : List Value} (n : Named X es cs) {a : Addr} {pn : List (Addr × Obj)} {pos : Pos} {E : Value → Shared → Prop} (I : Inv (X.suite a pn) [] σ H s) : ∀ {Q : List Value → Shared → Prop}, Q cs s →
    wpAny (model X.prog X.w) (X.A.mark (some (.ref a))) (spliced (backTo pos (starEach es X.env))) Q E s := by
  induction n with
  | nil => exact fun q => wpAny_items_nil q
  | cons hc _ ih => exact fun {Q} q => wpAny_items_cons (name_in I hc (ih (Q := fun vs s2 => Q (_ :: vs) s2) q))
theorem tests_row {es : List Expr} {cs : List Value} {k : Nat} {p : Pos} (n : Named X es cs) (hl : es.length ≤ 1000) : TestsFor X (.Tuple es k p) cs := by
  intro a pn σ H s cls b Q E I LT e q
  have fits : cs.length ≤ sizeLine := by rw [n.len, sizeLine_eq]; omega
  have grow : ∀ b o, s.heap.get? b = some o → (s.heap.push { cls := .type "tuple", data := .seq cs.toArray }).get? b = some o := fun _ _ z => Heap.get?_push_of_some _ z
  exact wpAny_Tuple (n.run I ⟨fits, (exm_row (I.kIn.keeps grow) (LT.keeps grow) (Heap.get?_push_size s.heap rfl) e).here (q _ grow)⟩)
end
end Ag

end
/-! ## XV -/
section
set_option linter.all false
set_option maxRecDepth 100000
namespace Ag
open PySem PySem.Spec PyProof.Rows L2
abbrev Clause := List Value × Nat × (Addr → Value → Option Addr → TS)
/-- behind a clause its name is gone -/
def Ends.less (D : Ends) (i : Nat) : Ends := { nx := fun σ H => D.nx (σ.set i none) H, rt := D.rt, bk := fun σ H => D.bk (σ.set i none) H, ct := fun σ H => D.ct (σ.set i none) H }
def wCl (K : PySem.W.Frag) (Wout : WX) (D : Ends) : List Clause → WX
  | [] => Wout
  | c :: l => fun cls d σ H => ∃ b, PySem.W.exmAny K cls c.1 = some b ∧ (b = true → ∀ a, H a = none → c.2.2 a cls d (Ends.less D c.2.1) (σ.set c.2.1 (some (.ref a))) H) ∧ (b = false → wCl K Wout D l cls d σ H)
inductive Clauses (X : Cx) : List ExceptHandler → List Clause → Prop
  | nil : Clauses X [] []
  | cons {t : Expr} {n : Str} {cs : List Value} {i : Nat} {ts : Addr → Value → Option Addr → TS} {b₀ : Stmt} {suite : List Stmt} {p : Pos} {hds : List ExceptHandler} {l : List Clause} (test : TestsFor X t cs) (hi : X.N[i]? = some n) (hl : X.env.kindOf n = some .local)
      (hsu : ∀ (a : Addr) (oe : Obj) (cls : Value) (d : Option Addr) (pn : List (Addr × Obj)), Zc cls d oe → (∃ vs, oe.data = .fields vs) → PSs (X.suite a ((a, oe) :: pn)) (b₀ :: suite) (ts a cls d)) (r : Clauses X hds l) :
      Clauses X (.ExceptHandler (some t) (some n) (b₀ :: suite) p :: hds) ((cs, i, ts) :: l)
section
variable {X : Cx} {pins : List (Addr × Obj)} {σ : L2.St} {H : Hp} {B : Heap} {a : Addr} {cls : Value} {d : Option Addr} {s0 s : Shared} {Wout : WX} {D : Ends}
theorem Hand.ty (h : Hand X pins σ H B a cls d s0 s) : PySem.W.Looks (model X.prog X.w) s.heap (typeOf (.ref a)) cls := by
  obtain ⟨oe, vs, e, z, _⟩ := h.fly.there
  exact fun A Q E s2 k q => wpAny_typeOf_ref (k _ _ e) (by rw [z.1]; exact q)
/-- no clause is left: on it flies -/
theorem Hand.passes (hs : X.stack = X.env :: X.outer) (hf : X.env.frame = some X.env.locals) (tk : Takes X Wout) (h : Hand X pins σ H B a cls d s0 s) (q : Wout cls d σ H) {Q : Flow → Shared → Prop} :
    wpAny (model X.prog X.w) X.A (handleBy (.ref a) X.env []) Q X.xe s := by
  obtain ⟨_, _, _, oe, vs, T, oT, ts, z1, z2, z3, z4, z5, z6, z7, z8, z9⟩ := id h.fly
  have gone : wpAny (model X.prog X.w) X.A (setFlight (.ref a) X.env.frame) (fun _ s4 => wpAny (model X.prog X.w) X.A (throw (.ref a) : Sem Flow) Q X.xe s4) X.xe s := by
    rw [hf]
    exact HandSPX.setFlight_upZ h.fly fun h4 held up4 => wpAny_throw (tk _ _ ⟨a, B, s0, pins, σ, H, cls, d, rfl, h.inv, h.low, h.up.trans up4, .inr (.inr (by rw [hs]; exact held)), h.free, h.os, h.bare, q⟩)
  refine wpAny_handleBy_nil ?_
  unfold PySem.passOn
  refine wpAny_bind (wpAny_field z1 z3 z4 ?_)
  rw [if_neg (by simp)]
  first
    | exact wpAny_bind gone
    | exact wpAny_bind (wpAny_pure (wpAny_bind gone))
/-- the suite of the clause that it meets -/
theorem Hand.meets (hs : X.stack = X.env :: X.outer) (hf : X.env.frame = some X.env.locals) (hN : X.N.Nodup) {n : Str} {i : Nat} {ts : Addr → Value → Option Addr → TS} {b₀ : Stmt} {suite : List Stmt} {p p2 : Pos} (hi : X.N[i]? = some n) (hl : X.env.kindOf n = some .local)
    (hsu : ∀ (a : Addr) (oe : Obj) (cls : Value) (d : Option Addr) (pn : List (Addr × Obj)), Zc cls d oe → (∃ vs, oe.data = .fields vs) → PSs (X.suite a ((a, oe) :: pn)) (b₀ :: suite) (ts a cls d))
    (h : Hand X pins σ H B a cls d s0 s) (q : ts a cls d (Ends.less D i) (σ.set i (some (.ref a))) H) {R : Result → Shared → Prop}
    (hR : ∀ f s2, (wpAny (model X.prog X.w) X.A (do bindName X.env n .none; unbindBehindTheSuite X.env n p2) (fun _ s3 => SP X pins D f s3) X.xe s2) → R (.ok f) s2) :
    codeAny (model X.prog X.w) (X.A.mark (some (.ref a))) (.handlers (.ref a) [.ExceptHandler none (some n) (b₀ :: suite) p] X.env) R s := by
  refine codeAny_handlers_suite_as (HandSPX.lands_againZ h.fly fun h4 fl4 up4 => ?_)
  have h2 : Hand X pins σ H B a cls d s0 { s with heap := h4 } := ⟨h.inv, h.low, h.up.trans up4, fl4, h.free, h.os, h.bare⟩
  obtain ⟨oe, vs, e, z, dd, I⟩ := h2.obj hs hf
  refine store_ok (X := X.suite a ((a, oe) :: (X.pn ++ pins))) (v := .ref a) I hN hi (.inl hl) rfl (fun s5 I5 => ?_) (.inr hl)
  refine wpAny_mono ((hsu a oe cls d (X.pn ++ pins) z ⟨vs, dd⟩).run [] s5 _ H _ I5 q) (fun f s6 hf6 => hR f s6 ?_) fun _ _ x => x.elim
  have wipe : ∀ {σ6 : L2.St} {H6 : Hp} {Q : Shared → Prop}, Inv (X.suite a ((a, oe) :: (X.pn ++ pins))) [] σ6 H6 s6 → (∀ s7, Inv X pins (σ6.set i none) H6 s7 → Q s7) →
      wpAny (model X.prog X.w) X.A (do bindName X.env n .none; unbindBehindTheSuite X.env n p2) (fun _ s7 => Q s7) X.xe s6 := fun J k => gone_ok (J.unsuite h.inv.ok) hN hi hl k
  match f, hf6 with
  | .next, ⟨_, _, J, q6⟩ => exact wipe J fun s7 J7 => ⟨_, _, J7, q6⟩
  | .brk, ⟨_, _, J, q6⟩ => exact wipe J fun s7 J7 => ⟨_, _, J7, q6⟩
  | .cont, ⟨_, _, J, q6⟩ => exact wipe J fun s7 J7 => ⟨_, _, J7, q6⟩
  | .ret u, ⟨_, _, _, J, rv, q6⟩ => exact wipe J fun s7 J7 => ⟨_, _, _, J7, rv, q6⟩
theorem Hand.goes (hs : X.stack = X.env :: X.outer) (hf : X.env.frame = some X.env.locals) (hN : X.N.Nodup) (tk : Takes X Wout) {hds : List ExceptHandler} {l : List Clause} (C : Clauses X hds l) :
    ∀ {s : Shared}, Hand X pins σ H B a cls d s0 s → wCl X.K Wout D l cls d σ H → wpAny (model X.prog X.w) X.A (handleBy (.ref a) X.env hds) (SP X pins D) X.xe s := by
  induction C with
  | nil => exact fun h q => h.passes hs hf tk q
  | cons test hi hl hsu _ ih =>
    rintro s h ⟨b, e, yes, no⟩
    obtain ⟨oe, vs, _, _, _, I⟩ := h.obj hs hf
    refine wpAny_handleBy_cons (codeAny_handlers_test (test I h.ty e fun h' k => ?_)) fun z => nomatch z
    have h2 := h.more k
    cases b with
    | false => exact ih h2 (no rfl)
    | true => exact h2.meets hs hf hN hi hl hsu (yes rfl a h.free) fun f s2 z => z
variable {body : List Stmt} {h₀ : ExceptHandler} {hds : List ExceptHandler} {l : List Clause} {p : Pos} {tb : WX → TS}
/-- what is raised in the body, as it comes to the clauses -/
abbrev comes (X : Cx) (hds : List ExceptHandler) (pins : List (Addr × Obj)) (D : Ends) (u : Value) (s1 : Shared) : Prop :=
  wpAny (model X.prog X.w) X.A (noteFrame u X.env) (fun _ s2 => wpAny (model X.prog X.w) X.A (setFlight u none) (fun _ s3 => wpAny (model X.prog X.w) X.A (handleBy u X.env hds) (SP X pins D) X.xe s3) X.xe s2) X.xe s1
theorem ps_try_cl (hs : X.stack = X.env :: X.outer) (hf : X.env.frame = some X.env.locals) (hN : X.N.Nodup) (tk : Takes X Wout)
    (hb : ∀ (W : WX) (pn : List (Addr × Obj)) (xe : Value → Shared → Prop), Takes (X.tr pn xe) W → PassesOwn (model X.prog X.w) X.A X.env xe → PSs (X.tr pn xe) body (tb W)) (C : Clauses X (h₀ :: hds) l) :
    PS X (.Try body (h₀ :: hds) [] [] p) (fun D σ H => tb (wCl X.K Wout D l) D σ H) := by
  constructor
  intro pins s σ H D I q
  have fr : X.A.frames = some (X.env :: X.outer) := I.ok.frames.trans (congrArg some hs)
  apply wpAny_Try_except
  have caught : Takes (X.tr (X.pn ++ pins) (comes X (h₀ :: hds) pins D)) (wCl X.K Wout D l) := fun u s1 x => ?_
  · have bodyOk := hb (wCl X.K Wout D l) (X.pn ++ pins) (comes X (h₀ :: hds) pins D) caught PassesOwn.looking
    refine wpAny_mono (bodyOk.run [] s σ H D (I.toTry _) q) (fun f s1 x => ?_) fun _ _ x => x
    match f, x with
    | .next, ⟨_, _, J, q1⟩ => exact wpAny_execs_nil ⟨_, _, J.ofTry I.ok, q1⟩
    | .brk, ⟨_, _, J, q1⟩ => exact ⟨_, _, J.ofTry I.ok, q1⟩
    | .cont, ⟨_, _, J, q1⟩ => exact ⟨_, _, J.ofTry I.ok, q1⟩
    | .ret u, ⟨_, _, _, J, rv, q1⟩ => exact ⟨_, _, _, J.ofTry I.ok, rv, q1⟩
  · obtain ⟨a, B, s0, pins', σ1, H1, cls, d, rfl, J, low, up, sky, na, os, ag, w⟩ := x
    exact Sky.land Zc.steady fr hf (by rw [← hs]; exact sky) fun h3 fl up3 => Hand.goes hs hf hN tk C ⟨J.ofTry I.ok, low, up.trans up3, fl, na, os, ag⟩ w
end
end Ag

end
/-! ## XVN -/
section
set_option linter.all false
set_option maxRecDepth 100000
namespace Ag
open PySem PySem.Spec PyProof.Rows L2
/-! ### except clauses that name classes, for exceptions whose context is None -/
/-! ### an except clause's name goes: a local name, or one that a block within reads too -/
/-- names of the def's own -/
def Own (X : Cx) (n : Str) : Prop := X.env.scope.names.lookup n = some .local ∨ (X.env.scope.names.lookup n = some .cell ∧ X.fn n = true)
theorem Own.loc {X : Cx} {n : Str} (h : Own X n) : Loc X.env.scope n := h.imp id (·.1)
theorem Own.fn {X : Cx} {n : Str} (h : Own X n) : X.fn n = true ∨ X.env.scope.names.lookup n = some .local := h.elim .inr fun z => .inl z.2
section
variable {X : Cx} {pins : List (Addr × Obj)} {σ : L2.St} {H : Hp} {s : Shared}
/-- a cell of the def's is emptied -/
theorem cell_out {i : Nat} {n : Str} {c : Addr} {h' : Heap} {t' : Nat} {v : Option Value} (I : Inv X pins σ H s) (hN : X.N.Nodup) (hi : X.N[i]? = some n) (hf : X.fn n = true) (hc : X.env.cells.lookup n = some c) (hv : h'.IsCell c v) (sb : Heap.SameBut c s.heap h') :
    Inv X pins (σ.set i none) H { s with heap := h', toks := t' } := by
  obtain ⟨m, hn, look⟩ := id I.loc
  obtain ⟨w0, oc, hoc, dc⟩ := I.cell n c hc
  have low := I.ok.cab n c hf hc
  have apart : ∀ {b : Addr} {o : Obj}, X.s_0.heap.get? b = some o → b ≠ c := fun e => Nat.ne_of_lt (Nat.lt_of_lt_of_le (Heap.lt_size e) low)
  refine ⟨I.ok, I.os, I.bare, ⟨fun b o e a1 a2 a3 => (sb.2 b (apart e)).trans (I.base.keep b o e a1 a2 a3), fun b o e a1 a2 a3 => ?_, I.base.free, fun b o e a => ?_, I.base.tups, I.base.frzs, I.base.tbls⟩,
    ⟨m, hn.sameBut sb (Ne.symm (I.cne n c hc)), fun j y u e1 e2 e3 => ?_⟩, fun y d e => ?_, I.free, I.freeC, fun p hp => ?_, fun b o e => ?_, by simpa using I.len⟩
  · obtain ⟨sl, z⟩ := I.base.slot b o e a1 a2 a3
    exact ⟨sl, (sb.2 b (apart e)).trans z⟩
  · obtain ⟨o', z⟩ := I.base.there b o e a
    exact ⟨o', (sb.2 b (apart e)).trans z⟩
  · have ne : j ≠ i := fun z => by
      rw [z] at e2
      by_cases lt : i < σ.length
      · rw [List.getElem?_set_self lt] at e2; cases e2
      · rw [List.getElem?_eq_none (by simpa using lt)] at e2; cases e2
    rw [List.getElem?_set_ne (Ne.symm ne)] at e2
    obtain ⟨w, r, q⟩ := look j y u e1 e2 e3
    refine ⟨w, r, q.imp id fun ⟨k, d, e, z⟩ => ⟨k, d, e, z.sameBut sb fun q => ?_⟩⟩
    rw [q] at e
    exact ne (nodup_ix hN e1 (I.ok.inj _ _ _ e hc ▸ hi))
  · by_cases z : d = c
    · rw [z]; exact ⟨v, hv⟩
    · obtain ⟨w, q⟩ := I.cell y d e
      exact ⟨w, q.sameBut sb z⟩
  · obtain ⟨a1, a2, a3, a4, a5⟩ := I.pin p hp
    refine ⟨(sb.2 p.1 fun z => ?_).trans a1, a2, a3, a4, a5⟩
    rw [z, hoc] at a1
    exact a5 w0 ((congrArg Obj.data (Option.some.inj a1)).symm.trans dc)
  · refine (I.hok b o e).stay (fun d w hd q => (sb.2 d fun z => ?_).trans q) (fun _ q => q) fun _ _ q => q
    have fr := I.freeC n c hc
    rw [z] at hd
    rcases hd with rfl | hd
    · rw [fr] at e; cases e
    · rw [fr] at hd; cases hd
theorem gone_own {M : Model} {A : Around} {E : Value → Shared → Prop} {i : Nat} {n : Str} {pos : Pos} {Q : Unit → Shared → Prop} (I : Inv X pins σ H s) (hN : X.N.Nodup) (hi : X.N[i]? = some n) (ho : Own X n) (h : ∀ s', Inv X pins (σ.set i none) H s' → Q () s') :
    wpAny M A (do bindName X.env n .none; unbindBehindTheSuite X.env n pos) Q E s := by
  rcases ho with hl | ⟨hk, hf⟩
  · exact gone_ok I hN hi hl h
  obtain ⟨c, hc⟩ := I.ok.has n (.inl hk)
  obtain ⟨w0, hw⟩ := I.cell n c hc
  refine wpAny_bind (wpAny_bindName (wpAny_storeName_cell I.ok.kind hk hc hw fun h1 v1 sb1 => ?_))
  unfold unbindBehindTheSuite
  refine wpAny_onRaise ?_
  unfold unbindName
  refine wpAny_bind (wpAny_point (wpAny_bind ?_))
  have kk : X.env.kindOf n = some .cell := hk
  unfold deleteName
  simp only [kk]
  refine wpAny_bind (wpAny_cellOf hc (wpAny_bind (wpAny_cellGet (v := some Value.none) v1 ?_)))
  rw [if_pos (by rfl)]
  refine wpAny_cellSet (v := none) v1 fun h2 v2 sb2 => wpAny_point (h _ ?_)
  exact cell_out (s := s) (t' := s.toks) I hN hi hf hc v2 (sb1.trans sb2)
end
/-- an exception in the hand of a frame that looks for its clause -/
structure HandN (X : Cx) (pins : List (Addr × Obj)) (σ : L2.St) (H : Hp) (B : Heap) (a : Addr) (cls : Value) (d : Option Addr) (s0 s : Shared) : Prop where
  inv : Inv X pins σ H s0
  low : ∀ b o, s0.heap.get? b = some o → b ∉ frs X.stack → B.get? b = some o
  up : s0.heap.UpToSlots s.heap
  fly : HandSPX.FlyingZ B (X.env :: X.outer) a (L2N.Zn cls d) s.heap
  free : H a = none
  os : s.os = s0.os
  bare : AllBare s.gens
section
variable {X : Cx} {pins : List (Addr × Obj)} {σ : L2.St} {H : Hp} {B : Heap} {a : Addr} {cls : Value} {d : Option Addr} {s0 s : Shared}
theorem HandN.now (h : HandN X pins σ H B a cls d s0 s) : Inv X pins σ H s := h.inv.landed h.low h.fly.1 h.up h.os h.bare
/-- things that were made meanwhile take nothing out of the hand -/
theorem HandN.more (h : HandN X pins σ H B a cls d s0 s) {h' : Heap} (k : ∀ b o, s.heap.get? b = some o → h'.get? b = some o) : HandN X pins σ H B a cls d s0 { s with heap := h' } := by
  obtain ⟨f1, f2, f3, oe, vs, T, oT, ts, z1, z2, z3, z4, z5, z6, z7, z8, z9⟩ := h.fly
  exact ⟨h.inv, h.low, h.up.trans (Heap.UpToSlots.of_keeps k), ⟨fun b o e => k b o (f1 b o e), f2, f3.of_keeps (fun b o e _ => ⟨o, k b o e, rfl⟩), oe, vs, T, oT, ts, k _ _ z1, z2, z3, z4, z5, z6, k _ _ z7, z8, z9⟩, h.free, h.os, h.bare⟩
/-- the exception itself, and that it is none of the frames -/
theorem HandN.obj (hs : X.stack = X.env :: X.outer) (hf : X.env.frame = some X.env.locals) (h : HandN X pins σ H B a cls d s0 s) :
    ∃ oe vs, s.heap.get? a = some oe ∧ L2N.Zn cls d oe ∧ oe.data = .fields vs ∧ Inv (X.suite a ((a, oe) :: (X.pn ++ pins))) [] σ H s := by
  obtain ⟨oe, vs, e, z, dd⟩ := h.fly.there
  have out : a ∉ frs (X.env :: X.outer) := fun m => by
    obtain ⟨_, u, eu, hu⟩ := h.fly.2.2.1.mem m
    have := Option.some.inj (e.symm.trans eu)
    subst this
    exact hu vs dd
  refine ⟨oe, vs, e, z, dd, h.now.suite e dd h.free (fun q => out ?_) (fun m => out ?_)⟩
  · rw [q]
    exact List.mem_filterMap.mpr ⟨X.env, List.mem_cons_self, hf⟩
  · obtain ⟨v, hv, ev⟩ := List.mem_filterMap.mp m
    exact List.mem_filterMap.mpr ⟨v, List.mem_cons_of_mem _ hv, ev⟩
end
inductive ClausesN (X : Cx) : List ExceptHandler → List Clause → Prop
  | nil : ClausesN X [] []
  | cons {t : Expr} {n : Str} {cs : List Value} {i : Nat} {ts : Addr → Value → Option Addr → TS} {b₀ : Stmt} {suite : List Stmt} {p : Pos} {hds : List ExceptHandler} {l : List Clause} (test : TestsFor X t cs) (hi : X.N[i]? = some n) (hl : Own X n)
      (hsu : ∀ (a : Addr) (oe : Obj) (cls : Value) (d : Option Addr) (pn : List (Addr × Obj)), L2N.Zn cls d oe → (∃ vs, oe.data = .fields vs) → PSs (X.suite a ((a, oe) :: pn)) (b₀ :: suite) (ts a cls d)) (r : ClausesN X hds l) :
      ClausesN X (.ExceptHandler (some t) (some n) (b₀ :: suite) p :: hds) ((cs, i, ts) :: l)
section
variable {X : Cx} {pins : List (Addr × Obj)} {σ : L2.St} {H : Hp} {B : Heap} {a : Addr} {cls : Value} {d : Option Addr} {s0 s : Shared} {Wout : WX} {D : Ends}
theorem HandN.ty (h : HandN X pins σ H B a cls d s0 s) : PySem.W.Looks (model X.prog X.w) s.heap (typeOf (.ref a)) cls := by
  obtain ⟨oe, vs, e, z, _⟩ := h.fly.there
  exact fun A Q E s2 k q => wpAny_typeOf_ref (k _ _ e) (by rw [z.1]; exact q)
/-- no clause is left: on it flies -/
theorem HandN.passes (hs : X.stack = X.env :: X.outer) (hf : X.env.frame = some X.env.locals) (tk : L2N.Takes X Wout) (h : HandN X pins σ H B a cls d s0 s) (q : Wout cls d σ H) {Q : Flow → Shared → Prop} :
    wpAny (model X.prog X.w) X.A (handleBy (.ref a) X.env []) Q X.xe s := by
  obtain ⟨_, _, _, oe, vs, T, oT, ts, z1, z2, z3, z4, z5, z6, z7, z8, z9⟩ := id h.fly
  have gone : wpAny (model X.prog X.w) X.A (setFlight (.ref a) X.env.frame) (fun _ s4 => wpAny (model X.prog X.w) X.A (throw (.ref a) : Sem Flow) Q X.xe s4) X.xe s := by
    rw [hf]
    exact HandSPX.setFlight_upZ h.fly fun h4 held up4 => wpAny_throw (tk _ _ ⟨a, B, s0, pins, σ, H, cls, d, rfl, h.inv, h.low, h.up.trans up4, .inr (.inr (by rw [hs]; exact held)), h.free, h.os, h.bare, q⟩)
  refine wpAny_handleBy_nil ?_
  unfold PySem.passOn
  refine wpAny_bind (wpAny_field z1 z3 z4 ?_)
  rw [if_neg (by simp)]
  first
    | exact wpAny_bind gone
    | exact wpAny_bind (wpAny_pure (wpAny_bind gone))
/-- the suite of the clause that it meets -/
theorem HandN.meets (hs : X.stack = X.env :: X.outer) (hf : X.env.frame = some X.env.locals) (hN : X.N.Nodup) {n : Str} {i : Nat} {ts : Addr → Value → Option Addr → TS} {b₀ : Stmt} {suite : List Stmt} {p p2 : Pos} (hi : X.N[i]? = some n) (hl : Own X n)
    (hsu : ∀ (a : Addr) (oe : Obj) (cls : Value) (d : Option Addr) (pn : List (Addr × Obj)), L2N.Zn cls d oe → (∃ vs, oe.data = .fields vs) → PSs (X.suite a ((a, oe) :: pn)) (b₀ :: suite) (ts a cls d))
    (h : HandN X pins σ H B a cls d s0 s) (q : ts a cls d (Ends.less D i) (σ.set i (some (.ref a))) H) {R : Result → Shared → Prop}
    (hR : ∀ f s2, (wpAny (model X.prog X.w) X.A (do bindName X.env n .none; unbindBehindTheSuite X.env n p2) (fun _ s3 => SP X pins D f s3) X.xe s2) → R (.ok f) s2) :
    codeAny (model X.prog X.w) (X.A.mark (some (.ref a))) (.handlers (.ref a) [.ExceptHandler none (some n) (b₀ :: suite) p] X.env) R s := by
  refine codeAny_handlers_suite_as (HandSPX.lands_againZ h.fly fun h4 fl4 up4 => ?_)
  have h2 : HandN X pins σ H B a cls d s0 { s with heap := h4 } := ⟨h.inv, h.low, h.up.trans up4, fl4, h.free, h.os, h.bare⟩
  obtain ⟨oe, vs, e, z, dd, I⟩ := h2.obj hs hf
  refine store_ok (X := X.suite a ((a, oe) :: (X.pn ++ pins))) (v := .ref a) I hN hi hl.loc rfl (fun s5 I5 => ?_) hl.fn
  refine wpAny_mono ((hsu a oe cls d (X.pn ++ pins) z ⟨vs, dd⟩).run [] s5 _ H _ I5 q) (fun f s6 hf6 => hR f s6 ?_) fun _ _ x => x.elim
  have wipe : ∀ {σ6 : L2.St} {H6 : Hp} {Q : Shared → Prop}, Inv (X.suite a ((a, oe) :: (X.pn ++ pins))) [] σ6 H6 s6 → (∀ s7, Inv X pins (σ6.set i none) H6 s7 → Q s7) →
      wpAny (model X.prog X.w) X.A (do bindName X.env n .none; unbindBehindTheSuite X.env n p2) (fun _ s7 => Q s7) X.xe s6 := fun J k => gone_own (J.unsuite h.inv.ok) hN hi hl k
  match f, hf6 with
  | .next, ⟨_, _, J, q6⟩ => exact wipe J fun s7 J7 => ⟨_, _, J7, q6⟩
  | .brk, ⟨_, _, J, q6⟩ => exact wipe J fun s7 J7 => ⟨_, _, J7, q6⟩
  | .cont, ⟨_, _, J, q6⟩ => exact wipe J fun s7 J7 => ⟨_, _, J7, q6⟩
  | .ret u, ⟨_, _, _, J, rv, q6⟩ => exact wipe J fun s7 J7 => ⟨_, _, _, J7, rv, q6⟩
theorem HandN.goes (hs : X.stack = X.env :: X.outer) (hf : X.env.frame = some X.env.locals) (hN : X.N.Nodup) (tk : L2N.Takes X Wout) {hds : List ExceptHandler} {l : List Clause} (C : ClausesN X hds l) :
    ∀ {s : Shared}, HandN X pins σ H B a cls d s0 s → wCl X.K Wout D l cls d σ H → wpAny (model X.prog X.w) X.A (handleBy (.ref a) X.env hds) (SP X pins D) X.xe s := by
  induction C with
  | nil => exact fun h q => h.passes hs hf tk q
  | cons test hi hl hsu _ ih =>
    rintro s h ⟨b, e, yes, no⟩
    obtain ⟨oe, vs, _, _, _, I⟩ := h.obj hs hf
    refine wpAny_handleBy_cons (codeAny_handlers_test (test I h.ty e fun h' k => ?_)) fun z => nomatch z
    have h2 := h.more k
    cases b with
    | false => exact ih h2 (no rfl)
    | true => exact h2.meets hs hf hN hi hl hsu (yes rfl a h.free) fun f s2 z => z
variable {body : List Stmt} {h₀ : ExceptHandler} {hds : List ExceptHandler} {l : List Clause} {p : Pos} {tb : WX → TS}
theorem ps_try_clN (hs : X.stack = X.env :: X.outer) (hf : X.env.frame = some X.env.locals) (hN : X.N.Nodup) (tk : L2N.Takes X Wout)
    (hb : ∀ (W : WX) (pn : List (Addr × Obj)) (xe : Value → Shared → Prop), L2N.Takes (X.tr pn xe) W → PassesOwn (model X.prog X.w) X.A X.env xe → PSs (X.tr pn xe) body (tb W)) (C : ClausesN X (h₀ :: hds) l) :
    PS X (.Try body (h₀ :: hds) [] [] p) (fun D σ H => tb (wCl X.K Wout D l) D σ H) := by
  constructor
  intro pins s σ H D I q
  have fr : X.A.frames = some (X.env :: X.outer) := I.ok.frames.trans (congrArg some hs)
  apply wpAny_Try_except
  have caught : L2N.Takes (X.tr (X.pn ++ pins) (comes X (h₀ :: hds) pins D)) (wCl X.K Wout D l) := fun u s1 x => ?_
  · have bodyOk := hb (wCl X.K Wout D l) (X.pn ++ pins) (comes X (h₀ :: hds) pins D) caught PassesOwn.looking
    refine wpAny_mono (bodyOk.run [] s σ H D (I.toTry _) q) (fun f s1 x => ?_) fun _ _ x => x
    match f, x with
    | .next, ⟨_, _, J, q1⟩ => exact wpAny_execs_nil ⟨_, _, J.ofTry I.ok, q1⟩
    | .brk, ⟨_, _, J, q1⟩ => exact ⟨_, _, J.ofTry I.ok, q1⟩
    | .cont, ⟨_, _, J, q1⟩ => exact ⟨_, _, J.ofTry I.ok, q1⟩
    | .ret u, ⟨_, _, _, J, rv, q1⟩ => exact ⟨_, _, _, J.ofTry I.ok, rv, q1⟩
  · obtain ⟨a, B, s0, pins', σ1, H1, cls, d, rfl, J, low, up, sky, na, os, ag, w⟩ := x
    exact L2N.Sky.land L2N.Zn.steady fr hf (by rw [← hs]; exact sky) fun h3 fl up3 => HandN.goes hs hf hN tk C ⟨J.ofTry I.ok, low, up.trans up3, fl, na, os, ag⟩ w
end
end Ag

end
/-! ## LN -/
section
set_option linter.all false
set_option maxRecDepth 100000
set_option maxHeartbeats 1000000
namespace Ag
open PySem PySem.Spec PyProof.Rows L2 LamX
/-! ### a lambda handed to a def that catches what it lets out (exceptions without a context) -/
abbrev lamN (X : Cx) (A : Around) (outer : List Env) (s : Shared) (H : Hp) (E : XK) (scope : Scope) (f c : Addr) : Cx := (lamCx X A outer s H E scope f c).wish fun e u =>
  wpAny (model X.prog X.w) (A.deeper (lamEnv X scope s.heap.objs.size f c)) (leaving (lamEnv X scope s.heap.objs.size f c) e) (fun _ v => L2N.CX X.prog X.w outer H s E e v) (fun e' v => L2N.CX X.prog X.w outer H s E e' v) u
/-- the context of the def that got it -/
abbrev gotC (X : Cx) (Ng : List Str) (q : Str) (sg : Scope) (g : Addr) (cd : Value) (s : Shared) (H : Hp) : Cx := cxOf C8.CX0 X.prog X.w X.K X.mg X.base Ng q sg g cd X.A X.stack s H C8.E0
section
variable {X : Cx} {pins : List (Addr × Obj)} {σ : L2.St} {H HZ : Hp} {s s1 : Shared}
theorem act_N {Ng : List Str} {qg : Str} {sg : Scope} {g f c' : Addr} {cdg pm ctv : Value} {params : Arguments} {body : Expr} {scope : Scope} {k : Nat} {a : Str} {pn : List (Addr × Obj)} {xe : Value → Shared → Prop} {W : WX} {E : XK} {tb : TE} {p1 p2 : Pos}
    (I : Inv X pins σ H s) (L : LamS X.env.scope scope) (hf : s.heap.get? f = some (PySem.W.kla_obj "<lambda>" (X.env.qual ++ "<lambda>") params body scope (cloFrom X.env.cells scope.names []) pm c' ctv)) (hfn : H f = none) (hfr : f ∉ frs X.stack)
    (hbind : bindArgs (PySem.W.kla_fn "<lambda>" (X.env.qual ++ "<lambda>") params body scope (cloFrom X.env.cells scope.names []) pm (.ref c') ctv) ⟨[], []⟩ = pure []) (tk : L2N.Takes ((gotC X Ng qg sg g cdg s H).tr pn xe) W) (hW : ∀ cls d τ G, E cls d G → W cls d τ G)
    (hr : Room (k + 1) (X.A.deeper (envOfC qg sg s.heap.objs.size g cdg))) (hbody : ∀ (A : Around) (outer : List Env) (s : Shared) (H : Hp), Room k (A.deeper (lamEnv X scope s.heap.objs.size f c')) → PE (lamN X A outer s H E scope f c') body tb) (hN : Ng[0]? = some a) (hv : Vis sg a)
    (hd : (a == ("__debug__" : Str)) = false) (hcd : (a == ("__classdict__" : Str)) = false) :
    PE ((gotC X Ng qg sg g cdg s H).tr pn xe) (.Call (.Name a p1) [] [] p2) (fun τ G Q => τ[0]? = some (some (.ref f)) ∧ G c' = some (CodeO c' (X.env.qual ++ "<lambda>")) ∧ tb σ G Q) := by
  constructor
  intro pz sz τ G Q IZ ⟨h1, h2, h3⟩
  refine wpAny_Call_Name_kw (thn ((pe_var (pos := p1) (i := 0) hN hv hd hcd).run pz sz τ G (fun v F => v = .ref f ∧ F = G) IZ ⟨.ref f, h1, rfl, rfl⟩) fun u s1 ⟨v, G1, I1, r1, e1, e2⟩ => ?_)
  subst e1
  rw [e2] at I1
  cases (show u = Value.ref f from r1)
  have lamb := I1.base.keep f _ hf hfn hfr fun z => nomatch (show f ∈ ([] : List Addr) from z)
  refine PySem.W.callWith_F0 ⟨_, _, _, _, lamb⟩ ?_
  obtain ⟨⟨oc, vs, t, k1, k2, k3⟩, _, _⟩ := I1.hok c' _ h2
  have go : codeAny (model X.prog X.w) (X.A.deeper (envOfC qg sg s.heap.objs.size g cdg)) (.call (.ref f) ⟨[], []⟩) (CR (L2N.CX X.prog X.w) (envOfC qg sg s.heap.objs.size g cdg :: X.stack) X.prog X.w G s1 Q E) s1 := by
    refine PySem.W.kla_callFunE hr.depth lamb rfl L.co L.gen rfl ⟨c', oc, vs, t, rfl, k1, k2, k3⟩ ?_
    rw [hbind]; refine wpAny_pure (wpAny_newFunctionEnv (fun y hy => (L.own y hy).2) (fun y hy => absurd hy (by simp)) (fun h2 hns hsb => ⟨I1.nolimit.fresh _ hsb, ?_⟩) L.kind)
    show codeAny _ _ (.expr body (lamEnv X scope s1.heap.objs.size f c')) (CR (L2N.CX X.prog X.w) _ _ _ _ _ _ _) _
    have J := lam_start2 (A := X.A.deeper (envOfC qg sg s.heap.objs.size g cdg)) (outer := envOfC qg sg s.heap.objs.size g cdg :: X.stack) (E := E) (f := f) (c' := c') (tk := s1.toks + ([] : List (Str × Value)).length) I L I1.env0 hr.hd I1.base hns fun b o z => hsb.extBut b o (Nat.ne_of_lt (Heap.lt_size z)) (Heap.get?_push_of_some _ z)
    exact PySem.W.kla_codeExpr (wpAny_mono ((hbody _ _ s1 G (hr.deeper _)).run [] _ _ G Q (J.wish _) h3) (fun v s' ⟨w', G', J', rv, q⟩ => ⟨w', G', J'.os, J'.bare, J'.base, J'.hok, rv, q⟩) fun _ _ z => z)
  have out : Passes (L2N.CX X.prog X.w) ((gotC X Ng qg sg g cdg s H).tr pn xe) E := L2N.passes_call tk hW
  refine wpAny_call (codeAny_mono go ?_)
  rintro (er | fl) s' hq
  · exact out pz τ G s1 er s' I1 hq
  cases fl with
  | ret u => exact I1.after hq
  | _ => exact hq.elim
/-- what the def makes of the lambda's reading -/
def GivesN (X : Cx) (Ng : List Str) (x : Str) (sg : Scope) (g : Addr) (cdg : Value) (bg : List Stmt) (a : Str) (q : Str) (TT : (XK → Hp → VK → Prop) → Hp → VK → Prop) : Prop :=
  ∀ (f c : Addr) (s : Shared) (H : Hp) (Q : VK) (tl : XK → Hp → VK → Prop),
    (∀ (W : WX) (pn : List (Addr × Obj)) (xe : Value → Shared → Prop) (E : XK) (p1 p2 : Pos), L2N.Takes ((gotC X Ng x sg g cdg s H).tr pn xe) W → (∀ cls d τ G, E cls d G → W cls d τ G) →
      PE ((gotC X Ng x sg g cdg s H).tr pn xe) (.Call (.Name a p1) [] [] p2) (fun τ G Q => τ[0]? = some (some (.ref f)) ∧ G c = some (CodeO c q) ∧ tl E G Q)) →
    H c = some (CodeO c q) → TT tl H Q → ∃ t, PSs (gotC X Ng x sg g cdg s H).nox bg t ∧ t { nx := fun _ G => Q .non G, rt := Q } (L2.start Ng [.ref f]) H
theorem pe_lamN {T : List (Addr × Str)} {TT : (XK → Hp → VK → Prop) → Hp → VK → Prop} {x a : Str} {g c P : Addr} {k : Nat} {pg : Arguments} {bg : List Stmt} {sg : Scope} {dV kV doc pm cdv ct oc : Value} {an od : Option Addr} {osl : Array (Option Value)} {Ng : List Str}
    {params : Arguments} {body : Expr} {scope : Scope} {t : XK → TE} {p lpos pos : Pos} (hg : Gl X x) (hm : X.mg x = some (.ref g)) (hk : PySem.W.keepIn X.K (.ref g) = true) (lk : X.K.lookup g = some ⟨oc, od, .func (PySem.W.fnOf x x pg bg sg dV kV doc pm an cdv ct), osl⟩)
    (hcg : PySem.W.codeIn X.K cdv x = true) (hb : L2.Binds X.K (PySem.W.fnOf x x pg bg sg dV kV doc pm an cdv ct) [a] []) (Sg : FnScope Ng [a] sg) (hNg : Ng[0]? = some a) (hva : Vis sg a) (hG : GivesN X Ng x sg g cdv bg a (X.env.qual ++ "<lambda>") TT) (TB : TabB X.base X.mg c P) (hcode : X.env.code = .ref c)
    (hmT : (P, X.env.qual ++ "<lambda>") ∈ T) (hu : ∀ p ∈ T, p.1 = P → p.2 = X.env.qual ++ "<lambda>") (hr : Room (k + 2) X.A) (L : LamS X.env.scope scope) (hdef : defaultsOf params X.env = ([], [])) (hbind : ∀ (q : Str) (cl : List (Str × Addr)) (pm cv ctv : Value), bindArgs (PySem.W.kla_fn "<lambda>" q params body scope cl pm cv ctv) ⟨[], []⟩ = pure [])
    (hbody : ∀ (A : Around) (outer : List Env) (s : Shared) (H : Hp) (E : XK) (f c' : Addr), Room k (A.deeper (lamEnv X scope s.heap.objs.size f c')) → PE (lamN X A outer s H E scope f c') body (t E))
    (hdb : (x == ("__debug__" : Str)) = false := by decide) (hd : (a == ("__debug__" : Str)) = false := by decide) (hcd : (a == ("__classdict__" : Str)) = false := by decide) : PE X (.Call (.Name x p) [.Lambda params body scope lpos] [] pos) (tLam T TT t) := by
  constructor
  intro pins s σ H Q I ⟨hT, h⟩
  refine wpAny_Call_Name_kw (ld_glob I hg hm (PySem.W.callWith_K (h₀ := X.base) I.ok.mod.kin hk ?_ (by rfl) (by rfl)) hdb)
  show wpAny _ _ (spliced ((false, eval (.Lambda params body scope lpos) X.env) :: backTo pos (starEach [] X.env))) (fun us v => _) _ s
  refine Calls.spliced_cons (lam_make2 I TB hcode hmT hu hT hdef (L.has I.ok) fun f c' pm' ctv H1 s' I1 eN T1 hf hfn hfr hco => Calls.spliced_nil ⟨I1.kIn, ?_⟩)
  refine wpAny_call (codeAny_mono (run_ofS (CX := C8.CX0) (E := C8.E0) (Q := Q) (N := Ng) (ps := [a]) (us := [.ref f]) (vs := [.ref f]) lk hcg Sg hr I1.env0 (hb s' [.ref f] I1.kIn rfl) (.cons rfl .nil) rfl fun hr2 => ?_) ?_)
  · obtain ⟨t', h1, h2⟩ := hG f c' s' H1 Q (fun E G Q' => t E σ G Q') (fun W pn xe E p1 p2 tk hW => act_N I1 L hf hfn hfr (hbind _ _ _ _ _) tk hW hr2 (fun A outer s H hr3 => hbody A outer s H E f c' hr3) hNg hva hd hcd) hco (h H1 eN T1)
    exact ⟨t', h1.nox, h2⟩
  · rintro (er | fl) s2 hq
    · exact (show False from hq).elim
    cases fl with
    | ret u => exact I1.after hq
    | _ => exact hq.elim
end
end Ag

end
/-! ## XW -/
section
set_option linter.all false
set_option maxRecDepth 100000
namespace Ag
open PySem PySem.Spec PyProof.Rows L2 HotX L2H
/-! ### a suite for some own classes, each with the same field -/
def tXv (K : PySem.W.Frag) (a : Addr) (cls : Value) (d : Option Addr) (f : Str) (i : Nat) : TE := fun σ H Q => σ[i]? = some (some (.ref a)) ∧ ∃ (C dd : Addr) (fs : List (Str × V)) (v : V), XfC K C ∧ PySem.W.findIn K (.ref C) f = some none ∧ cls = .ref C ∧ d = some dd ∧ H dd = some (.xd fs) ∧ fs.lookup f = some v ∧ Q v H
theorem pe_xv {X : Cx} {a : Addr} {oe : Obj} {cls : Value} {d : Option Addr} {pn : List (Addr × Obj)} {p pos : Pos} {n f : Str} {i : Nat} (hz : Zc cls d oe) (hf : ∃ vs, oe.data = .fields vs) (he : PE (X.suite a ((a, oe) :: pn)) (.Name n p) (tVar i))
    (hb : attributeBase (.Name n p) f X.env (eval (.Name n p) X.env) = eval (.Name n p) X.env := by rfl) : PE (X.suite a ((a, oe) :: pn)) (.Attribute (.Name n p) f pos) (tXv X.K a cls d f i) := by
  constructor
  rintro pins s σ H Q I ⟨h1, C, dd, fs, v, T, no, rfl, rfl, h2, h3, q⟩
  exact (pe_xf (X := X) (pos := pos) T no hz hf he hb).run pins s σ H Q I ⟨.ref a, h1, rfl, rfl, dd, fs, v, rfl, h2, h3, q⟩
/-- isinstance(e, C), e the handled exception, C a class of the module -/
def tIsH (K : PySem.W.Frag) (a : Addr) (cls : Value) (d : Option Addr) (i : Nat) (C : Addr) : TE := fun σ H Q => σ[i]? = some (some (.ref a)) ∧ ∃ (D dd : Addr) (fs : List (Str × V)) (b : Bool), cls = .ref D ∧ d = some dd ∧ H dd = some (.xd fs) ∧ ExcC K D ∧ PySem.W.kitOne K (.ref D) (.ref C) = some b ∧ Q (.bl b) H
theorem pe_isH {X : Cx} {K : PySem.W.Frag} {a C : Addr} {oe : Obj} {cls : Value} {d : Option Addr} {i : Nat} {n x : Str} {p0 p1 p2 p3 : Pos} (hK : X.K = K) (hp : (a, oe) ∈ X.pn) (hz : Zc cls d oe) (hf : ∃ vs, oe.data = .fields vs) (hg : Gl X "isinstance") (hn : X.mg "isinstance" = none) (hv : PE X (.Name n p1) (tVar i)) (hgc : Gl X x)
    (hmc : X.mg x = some (.ref C)) (hdb : (x == ("__debug__" : Str)) = false) : PE X (.Call (.Name "isinstance" p0) [.Name n p1, .Name x p2] [] p3) (tIsH K a cls d i C) := by
  subst hK
  constructor
  rintro pins s σ H Q I ⟨h1, D, dd, fs, b, e1, e2, h2, h3, h4, q⟩
  exact (pe_callB (call_isH hp hz hf) hg hn PyProof.Rows.boot_isinstance (pa_cons hv (pa_cons (pe_cls hgc hmc hdb) pa_nil))).run pins s σ H Q I ⟨.ref a, h1, D, dd, fs, .ref C, .ref C, b, rfl, e1, e2, h2, h3, ref_only, h4, q⟩
/-- the handled exception of a suite -/
theorem hot_zn {X : Cx} {a : Addr} {oe : Obj} {cls : Value} {d : Option Addr} (pn : List (Addr × Obj)) (hz : L2N.Zn cls d oe) (hf : ∃ vs, oe.data = .fields vs) : Hot1 (X.suite a ((a, oe) :: pn)).A (a, oe) := by
  obtain ⟨vs, e⟩ := hf
  exact ⟨rfl, vs, e, hz.2.2 vs e⟩
/-- two names, of a pair -/
theorem pg_twoH {X : Cx} {K : PySem.W.Frag} {i j k : Nat} {x y : Str} {p1 p2 pos : Pos} (hK : X.K = K) (c : HotC X) (nd : X.N.Nodup) (hi : X.N[i]? = some x) (hj : X.N[j]? = some y) (lx : X.env.scope.names.lookup x = some .local) (ly : X.env.scope.names.lookup y = some .local) :
    PG X (.Tuple [.Name x p1, .Name y p2] k pos) (gTup K 2 (gCons (gName i) (gCons (gName j) gNil))) := by
  subst hK
  exact pg_tupH c (pgs_cons (pg_name nd hi (.inl lx) (.inr lx)) (pgs_cons (pg_name nd hj (.inl ly) (.inr ly)) pgs_nil))
theorem pic_listK {X : Cx} {K : PySem.W.Frag} {tg l : Expr} {tl : TE} (hK : X.K = K) (hl : PE X l tl) : Pic HotC X tg l (iList K tl) := by
  subst hK
  exact pic_list hl
theorem pic_tupK {X : Cx} {K : PySem.W.Frag} {tg l : Expr} {tl : TE} (hK : X.K = K) (hl : PE X l tl) : Pic HotC X tg l (iTup K tl) := by
  subst hK
  exact pic_tup hl
theorem takesN_len {X : Cx} {W : WX} (tk : L2N.Takes X W) : L2N.Takes X (fun cls d σ H => σ.length = X.N.length → W cls d σ H) := by
  rintro u s' ⟨a, B, sI, pins, σ, H, cls, d, e, J, nb, up, sky, na, os, ag, z⟩
  exact tk u s' ⟨a, B, sI, pins, σ, H, cls, d, e, J, nb, up, sky, na, os, ag, z J.len⟩
theorem takesN0 {X : Cx} : L2N.Takes X (fun _ _ _ _ => False) := by
  rintro u s' ⟨a, B, sI, pins, σ, H, cls, d, e, J, nb, up, sky, na, os, ag, z⟩
  exact z.elim
theorem six {σ : L2.St} (h : σ.length = 6) : ∃ a b c d e f, σ = [a, b, c, d, e, f] := by
  match σ, h with
  | [a, b, c, d, e, f], _ => exact ⟨a, b, c, d, e, f, rfl⟩
/-- some own exception classes, and the one above them -/
structure Exs (K : PySem.W.Frag) (n : Nat) (cl : Nat → Addr) (G : Addr) : Prop where
  x : ∀ k, k < n → XfC K (cl k)
  c : ∀ k, k < n → ExcC K (cl k)
  no : ∀ k, k < n → PySem.W.findIn K (.ref (cl k)) "thing" = some none
  ex : ∀ k, k < n → PySem.W.exmAny K (.ref (cl k)) ((List.range n).map fun i => .ref (cl i)) = some true
  is : ∀ k, k < n → ∀ j, j < n → PySem.W.kitOne K (.ref (cl k)) (.ref (cl j)) = some (decide (j = k))
  isG : ∀ k, k < n → PySem.W.kitOne K (.ref (cl k)) (.ref G) = some true
end Ag

end
/-! ## Z8 -/
section
set_option linter.all false
set_option maxRecDepth 100000
set_option maxHeartbeats 4000000
namespace Ag
open PySem PySem.Spec PyProof.Rows L2 HotX L2H
/-! ### a call tried: what it returns, or which exception it raises -/
def nm4 (k : Nat) : Str := [Str.ofString "BadBool", Str.ofString "BadMark", Str.ofString "BadNumber", Str.ofString "BadRule"].getD k (Str.ofString "")
def wd4 (k : Nat) : List (Str × Bool) := [(Str.ofString "BadBool", decide (0 = k)), (Str.ofString "BadMark", decide (1 = k)), (Str.ofString "BadNumber", decide (2 = k)), (Str.ofString "BadRule", decide (3 = k))]
theorem wd4_one {k : Nat} (h : k < 4) : (wd4 k).filter (·.2) = [(nm4 k, true)] := by
  match k, h with
  | 0, _ => rfl
  | 1, _ => rfl
  | 2, _ => rfl
  | 3, _ => rfl
def TTried (cl : Nat → Addr) : (XK → Hp → VK → Prop) → Hp → VK → Prop := fun tl H Q => ∀ (H1 : Hp) (E : XK) (R : VK), Same H H1 →
  (∀ cls d G, Same H1 G → (∃ k dd v, k < 4 ∧ cls = .ref (cl k) ∧ d = some dd ∧ G dd = some (.xd [("thing", v)]) ∧ ∀ t G', Same G G' → G t = none → G' t = some (.tup [.str (nm4 k), v]) → Q (.ref t) G') → E cls d G) →
  (∀ v G, Same H1 G → (∀ t G', Same G G' → G t = none → G' t = some (.tup [.str (Str.ofString "returned"), v]) → Q (.ref t) G') → R v G) → tl E H1 R
/-- return tuple([word for word, is_it in words if is_it]) + (told,) -/
theorem ret_tried {K : PySem.W.Frag} {Q : VK} (x0 : Option V) (L : Addr) (x3 x4 x5 : Option V) (w : V) (k : Str) (vs : List V) (ps : List (Str × Bool)) (G : Hp) (hL : G L = some (.lst vs)) (pv : PsA G vs ps) (hn : vs.length ≤ 1000) (hk : (ps.filter (·.2)).map (fun p => V.str p.1) = [.str k]) (q : ∀ t G', Same G G' → G t = none → G' t = some (.tup [.str k, w]) → Q (.ref t) G') :
    tOp (rCatA K) (tCB (fun xs H Q => ∃ p ys, xs = [.ref p] ∧ ((SqL K H p ys ∧ ∀ l, H l = none → Q (.ref l) (upd H l (.tup ys))) ∨ (SqT K H p ys ∧ Q (.ref p) H))) (tCons (tLc (iList K (tVar 2)) (gTup K 2 (gCons (gName 4) (gCons (gName 5) gNil))) (tB (tVar 5)) (tVar 4) [4, 5]) tNil)) (tTup (tCons (tVar 1) tNil)) [x0, some w, some (.ref L), x3, x4, x5] G Q := by
  refine ⟨_, rfl, L, rfl, ⟨_, SqL.of hL⟩, fun D hD => ?_⟩
  refine lc_words (K := K) pv hL (by omega) hD (fun t s b H k k0 ht hk hk0 => ?_) fun H2 s2 h2 => ?_
  · refine ⟨t, _, rfl, SqT.of ht, rfl, _, _, rfl, _, _, rfl, rfl, rfl, _, rfl, b, rfl, ?_⟩
    cases b with
    | true => exact iteT ⟨_, rfl, hk rfl⟩
    | false => exact iteF (hk0 rfl)
  · rw [hk] at h2
    refine ⟨D, _, rfl, .inl ⟨SqL.of h2, fun l hl => ?_⟩⟩
    have s3 := same_new (o := .tup [V.str k]) hl
    have h3 : upd H2 l (.tup [V.str k]) l = some (.tup [V.str k]) := upd_same
    generalize upd H2 l (.tup [V.str k]) = H3 at s3 h3 ⊢
    refine ⟨_, rfl, sz (Nat.le_of_ble_eq_true rfl), fun u hu => ?_⟩
    have s4 := same_new (o := .tup [w]) hu
    have h4 : upd H3 u (.tup [w]) u = some (.tup [w]) := upd_same
    generalize upd H3 u (.tup [w]) = H4 at s4 h4 ⊢
    have s24 := (s2.trans s3).trans s4
    exact ⟨l, u, _, _, rfl, rfl, SqT.of (s4 _ _ h3), SqT.of h4, sz (Nat.le_of_ble_eq_true rfl), (fun z => by cases z), (fun _ z => by cases z), fun _ _ t ht => q t _ (s24.trans (same_new ht)) (s24.free ht) upd_same⟩
abbrev YT (X : Cx) (x : Str) (g : Addr) (cdg : Value) (s : Shared) (H : Hp) : Cx := (gotC X N__law_tried x (defScope s__law_tried) g cdg s H).nox
section
variable {X : Cx} {x q : Str} {g G : Addr} {cdg : Value} {cl : Nat → Addr}
theorem ok_tried (B : Blt X.mg) (E : Exs X.K 4 cl G) (g0 : X.mg "BadBool" = some (.ref (cl 0))) (g1 : X.mg "BadMark" = some (.ref (cl 1))) (g2 : X.mg "BadNumber" = some (.ref (cl 2))) (g3 : X.mg "BadRule" = some (.ref (cl 3))) (gG : X.mg "GateError" = some (.ref G)) :
    GivesN X N__law_tried x (defScope s__law_tried) g cdg (defBody s__law_tried) "_law_call" q (TTried cl) := by
  intro f c s H Q tl act hc h
  have fin : ∀ (Y : Cx), True := fun _ => trivial
  refine ⟨_, pss_cons (ps_par (i := 1) (j := 2) (by rfl) sc__law_tried.nd rfl rfl (by decide) rfl rfl (pa_cons pe_non (pa_cons (pe_lst (pa_cons (pe_tup (pa_cons pe_str (pa_cons pe_bl pa_nil))) pa_nil)) pa_nil)) (by rfl))
    (pss_cons (ps_try_clN (X := YT X x g cdg s H)
      (tb := fun W D σ H => ∃ Ex : XK, (∀ cls d τ G, Ex cls d G → τ.length = 6 → W cls d τ G) ∧ σ[0]? = some (some (.ref f)) ∧ H c = some (LamX.CodeO c q) ∧ tl Ex H fun v G => D.nx (σ.set 1 (some v)) G)
      rfl rfl sc__law_tried.nd takesN0 (fun W pn xe tk _ => ⟨fun pins s' σ H' D I h' => ?_⟩)
      (ClausesN.cons (X := YT X x g cdg s H) (tests_row (X := YT X x g cdg s H) (.cons ⟨by rfl, by decide, .inl g0⟩ (.cons ⟨by rfl, by decide, .inl g1⟩ (.cons ⟨by rfl, by decide, .inl g2⟩ (.cons ⟨by rfl, by decide, .inl g3⟩ .nil)))) (by decide)) (i := 3) rfl (.inr ⟨rfl, rfl⟩) (fun a oe cls d pn hz hf =>
        pss_cons (ps_set (i := 2) sc__law_tried.nd rfl (.inl rfl) (pe_lst (pa_cons (pe_tup (pa_cons pe_str (pa_cons (pe_isH (K := X.K) rfl List.mem_cons_self hz.zc hf (by rfl) B.n_isinstance (pv 3) (by rfl) g0 (by decide)) pa_nil))) (pa_cons (pe_tup (pa_cons pe_str (pa_cons (pe_isH (K := X.K) rfl List.mem_cons_self hz.zc hf (by rfl) B.n_isinstance (pv 3) (by rfl) g1 (by decide)) pa_nil))) pa_nil))))
        (pss_cons (ps_parH (i := 2) (j := 1) ⟨(a, oe), hot_zn pn hz hf, List.mem_cons_self⟩ sc__law_tried.nd rfl rfl (by decide) rfl rfl (pa_cons (pe_op op_cat (pv 2) (pe_lst (pa_cons (pe_tup (pa_cons pe_str (pa_cons (pe_isH (K := X.K) rfl List.mem_cons_self hz.zc hf (by rfl) B.n_isinstance (pv 3) (by rfl) g2 (by decide)) pa_nil))) (pa_cons (pe_tup (pa_cons pe_str (pa_cons (pe_isH (K := X.K) rfl List.mem_cons_self hz.zc hf (by rfl) B.n_isinstance (pv 3) (by rfl) g3 (by decide)) pa_nil))) pa_nil)))) (pa_cons (pe_xv hz.zc hf (pv 3)) pa_nil)) (by rfl))
        (pss_one (ps_setLcH (i := 2) (own := [("_law_word", 4), ("_law_is_it", 5)]) (p := (a, oe)) List.mem_cons_self (hot_zn pn hz hf) sc__law_tried.nd rfl rfl (sw_true rfl rfl rfl (by decide +kernel)) (pic_listK (X := (YT X x g cdg s H).suite a ((a, oe) :: pn)) (K := X.K) rfl (pv 2)) (blkOk_by (N := N__law_tried) (sc := defScope s__law_tried) (by decide +kernel))
          (fun _ _ _ _ _ => pg_twoH (i := 4) (j := 5) (K := X.K) rfl ⟨(a, oe), hot_zn (X := YT X x g cdg s H) pn hz hf, List.mem_cons_self⟩ sc__law_tried.nd rfl rfl rfl rfl)
          (fun _ _ _ _ _ => pts_one (PW.pt (pw_and (pt_val (pv 5)) (pw_and1 (pt_val (pe_isH (K := X.K) rfl List.mem_cons_self hz.zc hf (by rfl) B.n_isinstance (pv 3) (by rfl) gG (by decide)))))))
          (fun _ _ _ _ _ => pe_tup (pa_cons (pv 4) (pa_cons (pv 5) pa_nil))))))) .nil))
    (pss_one (ps_ret (pe_op op_catA (pe_callTy call_tuple_of (by rfl) B.n_tuple (by decide +kernel) (pa_cons (pe_lc (own := [("_law_word", 4), ("_law_is_it", 5)]) rfl sc__law_tried.nd (pi_list (pv 2)) (blkOk_by (N := N__law_tried) (sc := defScope s__law_tried) (by decide +kernel)) (fun _ _ _ _ _ => pg_two (i := 4) (j := 5) X.K rfl sc__law_tried.nd rfl rfl rfl rfl rfl) (fun _ _ _ _ _ => (pts_one (pt_val (pv 5)))) (fun _ _ _ _ _ => (pv 4))) pa_nil)) (pe_tup (pa_cons (pv 1) pa_nil)))))), ?_⟩
  · obtain ⟨Ex, hW, h1, h2, h3⟩ := h'
    exact (pss_one (ps_set (i := 1) sc__law_tried.nd rfl (.inl rfl) (act _ pn xe Ex _ _ (takesN_len tk) fun cls d σ' H' e l => hW cls d σ' H' e l))).run pins s' σ H' D I ⟨h1, h2, h3⟩
  · refine ⟨sz (Nat.le_of_ble_eq_true rfl), fun t0 ht0 => ⟨sz (Nat.le_of_ble_eq_true rfl), fun L0 hL0 => ⟨_, _, rfl, ?_⟩⟩⟩
    have s0 := (same_new (o := .tup [.str (Str.ofString "returned"), .bl true]) ht0).trans (same_new (o := .lst [.ref t0]) hL0)
    have at0 : upd (upd H t0 (.tup [.str (Str.ofString "returned"), .bl true])) L0 (.lst [.ref t0]) t0 = some (.tup [.str (Str.ofString "returned"), .bl true]) := same_new hL0 _ _ upd_same
    have atL : upd (upd H t0 (.tup [.str (Str.ofString "returned"), .bl true])) L0 (.lst [.ref t0]) L0 = some (.lst [.ref t0]) := upd_same
    generalize upd (upd H t0 (.tup [.str (Str.ofString "returned"), .bl true])) L0 (.lst [.ref t0]) = H1 at s0 at0 atL ⊢
    refine ⟨fun cls d G => ∀ τ : L2.St, τ.length = 6 → wCl X.K (fun _ _ _ _ => False) _ _ cls d τ G, fun cls d τ G hE l6 => hE τ l6, rfl, s0 _ _ hc, h H1 _ _ s0 ?_ ?_⟩
    · rintro cls d G sG ⟨k, dd, v, k4, rfl, rfl, hdd, q'⟩ τ l6
      obtain ⟨x0, x1, x2, x3, x4, x5, rfl⟩ := six l6
      refine ⟨true, E.ex k k4, fun _ a ha => ?_, fun z => by cases z⟩
      refine ⟨rfl, _, dd, _, _, rfl, rfl, hdd, E.c k k4, E.is k k4 0 (by omega), sz (Nat.le_of_ble_eq_true rfl), fun t1 h1 => ?_⟩
      have s1 := same_new (o := .tup [.str (Str.ofString "BadBool"), .bl (decide (0 = k))]) h1
      have a1 : upd G t1 (.tup [.str (Str.ofString "BadBool"), .bl (decide (0 = k))]) t1 = _ := upd_same
      generalize upd G t1 (.tup [.str (Str.ofString "BadBool"), .bl (decide (0 = k))]) = G1 at s1 a1 ⊢
      refine ⟨rfl, _, dd, _, _, rfl, rfl, s1 _ _ hdd, E.c k k4, E.is k k4 1 (by omega), sz (Nat.le_of_ble_eq_true rfl), fun t2 h2 => ?_⟩
      have s2 := s1.trans (same_new (o := .tup [.str (Str.ofString "BadMark"), .bl (decide (1 = k))]) h2)
      have a2 : upd G1 t2 (.tup [.str (Str.ofString "BadMark"), .bl (decide (1 = k))]) t2 = _ := upd_same
      have a1 := same_new (o := .tup [.str (Str.ofString "BadMark"), .bl (decide (1 = k))]) h2 _ _ a1
      generalize upd G1 t2 (.tup [.str (Str.ofString "BadMark"), .bl (decide (1 = k))]) = G2 at s2 a1 a2 ⊢
      refine ⟨sz (Nat.le_of_ble_eq_true rfl), fun L1 hL1 => ?_⟩
      have p3 : PsA (upd G2 L1 (.lst [.ref t1, .ref t2])) [.ref t1, .ref t2] [(Str.ofString "BadBool", decide (0 = k)), (Str.ofString "BadMark", decide (1 = k))] := PsA.to (.cons a1 (.cons a2 .nil)) (same_new hL1)
      have s3 := s2.trans (same_new (o := .lst [.ref t1, .ref t2]) hL1)
      have a3 : upd G2 L1 (.lst [.ref t1, .ref t2]) L1 = _ := upd_same
      generalize upd G2 L1 (.lst [.ref t1, .ref t2]) = G3 at s3 a3 p3 ⊢
      refine ⟨_, rfl, rfl, _, dd, _, _, rfl, rfl, s3 _ _ hdd, E.c k k4, E.is k k4 2 (by omega), sz (Nat.le_of_ble_eq_true rfl), fun t4 h4 => ?_⟩
      have s4 := same_new (o := .tup [.str (Str.ofString "BadNumber"), .bl (decide (2 = k))]) h4
      have a4 : upd G3 t4 (.tup [.str (Str.ofString "BadNumber"), .bl (decide (2 = k))]) t4 = _ := upd_same
      generalize upd G3 t4 (.tup [.str (Str.ofString "BadNumber"), .bl (decide (2 = k))]) = G4 at s4 a4 ⊢
      refine ⟨rfl, _, dd, _, _, rfl, rfl, (s3.trans s4) _ _ hdd, E.c k k4, E.is k k4 3 (by omega), sz (Nat.le_of_ble_eq_true rfl), fun t5 h5 => ?_⟩
      have s5 := s4.trans (same_new (o := .tup [.str (Str.ofString "BadRule"), .bl (decide (3 = k))]) h5)
      have a5 : upd G4 t5 (.tup [.str (Str.ofString "BadRule"), .bl (decide (3 = k))]) t5 = _ := upd_same
      have a4 := same_new (o := .tup [.str (Str.ofString "BadRule"), .bl (decide (3 = k))]) h5 _ _ a4
      generalize upd G4 t5 (.tup [.str (Str.ofString "BadRule"), .bl (decide (3 = k))]) = G5 at s5 a4 a5 ⊢
      refine ⟨sz (Nat.le_of_ble_eq_true rfl), fun L2 hL2 => ?_⟩
      have s6 := s5.trans (same_new (o := .lst [.ref t4, .ref t5]) hL2)
      have p6 : PsA (upd G5 L2 (.lst [.ref t4, .ref t5])) [.ref t4, .ref t5] [(Str.ofString "BadNumber", decide (2 = k)), (Str.ofString "BadRule", decide (3 = k))] := PsA.to (.cons a4 (.cons a5 .nil)) (same_new hL2)
      have a6 : upd G5 L2 (.lst [.ref t4, .ref t5]) L2 = _ := upd_same
      generalize upd G5 L2 (.lst [.ref t4, .ref t5]) = G6 at s6 a6 p6 ⊢
      refine ⟨L1, L2, _, _, rfl, rfl, s6 _ _ a3, a6, sz (Nat.le_of_ble_eq_true rfl), fun L3 hL3 => ?_⟩
      have p7 : PsA (upd G6 L3 (.lst ([.ref t1, .ref t2] ++ [.ref t4, .ref t5]))) ([.ref t1, .ref t2] ++ [.ref t4, .ref t5]) (wd4 k) := ((p3.to s6).app p6).to (same_new hL3)
      have s7 := (s3.trans s6).trans (same_new (o := .lst ([.ref t1, .ref t2] ++ [.ref t4, .ref t5])) hL3)
      have a7 : upd G6 L3 (.lst ([.ref t1, .ref t2] ++ [.ref t4, .ref t5])) L3 = _ := upd_same
      generalize upd G6 L3 (.lst ([.ref t1, .ref t2] ++ [.ref t4, .ref t5])) = G7 at s7 a7 p7 ⊢
      refine ⟨rfl, cl k, dd, _, v, E.x k k4, E.no k k4, rfl, rfl, s7 _ _ hdd, rfl, _, _, rfl, ?_⟩
      refine ⟨_, rfl, L3, rfl, ⟨_, SqL.of a7⟩, fun D hD => ?_⟩
      refine lc_pairs (K := X.K) p7 a7 (Nat.le_of_ble_eq_true rfl) hD (fun t s b H8 m m0 s8 ht hm hm0 => ?_) fun H9 ws s9 h9 p9 => ?_
      · refine ⟨t, _, rfl, SqT.of ht, rfl, _, _, rfl, _, _, rfl, rfl, rfl, _, rfl, b, rfl, ?_⟩
        cases b with
        | true => exact iteT ⟨rfl, cl k, dd, _, true, rfl, rfl, (s7.trans s8) _ _ hdd, E.c k k4, E.isG k k4, true, rfl, iteT ⟨_, rfl, _, rfl, sz (Nat.le_of_ble_eq_true rfl), hm rfl⟩⟩
        | false => exact iteF (iteF (hm0 rfl))
      · rw [wd4_one k4] at p9
        have s79 := s7.trans s9
        refine ret_tried (x0 := x0) (L := D) (x3 := none) (x4 := x4) (x5 := x5) v (nm4 k) ws [(nm4 k, true)] H9 h9 p9 (by have := p9.len; simp at this; omega) rfl fun t G' s' ht h' => ?_
        exact q' t G' (s79.trans s') (s79.free ht) h'
    · intro v G sG q'
      exact ret_tried _ L0 _ _ _ v _ [.ref t0] [(Str.ofString "returned", true)] G (sG _ _ atL) (.cons (sG _ _ at0) .nil) (Nat.le_of_ble_eq_true rfl) rfl q'
end
end Ag

end
/-! ## RevT -/
section
set_option linter.all false
set_option maxRecDepth 100000
namespace Ag
open PySem PySem.Spec PyProof.Rows L2
/-! ### t[::-1] of a tuple -/
section
variable {P : Program} {w : World} {A : Around} {E : Value → Shared → Prop} {s : Shared}
theorem adj_rev (n : Nat) : Builtin.Slice.sliceAdjust none none (-1) (n : Int) = ((n : Int) - 1, -1) := by
  unfold Builtin.Slice.sliceAdjust
  simp
theorem plc_rev (n : Nat) : Builtin.Slice.slicePlaces ((n : Int) - 1) (-1) (-1) = n := by
  unfold Builtin.Slice.slicePlaces
  simp
  split <;> omega
theorem app_rev {z : Addr} {t : Tok} {n : Nat} {Q : Int × Int × Nat → Shared → Prop} (hs : s.heap.IsSliceOf z .none .none (.int (-1) t)) (h : Q ((n : Int) - 1, -1, n) s) : wpAny (model P w) A (Builtin.Slice.sliceApplied (.ref z) (pure (n : Int))) Q E s := by
  obtain ⟨os, h1, h2, h3⟩ := id hs
  unfold Builtin.Slice.sliceApplied Builtin.Slice.sliceFields
  refine wpAny_bind (wpAny_bind (wpAny_field h1 h3 (x := .none) rfl (wpAny_bind (wpAny_field h1 h3 (x := .none) rfl (wpAny_bind (wpAny_field h1 h3 (x := .int (-1) t) rfl (wpAny_pure ?_)))))))
  refine wpAny_bind (HT.slicePart_ (.int (-1) t) ?_)
  refine show wpAny _ _ (if ((-1 : Int) == 0) = true then _ else _) _ _ s from ?_
  rw [if_neg (by decide)]
  refine wpAny_bind (HT.slicePart_ .none (wpAny_bind (HT.slicePart_ .none (wpAny_bind (wpAny_pure ?_)))))
  refine show wpAny _ _ (match Builtin.Slice.sliceAdjust none none (-1) (n : Int) with | (lo, hi) => pure (lo, (-1 : Int), Builtin.Slice.slicePlaces lo hi (-1))) _ _ s from ?_
  rw [adj_rev n]
  refine show wpAny _ _ (pure ((n : Int) - 1, (-1 : Int), Builtin.Slice.slicePlaces ((n : Int) - 1) (-1) (-1))) _ _ s from ?_
  rw [plc_rev]
  exact wpAny_pure h
theorem pick_rev (xs : Array Value) : ((List.range xs.size).filterMap fun (m : Nat) => xs[((xs.size : Int) - 1 + (m : Int) * -1).toNat]?).toArray = xs.toList.reverse.toArray := by
  congr 1
  have e : ((List.range xs.size).filterMap fun (m : Nat) => xs[((xs.size : Int) - 1 + (m : Int) * -1).toNat]?) = (List.range xs.size).filterMap ((xs[·]?) ∘ fun k => xs.size - 1 - k) := by
    have key : ∀ l : List Nat, (∀ m ∈ l, m < xs.size) → (l.filterMap fun (m : Nat) => xs[((xs.size : Int) - 1 + (m : Int) * -1).toNat]?) = l.filterMap ((xs[·]?) ∘ fun k => xs.size - 1 - k) := by
      intro l
      induction l with
      | nil => exact fun _ => rfl
      | cons m l ih =>
        intro h
        have hm := h m List.mem_cons_self
        have e1 : ((xs.size : Int) - 1 + (m : Int) * -1).toNat = xs.size - 1 - m := by omega
        rw [List.filterMap_cons, List.filterMap_cons, ih fun k hk => h k (List.mem_cons_of_mem _ hk), e1]
        rfl
    exact key _ fun m hm => List.mem_range.mp hm
  rw [e, ← List.filterMap_map, PySem.W.krv_range, List.filterMap_reverse, PySem.W.krv_all]
theorem get_rev {t z : Addr} {its : Array Value} {k : Tok} {Q : Value → Shared → Prop} (ht : IsTup s.heap t its) (hs : s.heap.IsSliceOf z .none .none (.int (-1) k)) (hz : its.size ≤ sizeLine)
    (fin : Q (.ref s.heap.objs.size) { s with heap := s.heap.push { cls := .type "tuple", data := .seq its.toList.reverse.toArray } }) : wpAny (model P w) A (getItem (.ref t) (.ref z)) Q E s := by
  have hsz : sizeOk (.seq its.toList.reverse.toArray) := by
    show its.toList.reverse.toArray.size ≤ sizeLine
    rw [List.size_toArray, List.length_reverse, Array.length_toList]
    exact hz
  obtain ⟨os, h1, h2, h3⟩ := id hs
  have hT : s.TypeIs (.ref z) "slice" := ⟨os, h1, h2⟩
  unfold getItem
  try with_reducible refine wpAny_holding ?_
  first
    | refine wpAny_bind (wpAny_pure (wpAny_bind (wpAny_sequenceKey ht.typeIs (by decide) ?_)))
    | refine wpAny_bind (wpAny_sequenceKey (T := "tuple") ht.typeIs (by decide) ?_)
  refine wpAny_bind (wpAny_callSpecial?_slot (name := Str.ofString "__getitem__") ht.typeIs PyProof.Rows.slot_tuple_getitem (wpAny_call_entry PyProof.Rows.slot_tuple_getitem ht.typeIs entry_tuple_getitem ?_ (args_tuple_getitem _ _)))
  refine show wpAny _ _ (Builtin.Tuple.tupleItemsOf (.ref t) >>= _) _ _ s from wpAny_bind (tupleItemsOf_ ht (wpAny_bind (wpAny_typeOf hT ?_)))
  rw [if_pos (by decide)]
  refine wpAny_bind (app_rev hs ?_)
  have hno : ¬ ((((its.size : Int) - 1 == 0) && ((-1 : Int) == 1) && (its.size == its.size)) = true) := by simp
  refine show wpAny _ _ (if (((its.size : Int) - 1 == 0) && ((-1 : Int) == 1) && (its.size == its.size)) = true then _ else _) _ _ s from ?_
  rw [if_neg hno, pick_rev]
  first
    | exact wpAny_bind (m := Builtin.Tuple.tupleExact _) (wpAny_newObj_type (wpAny_pure ⟨_, rfl, wpAny_pure fin⟩) hsz)
    | exact wpAny_bind (m := Builtin.Tuple.tupleExact _) (wpAny_newObj_type (wpAny_bind (wpAny_pure (wpAny_pure ⟨_, rfl, wpAny_pure fin⟩))) hsz)
    | exact wpAny_bind (wpAny_bind (m := Builtin.Tuple.tupleExact _) (wpAny_newObj_type (wpAny_pure (wpAny_pure ⟨_, rfl, wpAny_pure fin⟩)) hsz))
    | exact wpAny_bind (wpAny_bind (m := Builtin.Tuple.tupleExact _) (wpAny_newObj_type (wpAny_pure ⟨_, rfl, wpAny_pure fin⟩) hsz))
end
section
variable {X : Cx}
def tRevT (K : PySem.W.Frag) (te : TE) : TE := fun σ H Q => te σ H fun x H1 => ∃ a xs, x = .ref a ∧ SqT K H1 a xs ∧ ∀ p, H1 p = none → Q (.ref p) (upd H1 p (.tup xs.reverse))
theorem pe_revT {e : Expr} {te : TE} {k : Nat} {p1 p2 p3 pos : Pos} (he : PE X e te) : PE X (.Subscript e (.Slice none none (some (.UnaryOp .USub (.Constant (.int 1) k p1) p2)) p3) pos) (tRevT X.K te) := by
  refine ⟨fun pins s σ H Q I h => Subscript_ (thn (he.run pins s σ H _ I h) ?_)⟩
  rintro v s1 ⟨x, H1, I1, r1, a, xs, rfl, hx, q⟩
  cases r1
  have neg : PO X (some (.UnaryOp .USub (.Constant (.int 1) k p1) p2)) (tPart (tUn (rU fun i => .int (-i)) (tC (.int 1)))) := po_some (pe_un un_neg pe_int)
  refine wpAny_Slice (thn (po_none.run pins s1 σ H1 (fun o H2 => o = none ∧ H2 = H1) I1 ⟨rfl, rfl⟩) ?_)
  rintro vl s2 ⟨l, H2, I2, pl, rfl, rfl⟩
  refine thn (po_none.run pins s2 σ H2 (fun o H3 => o = none ∧ H3 = H2) I2 ⟨rfl, rfl⟩) ?_
  rintro vu s3 ⟨u, H3, I3, pu, rfl, rfl⟩
  refine thn (neg.run pins s3 σ H3 (fun o H4 => o = some (-1) ∧ H4 = H3) I3 ⟨1, rfl, -1, rfl, rfl, rfl⟩) ?_
  rintro vs s4 ⟨o, H4, I4, ps, rfl, rfl⟩
  cases pl
  cases pu
  cases ps with
  | int i t =>
    have I5 : Inv X pins σ H4 { s4 with heap := s4.heap.push { cls := .type "slice", data := .fields #[.none, .none, .int (-1) t] } } := I4.kept (t' := s4.toks) fun b ob q => Heap.get?_push_of_some _ q
    obtain ⟨its, r, ht, hz⟩ := I5.tuple hx
    have hl := r.length
    refine show wpAny (model X.prog X.w) X.A (subscriptTail e (.Slice none none (some (.UnaryOp .USub (.Constant (.int 1) k p1) p2)) p3) (.ref a) (.ref s4.heap.objs.size)) (EP X pins σ Q) X.xe { s4 with heap := s4.heap.push { cls := .type "slice", data := .fields #[.none, .none, .int (-1) t] } } from ?_
    refine tail_any (ops := [.ref a, .ref s4.heap.objs.size]) ht.typeIs (PyProof.Rows.slot_tuple_getitem.lookup) (get_rev ht (Heap.IsSliceOf.new _ .none .none (.int (-1) t)) (by rw [List.size_toArray]; omega) ?_) (by with_unfolding_all rfl)
    refine ⟨.ref _, _, I5.laid (t' := s4.toks) (o := .tup xs.reverse) (fun b ob q => Heap.get?_push_of_some _ q) (Nat.le_refl _) ⟨by rw [List.length_reverse]; exact hz, its.reverse, r.reverse, ?_⟩, rfl, q _ (I5.hok.fresh (Nat.le_refl _))⟩
    exact ⟨_, Heap.get?_push_size _ rfl, rfl, 0, by simp⟩
end
end Ag

end
/-! ## Mk -/
section
set_option linter.all false
set_option maxRecDepth 100000
namespace Ag
open PySem PySem.Spec PyProof.Rows L2
open SX (S S_len S_cat S_inj)
/-! ### expressions that make data -/
/-- under t, from H on, some data that P holds of -/
def Mk (p c : Addr) (P : PyData → Prop) (t : TE) (σ : L2.St) (H : Hp) : Prop := ∀ H1, Same H H1 → ∀ Q : VK, (∀ v d H', Same H1 H' → Dg p c H' v d → P d → Q v H') → t σ H1 Q
def MkA (p c : Addr) (P : PyData → Prop) (n : Nat) (t : TA) (σ : L2.St) (H : Hp) : Prop := ∀ H1, Same H H1 → ∀ Q : List V → Hp → Prop, (∀ vs ds H', Same H1 H' → DgA p c H' vs ds → (∀ d ∈ ds, P d) → ds.length = n → Q vs H') → t σ H1 Q
theorem has_same {p : Addr} {H H' : Hp} (s : Same H H') (h : H p ≠ none) : H' p ≠ none := by
  cases e : H p with
  | none => exact absurd e h
  | some o => rw [s p o e]; simp
theorem at_new {p c a : Addr} {H : Hp} {o : HO} (hp : H p ≠ none) (hc : H c ≠ none) (h : H a = none) : At p c (upd H a o) a o := ⟨fun e => hp (e ▸ h), fun e => hc (e ▸ h), upd_same⟩
theorem At.sm {p c a : Addr} {H H' : Hp} {o : HO} (h : At p c H a o) (s : Same H H') : At p c H' a o := ⟨h.1, h.2.1, s _ _ h.2.2⟩
section
variable {p c : Addr} {P P' : PyData → Prop} {σ : L2.St} {H : Hp} {t te : TE} {ta : TA} {n i : Nat} {v : V} {d : PyData}
theorem Mk.mono (m : Mk p c P t σ H) (h : ∀ d, P d → P' d) : Mk p c P' t σ H := fun H1 s1 Q q => m H1 s1 Q fun v d H' s hd hP => q v d H' s hd (h d hP)
theorem Mk.cst (h : Dg p c H v d) (hP : P d) : Mk p c P (tC v) σ H := fun H1 s1 _ q => q v d H1 (Same.refl _) (h.to (Kp.same s1)) hP
theorem Mk.var (e : σ[i]? = some (some v)) (h : Dg p c H v d) (hP : P d) : Mk p c P (tVar i) σ H := fun H1 s1 _ q => ⟨v, e, q v d H1 (Same.refl _) (h.to (Kp.same s1)) hP⟩
theorem MkA.nil : MkA p c P 0 tNil σ H := fun H1 _ _ q => q [] [] H1 (Same.refl _) .nil (fun _ h => by cases h) rfl
theorem MkA.cons (m : Mk p c P te σ H) (r : MkA p c P n ta σ H) : MkA p c P (n + 1) (tCons te ta) σ H := fun H0 s0 Q q => m H0 s0 _ fun v d H1 s1 hd hP => r H1 (s0.trans s1) _ fun vs ds H2 s2 ha hA hl =>
  q (v :: vs) (d :: ds) H2 (s1.trans s2) (.cons (hd.to (Kp.same s2)) ha) (fun x hx => (List.mem_cons.mp hx).elim (fun z => z ▸ hP) (hA x)) (congrArg (· + 1) hl)
theorem Mk.tup (hp : H p ≠ none) (hc : H c ≠ none) (m : MkA p c P n ta σ H) (hn : n ≤ 16000000) (h : ∀ ds : List PyData, ds.length = n → (∀ d ∈ ds, P d) → P' (.tuple ds)) : Mk p c P' (tTup ta) σ H := fun H0 s0 Q q => m H0 s0 _ fun vs ds H1 s1 ha hA hl =>
  ⟨sz (by rw [ha.len]; omega), fun a hf => q _ _ _ (s1.trans (same_new hf)) (.tup (at_new (has_same (s0.trans s1) hp) (has_same (s0.trans s1) hc) hf) (ha.to (Kp.same (same_new hf)))) (h ds hl hA)⟩
/-- a new list of data -/
theorem mk_list {Q : VK} (hp : H p ≠ none) (hc : H c ≠ none) (m : MkA p c P n ta σ H) (hn : n ≤ 16000000) (q : ∀ l vs ds H', Same H H' → At p c H' l (.lst vs) → DgA p c H' vs ds → (∀ d ∈ ds, P d) → vs.length = n → Q (.ref l) H') : tLst ta σ H Q := m H (Same.refl _) _ fun vs ds H1 s1 ha hA hl =>
  ⟨sz (by rw [ha.len]; omega), fun l hf => q l vs ds _ (s1.trans (same_new hf)) (at_new (has_same s1 hp) (has_same s1 hc) hf) (ha.to (Kp.same (same_new hf))) hA (ha.len.trans hl)⟩
variable {K : PySem.W.Frag} {Q : VK} {a b : Addr} {xs ys : List V} {lo hi : Option Int}
theorem sl_g (hp : H p ≠ none) (hc : H c ≠ none) (ha : At p c H a (.tup xs)) (k : ∀ a' H', Same H H' → At p c H' a' (.tup (cutV xs lo hi)) → Q (.ref a') H') : rSlA K (.ref a) lo hi H Q := by
  refine ⟨a, xs, rfl, SqT.of ha.2.2, fun h => k a H (Same.refl _) ?_, fun _ q hq => k q _ (same_new hq) (at_new hp hc hq)⟩
  have e : cutV xs lo hi = xs := by
    unfold cutV
    rw [h.1, h.2]
    simp
  rw [e]
  exact ha
theorem cat_g (hp : H p ≠ none) (hc : H c ≠ none) (ha : At p c H a (.tup xs)) (hb : At p c H b (.tup ys)) (hz : xs.length + ys.length ≤ 1000000) (k : ∀ a' H', Same H H' → At p c H' a' (.tup (xs ++ ys)) → Q (.ref a') H') : rCatA K (.ref a) (.ref b) H Q := by
  refine ⟨a, b, xs, ys, rfl, rfl, SqT.of ha.2.2, SqT.of hb.2.2, sz (by omega), fun h => ?_, fun _ h => ?_, fun _ _ q hq => k q _ (same_new hq) (at_new hp hc hq)⟩
  · subst h
    exact k b H (Same.refl _) hb
  · subst h
    rw [List.append_nil] at k
    exact k a H (Same.refl _) ha
theorem rev_g {te : TE} (hp : H p ≠ none) (hc : H c ≠ none) (ha : At p c H a (.tup xs)) (e : ∀ Q : VK, Q (.ref a) H → te σ H Q) (k : ∀ a' H', Same H H' → At p c H' a' (.tup xs.reverse) → Q (.ref a') H') : tRevT K te σ H Q :=
  e _ ⟨a, xs, rfl, SqT.of ha.2.2, fun q hq => k q _ (same_new hq) (at_new hp hc hq)⟩
end
theorem cutV_up (xs : List V) (b : Nat) : cutV xs none (some (b : Int)) = xs.take b := by
  unfold cutV
  rw [HT.sIx_none, HT.sIx_nat, List.drop_zero, Nat.sub_zero]
  by_cases hb : b ≤ xs.length
  · rw [Nat.min_eq_left hb]
  · rw [Nat.min_eq_right (by omega), List.take_of_length_le (Nat.le_refl _), List.take_of_length_le (by omega)]
theorem cutV_off (xs : List V) (a : Nat) : cutV xs (some (a : Int)) none = xs.drop a := by
  unfold cutV
  rw [HT.sIx_none, HT.sIx_nat]
  by_cases h : a ≤ xs.length
  · rw [Nat.min_eq_left h, List.take_of_length_le (by rw [List.length_drop]; exact Nat.le_refl _)]
  · rw [Nat.min_eq_right (by omega), List.drop_of_length_le (Nat.le_refl _), List.drop_of_length_le (by omega), List.take_nil]
/-! ### bools among the numbers -/
def ofN : V → Option Int
  | .int i => some i
  | .bl b => some (cond b 1 0)
  | _ => none
/-- small numbers and bools -/
def SmN (m : Nat) (d : PyData) : Prop := (∃ n : Nat, n ≤ m ∧ d = .int n) ∨ ∃ b, d = .bool b
theorem SmN.val {p c : Addr} {H : Hp} {m : Nat} {v : V} {d : PyData} (h : SmN m d) (hd : Dg p c H v d) : ∃ n : Nat, ofN v = some (n : Int) ∧ (n ≤ m ∨ n ≤ 1) ∧ ((v = .int n ∧ d = .int n) ∨ ∃ b, v = .bl b ∧ d = .bool b) := by
  rcases h with ⟨n, hn, rfl⟩ | ⟨b, rfl⟩
  · cases hd
    exact ⟨n, rfl, .inl hn, .inl ⟨rfl, rfl⟩⟩
  · cases hd
    cases b
    · exact ⟨0, rfl, .inr (by decide), .inr ⟨_, rfl, rfl⟩⟩
    · exact ⟨1, rfl, .inr (by decide), .inr ⟨_, rfl, rfl⟩⟩
section
variable {X : Cx}
theorem op_addN : OpR X (binaryOp .Add) (fun x y H Q => ∃ i j, ofN x = some i ∧ y = .int j ∧ Q (.int (i + j)) H) := by
  rintro pins s σ H x y v u Q I rx ry ⟨i, j, e, rfl, q⟩
  cases x with
  | int k => cases e; exact op_add pins s σ H _ _ v u Q I rx ry ⟨_, _, rfl, rfl, q⟩
  | bl b =>
    cases e; cases rx
    obtain ⟨t, rfl⟩ := ry
    refine PySem.IntBool.add_bool_int ⟨.int _, H, I.tok _, ⟨_, rfl⟩, ?_⟩
    cases b <;> exact q
  | _ => cases e
theorem op_subN : OpR X (binaryOp .Sub) (fun x y H Q => ∃ i j, ofN x = some i ∧ y = .int j ∧ Q (.int (i - j)) H) := by
  rintro pins s σ H x y v u Q I rx ry ⟨i, j, e, rfl, q⟩
  cases x with
  | int k => cases e; exact op_sub pins s σ H _ _ v u Q I rx ry ⟨_, _, rfl, rfl, q⟩
  | bl b =>
    cases e; cases rx
    obtain ⟨t, rfl⟩ := ry
    refine PySem.IntBool.sub_bool_int ⟨.int _, H, I.tok _, ⟨_, rfl⟩, ?_⟩
    cases b <;> exact q
  | _ => cases e
theorem op_mulN : OpR X (binaryOp .Mult) (fun x y H Q => ∃ (i j : Nat), ofN x = some (i : Int) ∧ y = .int (j : Int) ∧ i < 16384 ∧ j < 16384 ∧ Q (.int ((i : Int) * j)) H) := by
  rintro pins s σ H x y v u Q I rx ry ⟨i, j, e, rfl, hi, hj, q⟩
  cases x with
  | int k => cases e; exact op_mul pins s σ H _ _ v u Q I rx ry ⟨_, _, rfl, rfl, .inl ⟨by omega, by omega⟩, q⟩
  | bl b =>
    have e := Option.some.inj e; cases rx
    obtain ⟨t, rfl⟩ := ry
    refine PySem.IntBool.mul_bool_int ⟨.int _, H, I.tok _, ⟨_, rfl⟩, ?_⟩
    rw [← e] at q
    cases b <;> exact q
  | _ => cases e
def shN : V → Str
  | .int i => toString i
  | .bl b => if b then "True" else "False"
  | _ => Str.empty
theorem call_strN : CallR X (.type "str") (fun xs H Q => ∃ x i, xs = [x] ∧ ofN x = some i ∧ i.natAbs.log2 < 1920 ∧ Q (.str (shN x)) H) := by
  rintro pins s σ H xs us Q I r ⟨x, i, rfl, e, hz, q⟩
  obtain ⟨u, rfl, ru⟩ := vals1 r
  cases x with
  | int k =>
    cases e
    obtain ⟨t, rfl⟩ := ru
    exact PySem.P.str_of_int hz ⟨.str _, H, I.tok _, ⟨_, rfl⟩, q⟩
  | bl b =>
    cases ru
    exact PySem.P.str_of_bool ⟨.str _, H, I.tok _, ⟨_, rfl⟩, q⟩
  | _ => cases e
end
end Ag

end
/-! ## Z9 -/
section
set_option linter.all false
set_option maxRecDepth 100000
set_option maxHeartbeats 4000000
namespace Ag
open PySem PySem.Spec PyProof.Rows L2
open SX (S S_len S_cat S_inj)
/-! ### neighbours of a row of four numbers -/
def OkD (d : PyData) : Prop := ∃ q, Gd q d 6 600
theorem OkD.far {d : PyData} (h : OkD d) : farD d := by
  obtain ⟨q, h⟩ := h
  cases d with
  | tuple ds =>
    intro i hi
    have := (h.untup.1.mem _ hi).ok
    simp only [okV, intOk, Bool.and_eq_true, decide_eq_true_eq] at this
    omega
  | _ => trivial
theorem OkD.far1 {d : PyData} (h : OkD d) : farD (.tuple [d]) := by
  obtain ⟨q, h⟩ := h
  intro i hi
  have e := List.mem_singleton.mp hi
  subst e
  have := h.ok
  simp only [okV, intOk, Bool.and_eq_true, decide_eq_true_eq] at this
  omega
theorem h64 {k : Nat} {A : Around} (hr : Room k A) : A.units + 64 < cLine := by have := hr.un; omega
theorem SmN.gd {m : Nat} {d : PyData} {q : Bool} {n b : Nat} (h : SmN m d) (hm : m ≤ 100000) : Gd q d n b := by
  rcases h with ⟨k, hk, rfl⟩ | ⟨b, rfl⟩
  · refine .int ?_
    simp only [intOk, Bool.and_eq_true, decide_eq_true_eq]
    omega
  · exact .bl
theorem SmN.gdA {m : Nat} {q : Bool} {n : Nat} (hm : m ≤ 100000) : ∀ {ds : List PyData}, (∀ d ∈ ds, SmN m d) → GdA q ds n ds.length
  | [], _ => .nil
  | d :: ds, h => .cons (b1 := 0) (SmN.gd (h d List.mem_cons_self) hm) (SmN.gdA hm fun x hx => h x (List.mem_cons_of_mem _ hx)) (by rw [List.length_cons]; omega)
theorem okI {i : Int} (h0 : -1 ≤ i) (h1 : i ≤ 10 ^ 39 + 1000000) : intOk i = true := by
  simp only [intOk, Bool.and_eq_true, decide_eq_true_eq]
  omega
/-- of one value's neighbours -/
def Sml (d : PyData) : Prop := Gd false d 2 300
theorem Sml.ok {d : PyData} (h : Sml d) : OkD d := ⟨false, Gd.mono h (by decide) (by decide)⟩
theorem shN_small {v : V} {n : Nat} {q : Bool} {k b : Nat} (e : ofN v = some (n : Int)) (hn : n ≤ 100000) (hb : 60 ≤ b) : Gd q (.str (shN v)) k b := by
  cases v with
  | int i =>
    have e : i = n := Option.some.inj e
    subst e
    rw [show shN (.int ((n : Nat) : Int)) = S (numL n) from toStrN n]
    have l := numLen (k := 6) (n := n) (by decide) (by omega)
    exact .strL (List.all_eq_true.mpr fun c hc => decide_eq_true (by have := numL_all n c hc; omega)) (by omega) (by omega)
  | bl b =>
    cases b
    · exact .str (by decide +kernel) (Nat.le_trans (by decide +kernel) hb)
    · exact .str (by decide +kernel) (Nat.le_trans (by decide +kernel) hb)
  | _ => cases e
def spNear : Sp := fun vs H Q _ => ∃ p c a xs ds, vs = [.ref p, .ref a] ∧ Dk p c H ∧ At p c H a (.tup xs) ∧ DgA p c H xs ds ∧ xs.length = 4 ∧ (∀ d ∈ ds, SmN 5000 d) ∧ ∀ v d H', Gx p c H H' → Dg p c H' v d → OkD d → Q v H'
section
variable {P : Program} {w : World} {K : PySem.W.Frag} {mg : Str → Option Value} {base : Heap}
theorem Dk.hp {p c : Addr} {H : Hp} (d : Dk p c H) : H p ≠ none := by
  obtain ⟨m, t, cs, h1, h2, _⟩ := d
  rw [h1]; simp
theorem Dk.hc {p c : Addr} {H : Hp} (d : Dk p c H) : H c ≠ none := by
  obtain ⟨m, t, cs, h1, h2, _⟩ := d
  rw [h2]; simp
theorem Gx.kp {p c : Addr} {H H' : Hp} (g : Gx p c H H') : Kp p c H H' := g.1
theorem ok_near {f f1 f2 : Addr} {fd fd1 fd2 : FuncData} (F : Fn K mg "_law_near" s__law_near ["_law_deck_here", "_law_thing"] f fd) (B : Blt mg) (F__law_draw : Fn K mg "_law_draw" s__law_draw ["_law_deck_here", "_law_many"] f1 fd1) (F__law_pick : Fn K mg "_law_pick" s__law_pick ["_law_deck_here", "_law_some"] f2 fd2)
    (G__law_draw : FnOk P w K mg base CX0 1 f1 fd1 ["_law_deck_here", "_law_many"] spDraw) (G__law_pick : FnOk P w K mg base CX0 2 f2 fd2 ["_law_deck_here", "_law_some"] spPick) : FnOk P w K mg base CX0 3 f fd ["_law_deck_here", "_law_thing"] spNear := by
  refine F.F.ok sc__law_near (fun vs H Q E h => ?_) (fun cdv A outer s H vs Q E hr h => ?_)
  · obtain ⟨p, c, a, xs, ds, rfl, _⟩ := h
    rfl
  · obtain ⟨p, c, a, xs, ds, rfl, dk, ha, hA, h4, hS, q⟩ := h
    refine ⟨_, (pss_cons (ps_par (i := 2) (j := 3) (by rfl) sc__law_near.nd rfl rfl (by decide) rfl rfl (pa_cons (pe_call G__law_draw (hr.mono (by decide)) (by rfl) F__law_draw.g F__law_draw.F.kp F__law_draw.b .nil pass0 (pa_cons (pv 0) (pa_cons pe_int pa_nil))) (pa_cons (pe_call G__law_draw (hr.mono (by decide)) (by rfl) F__law_draw.g F__law_draw.F.kp F__law_draw.b .nil pass0 (pa_cons (pv 0) (pa_cons pe_int pa_nil))) pa_nil)) (by rfl))
      (pss_cons (ps_if (pt_cmpR op_eq (pv 3) pe_int (nomark _))
      (pss_one (ps_ret (pe_call G__law_pick (hr.mono (by decide)) (by rfl) F__law_pick.g F__law_pick.F.kp F__law_pick.b .nil pass0 (pa_cons (pv 0) (pa_cons (pe_lst (pa_cons pe_non (pa_cons (pe_callTy call_list_of (by rfl) B.n_list (by decide +kernel) (pa_cons (pv 1) pa_nil)) (pa_cons (pe_slice sl_tupA (pv 1) po_none (po_some pe_int)) (pa_cons (pe_op op_catA (pv 1) (pe_tup (pa_cons pe_int pa_nil))) (pa_cons (pe_tup (pa_cons (pv 1) pa_nil)) (pa_cons (pe_tup pa_nil) (pa_cons pe_int (pa_cons pe_str (pa_cons (pe_revT (pv 1)) (pa_cons pe_dnewK pa_nil))))))))))) pa_nil)))))
      pss_nil)
      (pss_cons (ps_set (i := 4) sc__law_near.nd rfl (.inl rfl) (pe_ix ix_tup (pv 1) (pv 2) (fun _ _ => rfl)))
      (pss_cons (ps_set (i := 5) sc__law_near.nd rfl (.inl rfl) (pe_lst (pa_cons (pe_op op_addN (pv 4) pe_int) (pa_cons (pe_op op_subN (pv 4) pe_int) (pa_cons (pe_cmpR (op_eqG (h64 hr)) (pv 4) pe_int (nomark _)) (pa_cons (pe_op op_mulN (pv 4) pe_int) (pa_cons pe_int (pa_cons pe_int (pa_cons pe_non (pa_cons (pe_callTy call_strN (by rfl) B.n_str (by decide +kernel) (pa_cons (pv 4) pa_nil)) (pa_cons (pe_tup (pa_cons (pv 4) pa_nil)) (pa_cons (pe_un un_neg pe_int) (pa_cons pe_int (pa_cons pe_bl (pa_cons pe_bl (pa_cons (pe_op op_pow pe_int pe_int) (pa_cons pe_int pa_nil)))))))))))))))))
      (pss_one (ps_ret (pe_op op_catA (pe_op op_catA (pe_slice sl_tupA (pv 1) po_none (po_some (pv 2))) (pe_tup (pa_cons (pe_call G__law_pick (hr.mono (by decide)) (by rfl) F__law_pick.g F__law_pick.F.kp F__law_pick.b .nil pass0 (pa_cons (pv 0) (pa_cons (pv 5) pa_nil))) pa_nil))) (pe_slice sl_tupA (pv 1) (po_some (pe_op op_add (pv 2) pe_int)) po_none)))))))), ?_⟩
    refine ⟨_, rfl, p, c, 4, rfl, dk, by decide, by decide, fun r0 H0 hr0 g0 => ⟨_, rfl, p, c, 4, rfl, g0.2, by decide, by decide, fun r1 H1 hr1 g1 => ⟨_, _, rfl, _, rfl, ?_⟩⟩⟩
    have g1 := g0.trans g1
    have ha1 := ha.gx g1
    have hA1 := hA.to g1.kp
    have hp1 := g1.2.hp
    have hc1 := g1.2.hc
    have lds : ds.length = 4 := hA.len.symm.trans h4
    have gA : ∀ (q : Bool) (n : Nat), GdA q ds n ds.length := fun q n => SmN.gdA (by decide) hS
    refine ⟨rfl, _, rfl, ite2 (fun z => ?_) (fun z => ?_)⟩
    · -- one of ten things
      refine ⟨_, rfl, ?_⟩
      refine mk_list (p := p) (c := c) (P := OkD) (n := 10) hp1 hc1 (.cons (.cst .non ⟨false, .non⟩) (.cons ?_ (.cons ?_ (.cons ?_ (.cons ?_ (.cons ?_ (.cons ?_ (.cons ?_ (.cons ?_ (.cons ?_ .nil)))))))))) (by decide) fun l vs es H2 s2 hl hes hok hn => ?_
      · intro H2 s2 Q q
        exact ⟨_, rfl, a, xs, rfl, .inr (SqT.of (ha1.sm s2).2.2), fun u hu => q _ _ _ (same_new hu) (.lst (at_new (has_same s2 hp1) (has_same s2 hc1) hu) (hA1.to (Kp.same (s2.trans (same_new hu))))) (Sml.ok ((Gd.lst (n := 0) (gA _ 0)).mono (by decide) (by omega)))⟩
      · intro H2 s2 Q q
        refine ⟨_, rfl, _, rfl, sl_g (has_same s2 hp1) (has_same s2 hc1) (ha1.sm s2) fun a' H3 s3 h3 => q _ _ _ s3 (.tup h3 ?_) (Sml.ok ((Gd.tup (q := false) (n := 0) ((gA _ 0).take 3) (by rw [List.length_take]; omega)).mono (by decide) (by omega)))⟩
        rw [show (some (3 : Int)) = some ((3 : Nat) : Int) from rfl, cutV_up]
        exact (hA1.to (Kp.same (s2.trans s3))).take 3
      · intro H2 s2 Q q
        refine ⟨_, rfl, sz (Nat.le_of_ble_eq_true rfl), fun t ht => cat_g (has_same (s2.trans (same_new ht)) hp1) (has_same (s2.trans (same_new ht)) hc1) (ha1.sm (s2.trans (same_new ht))) (at_new (has_same s2 hp1) (has_same s2 hc1) ht) (by rw [h4]; decide) fun a' H3 s3 h3 => q _ _ _ ((same_new ht).trans s3) (.tup h3 ((hA1.to (Kp.same ((s2.trans (same_new ht)).trans s3))).app (.cons (.int 0) .nil))) (Sml.ok ((Gd.tup (q := false) (n := 0) (b := 10) ((gA _ 0).app (.cons (b1 := 0) (b2 := 0) (b := 1) (.int (by decide)) .nil (by decide)) (by omega)) (by rw [List.length_append, lds]; decide)).mono (by decide) (by decide)))⟩
      · exact .tup (P := fun d => Gd false d 2 100) (n := 1) hp1 hc1 (.cons (.var rfl (.tup ha1 hA1) ((Gd.tup (n := 0) (gA _ 0) (by omega)).mono (by decide) (by omega))) .nil) (by decide) fun es hl hG => by
          match es, hl with
          | [e], _ => exact ⟨false, (Gd.tup (n := 2) (b := 101) (.cons (b1 := 100) (b2 := 0) (hG e List.mem_cons_self) .nil (by decide)) (Nat.le_of_ble_eq_true rfl)).mono (by decide) (by decide)⟩
      · exact .tup (P := fun d => False) (n := 0) hp1 hc1 .nil (by decide) fun es hl _ => by
          match es, hl with
          | [], _ => exact ⟨false, (Gd.tup (n := 0) (b := 0) .nil (by decide)).mono (by decide) (by decide)⟩
      · exact .cst (.int 0) ⟨false, .int (by decide)⟩
      · exact .cst (.str _) ⟨false, .str (by decide +kernel) (by decide +kernel)⟩
      · intro H2 s2 Q q
        exact rev_g (has_same s2 hp1) (has_same s2 hc1) (ha1.sm s2) (fun Q q => ⟨_, rfl, q⟩) fun a' H3 s3 h3 => q _ _ _ s3 (.tup h3 (hA1.to (Kp.same (s2.trans s3))).rev) (Sml.ok ((Gd.tup (q := false) (n := 0) (gA _ 0).rev (by rw [List.length_reverse]; omega)).mono (by decide) (by omega)))
      · intro H2 s2 Q q
        exact fun t ht => q _ _ _ (same_new ht) (.dic (at_new (has_same s2 hp1) (has_same s2 hc1) ht) .nil) ⟨true, by simp [okV, okVK], by simp [PyData.depth, PyData.depthKv], by simp [PyData.bulk, PyData.bulkKv]⟩
      · refine ⟨p, c, _, rfl, g1.2.same s2, .inl ⟨l, vs, rfl, hl, by omega, by omega, fun r x H3 hx g3 => ?_⟩⟩
        obtain ⟨e, he, hd⟩ := hes.at_ hx
        exact q x e H3 (g1.trans ((Gx.same g1.2 s2).trans g3)) (hd.to g3.kp) (hok e (List.mem_of_getElem? he))
    · -- one of the four changed
      have r4 : r0 < xs.length := by omega
      have hx : xs[r0]? = some xs[r0] := List.getElem?_eq_getElem r4
      obtain ⟨d, hd0, hd⟩ := hA1.at_ hx
      have hdm := hS d (List.mem_of_getElem? hd0)
      obtain ⟨n, en, nle, nd⟩ := hdm.val hd
      have n5 : n ≤ 5000 := by omega
      refine ⟨_, rfl, _, rfl, a, _, _, _, rfl, rfl, SqT.of ha1.2.2, atI_nat hx, ?_⟩
      generalize xs[r0] = x at hx hd en nd ⊢
      have dsh : SeqAt.shaped d = true := by
        rcases nd with ⟨_, rfl⟩ | ⟨b, _, rfl⟩ <;> simp [SeqAt.shaped, PyData.canLay0, PyData.depth]
      have nI : ∀ i : Int, -1 ≤ i → i ≤ 20000 → Sml (.int i) := fun i h0 h1 => .int (okI h0 (by omega))
      dsimp only [gName, tSeq, tAsg]
      show tLst _ _ _ _
      refine mk_list (p := p) (c := c) (P := Sml) (n := 15) hp1 hc1 (.cons ?_ (.cons ?_ (.cons ?_ (.cons ?_ (.cons (.cst (.int 0) (nI 0 (by decide) (by decide))) (.cons (.cst (.int 100) (nI 100 (by decide) (by decide))) (.cons (.cst .non .non) (.cons ?_ (.cons ?_ (.cons ?_ (.cons (.cst (.int 99) (nI 99 (by decide) (by decide))) (.cons (.cst (.bl true) .bl) (.cons (.cst (.bl false) .bl) (.cons ?_ (.cons (.cst (.int 1) (nI 1 (by decide) (by decide))) .nil))))))))))))))) (by decide) fun l vs es H2 s2 hl hes hok hn => ?_
      · exact fun H2 s2 Q q => ⟨_, rfl, _, _, en, rfl, q _ _ _ (Same.refl _) (.int _) (nI _ (by omega) (by omega))⟩
      · exact fun H2 s2 Q q => ⟨_, rfl, _, _, en, rfl, q _ _ _ (Same.refl _) (.int _) (nI _ (by omega) (by omega))⟩
      · exact fun H2 s2 Q q => ⟨_, rfl, p, c, d, .int 1, hd.to (Kp.same s2), .int 1, dsh, by simp [SeqAt.shaped, PyData.canLay0, PyData.depth], q _ _ _ (Same.refl _) (.bl _) .bl⟩
      · exact fun H2 s2 Q q => ⟨_, rfl, n, 2, en, rfl, by omega, by decide, q _ _ _ (Same.refl _) (.int _) (nI _ (by omega) (by omega))⟩
      · refine fun H2 s2 Q q => ⟨_, rfl, x, _, rfl, en, ?_, q _ _ _ (Same.refl _) (.str _) (shN_small en (by omega) (by decide))⟩
        rw [Int.natAbs_natCast]
        by_cases z : n = 0
        · subst z; decide
        · exact (Nat.log2_lt z).mpr (Nat.lt_of_lt_of_le (show n < 2 ^ 13 by omega) (by decide +kernel))
      · exact .tup (P := fun d => Gd false d 1 200) (n := 1) hp1 hc1 (.cons (.var rfl hd (hdm.gd (by decide))) .nil) (by decide) fun es hl hG => by
          match es, hl with
          | [e], _ => exact (Gd.tup (n := 1) (b := 201) (.cons (b1 := 200) (b2 := 0) (hG e List.mem_cons_self) .nil (by decide)) (Nat.le_of_ble_eq_true rfl)).mono (by decide) (by decide)
      · exact fun H2 s2 Q q => ⟨_, rfl, q _ _ _ (Same.refl _) (.int _) (nI _ (by decide) (by decide))⟩
      · exact fun H2 s2 Q q => ⟨_, _, rfl, rfl, ⟨by decide, by decide, by decide⟩, q _ _ _ (Same.refl _) (.int _) (.int (by decide +kernel))⟩
      · have ha2 := ha1.sm s2
        refine ⟨_, rfl, _, rfl, _, rfl, sl_g (has_same s2 hp1) (has_same s2 hc1) ha2 fun a3 H3 s3 h3 => ?_⟩
        rw [cutV_up] at h3
        have d3 := g1.2.same (s2.trans s3)
        refine ⟨_, rfl, _, rfl, p, c, _, rfl, d3, .inl ⟨l, vs, rfl, hl.sm s3, by omega, by omega, fun r y H4 hy g4 => ⟨sz (Nat.le_of_ble_eq_true rfl), fun t ht => ?_⟩⟩⟩
        obtain ⟨e, he, hy⟩ := (hes.to (Kp.same s3)).at_ hy
        have hke := hok e (List.mem_of_getElem? he)
        have hy := hy.to g4.kp
        have s5 := same_new (o := .tup [y]) ht
        have g5 := g4.trans (Gx.same g4.2 s5)
        have h5 := at_new (o := .tup [y]) g4.2.hp g4.2.hc ht
        refine cat_g g5.2.hp g5.2.hc (h3.gx g5) h5 (by rw [List.length_take]; show _ + 1 ≤ _; omega) fun a6 H6 s6 h6 => ?_
        have g6 := g5.trans (Gx.same g5.2 s6)
        have g16 := (Gx.same g1.2 (s2.trans s3)).trans g6
        refine ⟨_, rfl, _, rfl, _, _, rfl, rfl, _, rfl, ?_⟩
        dsimp only [tNoPart]
        refine sl_g g6.2.hp g6.2.hc (ha1.gx g16) fun a7 H7 s7 h7 => ?_
        rw [show ((r0 : Nat) : Int) + 1 = ((r0 + 1 : Nat) : Int) from rfl, cutV_off] at h7
        refine cat_g (g6.2.same s7).hp (g6.2.same s7).hc (h6.sm s7) h7 (by rw [List.length_append, List.length_take, List.length_drop]; show _ + 1 + _ ≤ _; omega) fun a8 H8 s8 h8 => ?_
        have s78 := s7.trans s8
        have g18 := g16.trans (Gx.same g16.2 s78)
        have hA8 := hA1.to g18.kp
        refine q (.ref a8) (.tuple (ds.take r0 ++ [e] ++ ds.drop (r0 + 1))) H8 (g1.trans g18) (.tup h8 (((hA8.take r0).app (.cons (hy.to (Kp.same ((s5.trans s6).trans s78))) .nil)).app (hA8.drop (r0 + 1)))) ⟨false, ?_⟩
        exact (Gd.tup (n := 2) (b := 400) ((((gA false 2).take r0).app (b1 := ds.length) (b2 := 301) (b := 350) (.cons (b1 := 300) (b2 := 0) hke .nil (by decide)) (by omega)).app (b2 := ds.length) ((gA false 2).drop (r0 + 1)) (by omega)) (by rw [List.length_append, List.length_append, List.length_take, List.length_drop]; show _ + 1 + _ ≤ _; omega)).mono (by decide) (by decide)
end
end Ag

end
/-! ## ZA -/
section
set_option linter.all false
set_option maxRecDepth 100000
set_option maxHeartbeats 4000000
namespace Ag
open PySem PySem.Spec PyProof.Rows L2
/-! ### drawn marks -/
def SmI (d : PyData) : Prop := ∃ n : Nat, 1 ≤ n ∧ n ≤ 1000 ∧ d = .int n
theorem lk_nat {r f i m run wait : Nat} {u g : Bool} (im : i ≤ m) (m9 : m ≤ 99) : ∃ (u' : Bool) (run' wait' : Nat), lkS r f i m u run wait g = (u', (run' : Int), (wait' : Int)) ∧ run' ≤ run + 1 ∧ wait' ≤ 99 := by
  have hW : ∀ g u, ∃ w' : Nat, lkW i m wait g u = (w' : Int) ∧ w' ≤ 99 := by
    intro g u
    unfold lkW
    split
    · exact ⟨i, rfl, by omega⟩
    split
    · exact ⟨i, rfl, by omega⟩
    split
    · exact ⟨m, rfl, m9⟩
    · exact ⟨2 * wait, by simp, by omega⟩
  have hR : ∃ r' : Nat, lkR u run g = (r' : Int) ∧ r' ≤ run + 1 := by
    unfold lkR
    split
    · exact ⟨0, rfl, by omega⟩
    · exact ⟨run + 1, by simp, by omega⟩
  obtain ⟨r', e1, l1⟩ := hR
  unfold lkS
  split
  · obtain ⟨w', e2, l2⟩ := hW g (!u)
    exact ⟨_, 0, w', by rw [e2]; rfl, by omega, l2⟩
  · obtain ⟨w', e2, l2⟩ := hW g u
    exact ⟨_, r', w', by rw [e1, e2], l1, l2⟩
theorem mk4 {p c t : Addr} {H : Hp} {u : Bool} {run wait due : Nat} (h : At p c H t (.tup [.bl u, .int run, .int wait, .int due])) : DgA p c H [.bl u, .int run, .int wait, .int due] [.bool u, .int run, .int wait, .int due] := .cons (.bl u) (.cons (.int _) (.cons (.int _) (.cons (.int _) .nil)))
theorem mk4_sm {u : Bool} {run wait due : Nat} (h1 : run ≤ 5000) (h2 : wait ≤ 5000) (h3 : due ≤ 5000) : ∀ d ∈ [PyData.bool u, .int run, .int wait, .int due], SmN 5000 d := by
  intro d hd
  simp only [List.mem_cons, List.not_mem_nil, or_false] at hd
  rcases hd with rfl | rfl | rfl | rfl
  · exact .inr ⟨_, rfl⟩
  · exact .inl ⟨_, h1, rfl⟩
  · exact .inl ⟨_, h2, rfl⟩
  · exact .inl ⟨_, h3, rfl⟩
def spDMark : Sp := fun vs H Q _ => ∃ p c a r f i m, vs = [.ref p, .ref a] ∧ Dk p c H ∧ Rl r f i m a H ∧ a ≠ p ∧ a ≠ c ∧ ∀ v d H', Gx p c H H' → Dg p c H' v d → OkD d → Q v H'
section
variable {P : Program} {w : World} {K : PySem.W.Frag} {mg : Str → Option Value} {base : Heap}
theorem Rl.gx {r f i m : Nat} {p c a : Addr} {H H' : Hp} (R : Rl r f i m a H) (np : a ≠ p) (nc : a ≠ c) (g : Gx p c H H') : Rl r f i m a H' := ⟨g.1 _ _ np nc R.at_, R.r1, R.r9, R.f1, R.f9, R.i1, R.im, R.m9⟩
theorem ok_dmark {f f1 f2 f3 f4 : Addr} {fd fd1 fd2 fd3 fd4 : FuncData} (F : Fn K mg "_law_drawn_mark" s__law_drawn_mark ["_law_deck_here", "_law_rule"] f fd) (B : Blt mg) (F__law_draw : Fn K mg "_law_draw" s__law_draw ["_law_deck_here", "_law_many"] f1 fd1) (F__law_pick : Fn K mg "_law_pick" s__law_pick ["_law_deck_here", "_law_some"] f2 fd2)
    (F__law_near : Fn K mg "_law_near" s__law_near ["_law_deck_here", "_law_thing"] f3 fd3) (F__law_looked : Fn K mg "_law_looked" s__law_looked ["_law_rule", "_law_mark", "_law_is_good", "_law_now"] f4 fd4)
    (G__law_draw : FnOk P w K mg base CX0 1 f1 fd1 ["_law_deck_here", "_law_many"] spDraw) (G__law_pick : FnOk P w K mg base CX0 2 f2 fd2 ["_law_deck_here", "_law_some"] spPick) (G__law_near : FnOk P w K mg base CX0 3 f3 fd3 ["_law_deck_here", "_law_thing"] spNear)
    (G__law_looked : FnOk P w K mg base CX0 1 f4 fd4 ["_law_rule", "_law_mark", "_law_is_good", "_law_now"] spLLook) : FnOk P w K mg base CX0 4 f fd ["_law_deck_here", "_law_rule"] spDMark := by
  refine F.F.ok sc__law_drawn_mark (fun vs H Q E h => ?_) (fun cdv A outer s H vs Q E hr h => ?_)
  · obtain ⟨p, c, a, r, f', i, m, rfl, _⟩ := h
    rfl
  · obtain ⟨p, c, a, r, f', i, m, rfl, dk, R, np, nc, q⟩ := h
    refine ⟨_, (pss_cons (ps_set (i := 2) sc__law_drawn_mark.nd rfl (.inl rfl) (pe_callB (call_min2 rfl) (by rfl) B.n_min (by decide +kernel) (pa_cons (pe_op op_mul (pe_ix ix_tup (pv 1) pe_int (fun _ _ => rfl)) (pe_call G__law_pick (hr.mono (by decide)) (by rfl) F__law_pick.g F__law_pick.F.kp F__law_pick.b .nil pass0 (pa_cons (pv 0) (pa_cons (pe_lst (pa_cons pe_int (pa_cons pe_int (pa_cons pe_int (pa_cons pe_int (pa_cons pe_int (pa_cons pe_int pa_nil))))))) pa_nil)))) (pa_cons (pe_ix ix_tup (pv 1) pe_int (fun _ _ => rfl)) pa_nil))))
      (pss_cons (ps_set (i := 3) sc__law_drawn_mark.nd rfl (.inl rfl) (pe_tup (pa_cons (pe_cmpR op_eq (pe_call G__law_draw (hr.mono (by decide)) (by rfl) F__law_draw.g F__law_draw.F.kp F__law_draw.b .nil pass0 (pa_cons (pv 0) (pa_cons pe_int pa_nil))) pe_int (nomark _)) (pa_cons (pe_call G__law_draw (hr.mono (by decide)) (by rfl) F__law_draw.g F__law_draw.F.kp F__law_draw.b .nil pass0 (pa_cons (pv 0) (pa_cons pe_int pa_nil))) (pa_cons (pv 2) (pa_cons (pe_op op_add (pv 2) (pe_call G__law_draw (hr.mono (by decide)) (by rfl) F__law_draw.g F__law_draw.F.kp F__law_draw.b .nil pass0 (pa_cons (pv 0) (pa_cons (pe_call G__law_pick (hr.mono (by decide)) (by rfl) F__law_pick.g F__law_pick.F.kp F__law_pick.b .nil pass0 (pa_cons (pv 0) (pa_cons (pe_lst (pa_cons pe_int (pa_cons pe_int (pa_cons pe_int pa_nil)))) pa_nil))) pa_nil)))) pa_nil))))))
      (C8.pss_cut (ps_if (pt_cmpR op_gt (pe_call G__law_draw (hr.mono (by decide)) (by rfl) F__law_draw.g F__law_draw.F.kp F__law_draw.b .nil pass0 (pa_cons (pv 0) (pa_cons pe_int pa_nil))) pe_int (nomark _))
      (pss_cons (ps_set (i := 3) sc__law_drawn_mark.nd rfl (.inl rfl) (pe_tup (pa_cons pe_bl (pa_cons pe_int (pa_cons (pe_ix ix_tup (pv 1) pe_int (fun _ _ => rfl)) (pa_cons (pe_ix ix_tup (pv 1) pe_int (fun _ _ => rfl)) pa_nil))))))
        (pss_one (ps_for PassesOwn.never rfl (pi_range1 (by rfl) B.n_range (pa_cons (pe_call G__law_draw (hr.mono (by decide)) (by rfl) F__law_draw.g F__law_draw.F.kp F__law_draw.b .nil pass0 (pa_cons (pv 0) (pa_cons pe_int pa_nil))) pa_nil)) (pg_name (i := 4) sc__law_drawn_mark.nd rfl (Or.inl rfl))
        (pss_one (ps_set (i := 3) sc__law_drawn_mark.nd rfl (.inl rfl) (pe_call G__law_looked (hr.mono (by decide)) (by rfl) F__law_looked.g F__law_looked.F.kp F__law_looked.b .nil pass0 (pa_cons (pv 1) (pa_cons (pv 3) (pa_cons (pe_cmpR op_eq (pe_call G__law_draw (hr.mono (by decide)) (by rfl) F__law_draw.g F__law_draw.F.kp F__law_draw.b .nil pass0 (pa_cons (pv 0) (pa_cons pe_int pa_nil))) pe_int (nomark _)) (pa_cons (pv 4) pa_nil))))))))))
      pss_nil)
      (pss_one (ps_ret (pe_ifExp (pt_cmpR op_gt (pe_call G__law_draw (hr.mono (by decide)) (by rfl) F__law_draw.g F__law_draw.F.kp F__law_draw.b .nil pass0 (pa_cons (pv 0) (pa_cons pe_int pa_nil))) pe_int (nomark _)) (pv 3) (pe_call G__law_near (hr.mono (by decide)) (by rfl) F__law_near.g F__law_near.F.kp F__law_near.b .nil pass0 (pa_cons (pv 0) (pa_cons (pv 3) pa_nil))))))))), ?_⟩
    have smI : ∀ k : Nat, 1 ≤ k → k ≤ 1000 → SmI (.int (k : Int)) := fun k h1 h2 => ⟨k, h1, h2, rfl⟩
    have i1 := R.i1
    have im := R.im
    have m9 := R.m9
    refine ⟨_, rfl, a, _, _, _, rfl, rfl, SqT.of R.at_, atI_nat (j := 2) rfl, _, rfl, ?_⟩
    dsimp only
    refine mk_list (p := p) (c := c) (P := SmI) (n := 6) dk.hp dk.hc (.cons (.cst (.int 1) (smI 1 (by decide) (by decide))) (.cons (.cst (.int 2) (smI 2 (by decide) (by decide))) (.cons (.cst (.int 4) (smI 4 (by decide) (by decide))) (.cons (.cst (.int 8) (smI 8 (by decide) (by decide))) (.cons (.cst (.int 64) (smI 64 (by decide) (by decide))) (.cons (.cst (.int 3) (smI 3 (by decide) (by decide))) .nil)))))) (by decide) fun l vs es H1 s1 hl hes hok hn => ?_
    refine ⟨p, c, _, rfl, dk.same s1, .inl ⟨l, vs, rfl, hl, by omega, by omega, fun k x H2 hx g2 => ?_⟩⟩
    obtain ⟨e, he, hx⟩ := hes.at_ hx
    obtain ⟨k, k1, k9, rfl⟩ := hok e (List.mem_of_getElem? he)
    cases hx
    have g2 := (Gx.same dk s1).trans g2
    have R2 := R.gx np nc g2
    refine ⟨_, _, rfl, rfl, .inl ⟨by omega, by omega⟩, _, rfl, a, _, _, _, rfl, rfl, SqT.of R2.at_, atI_nat (j := 3) rfl, _, _, rfl, ?_⟩
    have eW : ∃ W : Nat, (if (m : Int) < (i : Int) * (k : Int) then (m : Int) else (i : Int) * (k : Int)) = (W : Int) ∧ W ≤ 99 := by
      split
      · exact ⟨m, rfl, m9⟩
      · exact ⟨i * k, by simp, by omega⟩
    obtain ⟨W, eW, W9⟩ := eW
    rw [eW]
    refine ⟨_, rfl, p, c, 2, rfl, g2.2, by decide, by decide, fun d1 H3 _ g3 => ⟨rfl, _, rfl, p, c, 4, rfl, g3.2, by decide, by decide, fun d2 H4 l4 g4 => ⟨_, rfl, _, rfl, _, rfl, _, rfl, ?_⟩⟩⟩
    have g4 := g3.trans g4
    refine mk_list (p := p) (c := c) (P := SmI) (n := 3) g4.2.hp g4.2.hc (.cons (.cst (.int 3) (smI 3 (by decide) (by decide))) (.cons (.cst (.int 1) (smI 1 (by decide) (by decide))) (.cons (.cst (.int 1000) (smI 1000 (by decide) (by decide))) .nil))) (by decide) fun l5 vs5 es5 H5 s5 hl5 hes5 hok5 hn5 => ?_
    refine ⟨p, c, _, rfl, g4.2.same s5, .inl ⟨l5, vs5, rfl, hl5, by omega, by omega, fun k5 x5 H6 hx5 g6 => ?_⟩⟩
    obtain ⟨e5, he5, hx5⟩ := hes5.at_ hx5
    obtain ⟨z5, z1, z9, rfl⟩ := hok5 e5 (List.mem_of_getElem? he5)
    cases hx5
    have g6 := (g4.trans (Gx.same g4.2 s5)).trans g6
    refine ⟨p, c, _, rfl, g6.2, by omega, by omega, fun d7 H7 l7 g7 => ⟨_, _, rfl, rfl, sz (Nat.le_of_ble_eq_true rfl), fun t7 ht7 => ?_⟩⟩
    have g7 := g6.trans g7
    have g27 := g2.trans g7
    have R7 := R.gx np nc g27
    have g8 := g27.trans (Gx.new (o := .tup [.bl (decide (V.int (d1 : Int) = V.int 0)), .int (d2 : Int), .int (W : Int), .int ((W : Int) + (d7 : Int))]) g27.2 ht7)
    have a8 : At p c (upd H7 t7 (.tup [.bl (decide (V.int (d1 : Int) = V.int 0)), .int (d2 : Int), .int (W : Int), .int ((W : Int) + (d7 : Int))])) t7 (.tup [.bl (decide (V.int (d1 : Int) = V.int 0)), .int ((d2 : Nat) : Int), .int ((W : Nat) : Int), .int ((W + d7 : Nat) : Int)]) := at_new g27.2.hp g27.2.hc ht7
    generalize upd H7 t7 (.tup [.bl (decide (V.int (d1 : Int) = V.int 0)), .int (d2 : Int), .int (W : Int), .int ((W : Int) + (d7 : Int))]) = H8 at g8 a8 ⊢
    refine ⟨fun σ H' => ∃ t u x4, ∃ run wait due : Nat, σ = [some (.ref p), some (.ref a), some (.int (W : Int)), some (.ref t), x4] ∧ Gx p c H H' ∧ At p c H' t (.tup [.bl u, .int (run : Int), .int (wait : Int), .int (due : Int)]) ∧ run ≤ 5000 ∧ wait ≤ 5000 ∧ due ≤ 5000, ?_, ?_⟩
    · refine ⟨_, rfl, p, c, 3, rfl, g8.2, by decide, by decide, fun e1 H9 _ g9 => ⟨_, _, rfl, rfl, _, rfl, ite2 (fun _ => ?_) (fun _ => ?_)⟩⟩
      · have g9 := g8.trans g9
        have R9 := R.gx np nc g9
        refine ⟨_, rfl, a, _, _, _, rfl, rfl, SqT.of R9.at_, atI_nat (j := 2) rfl, _, rfl, a, _, _, _, rfl, rfl, SqT.of R9.at_, atI_nat (j := 2) rfl, sz (Nat.le_of_ble_eq_true rfl), fun t ht => ?_⟩
        have ga := g9.trans (Gx.new (o := .tup [.bl true, .int 0, .int (i : Int), .int (i : Int)]) g9.2 ht)
        have aa : At p c (upd H9 t (.tup [.bl true, .int 0, .int (i : Int), .int (i : Int)])) t (.tup [.bl true, .int ((0 : Nat) : Int), .int ((i : Nat) : Int), .int ((i : Nat) : Int)]) := at_new g9.2.hp g9.2.hc ht
        generalize upd H9 t (.tup [.bl true, .int 0, .int (i : Int), .int (i : Int)]) = Ha at ga aa ⊢
        refine ⟨_, rfl, p, c, 9, rfl, ga.2, by decide, by decide, fun e2 Hb lb gb => ⟨_, rfl, by omega, by omega, ?_⟩⟩
        have ab := aa.gx gb
        have gb := ga.trans gb
        refine for_range (lo := 0) (n := ((e2 : Nat) : Int).toNat) (fun k σ H' => ∃ t u x4, ∃ run wait due : Nat, σ = [some (.ref p), some (.ref a), some (.int (W : Int)), some (.ref t), x4] ∧ Gx p c H H' ∧ At p c H' t (.tup [.bl u, .int (run : Int), .int (wait : Int), .int (due : Int)]) ∧ run ≤ k ∧ wait ≤ 99 ∧ due ≤ 200) ⟨_, _, _, _, _, _, rfl, gb, ab, by omega, by omega, by omega⟩ ?_ ?_
        · rintro k σ Hc hk ⟨t, u, x4, run, wait, due, rfl, gc, at_, b1, b2, b3⟩
          have hk : k < e2 := by simpa using hk
          refine ⟨_, rfl, _, rfl, _, rfl, p, c, 3, rfl, gc.2, by decide, by decide, fun e3 Hd _ gd => ⟨rfl, _, rfl, ?_⟩⟩
          have atd := at_.gx gd
          have gd := gc.trans gd
          refine ⟨a, t, r, f', i, m, u, decide (V.int (e3 : Int) = V.int 0), run, wait, due, _, rfl, R.gx np nc gd, atd.2.2, fun T He se hT nT => ?_⟩
          obtain ⟨u', run', wait', e, c1, c2⟩ := lk_nat (r := r) (f := f') (run := run) (wait := wait) (u := u) (g := decide (V.int (e3 : Int) = V.int 0)) im m9
          unfold lkV at hT
          rw [e] at hT
          have nn := gd.2.ne nT
          refine ⟨T, u', _, run', wait', k + wait', rfl, gd.trans (Gx.same gd.2 se), ⟨nn.1, nn.2, ?_⟩, by omega, c2, by omega⟩
          rw [hT]
          simp
        · rintro σ Hc ⟨t, u, x4, run, wait, due, rfl, gc, at_, b1, b2, b3⟩
          have : ((e2 : Nat) : Int).toNat = e2 := by simp
          exact ⟨t, u, x4, run, wait, due, rfl, gc, at_, by omega, by omega, by omega⟩
      · exact ⟨_, _, _, _, _, _, rfl, g8.trans g9, a8.gx g9, by omega, by omega, by omega⟩
    · rintro σ H' ⟨t, u, x4, run, wait, due, rfl, g, at_, b1, b2, b3⟩
      refine ⟨_, rfl, p, c, 3, rfl, g.2, by decide, by decide, fun e1 H9 _ g9 => ⟨_, _, rfl, rfl, _, rfl, ite2 (fun _ => ?_) (fun _ => ?_)⟩⟩
      · refine ⟨_, rfl, q (.ref t) _ H9 (g.trans g9) (.tup (at_.gx g9) (mk4 (at_.gx g9))) ⟨false, ?_⟩⟩
        exact (Gd.tup (n := 0) (SmN.gdA (m := 5000) (by decide) (mk4_sm b1 b2 b3)) (Nat.le_of_ble_eq_true rfl)).mono (by decide) (by show 4 ≤ 600; decide)
      · refine ⟨_, rfl, _, rfl, p, c, t, _, _, rfl, g9.2, at_.gx g9, mk4 (at_.gx g9), rfl, mk4_sm b1 b2 b3, fun v d Ha ga hd ok => q v d Ha ((g.trans g9).trans ga) hd ok⟩
end
end Ag

end
/-! ## Dt -/
section
set_option linter.all false
set_option maxRecDepth 100000
namespace Ag
open PySem PySem.Spec PyProof.Rows L2
/-! ### data, where tables may be written too -/
def Kt (p c : Addr) (H H' : Hp) : Prop := ∀ b o, b ≠ p → b ≠ c → (∀ ps, o ≠ .tbl ps) → H b = some o → H' b = some o
section
variable {p c : Addr} {H H1 H' : Hp}
theorem Kt.refl : Kt p c H H := fun _ _ _ _ _ e => e
theorem Kt.trans (a : Kt p c H H1) (b : Kt p c H1 H') : Kt p c H H' := fun x o h1 h2 n e => b x o h1 h2 n (a x o h1 h2 n e)
theorem Kt.of (g : Kp p c H H') : Kt p c H H' := fun b o h1 h2 _ e => g b o h1 h2 e
theorem Kt.ext (g : LamX.ExtN H H') : Kt p c H H' := fun b o _ _ n e => g b o e n
theorem At.kt {a : Addr} {o : HO} (g : Kt p c H H') (h : At p c H a o) (n : ∀ ps, o ≠ .tbl ps) : At p c H' a o := ⟨h.1, h.2.1, g a o h.1 h.2.1 n h.2.2⟩
mutual
theorem Dg.ktr (g : Kt p c H H') : ∀ (d : PyData) (v : V), Dg p c H v d → Dg p c H' v d
  | .none, _, h => by cases h; exact .non
  | .bool _, _, h => by cases h; exact .bl _
  | .int _, _, h => by cases h; exact .int _
  | .str _, _, h => by cases h; exact .str _
  | .list ds, _, h => by
    cases h with
    | lst a b => exact .lst (a.kt g fun _ z => by cases z) (DgA.ktr g ds _ b)
  | .tuple ds, _, h => by
    cases h with
    | tup a b => exact .tup (a.kt g fun _ z => by cases z) (DgA.ktr g ds _ b)
  | .dict ds, _, h => by
    cases h with
    | dic a b => exact .dic (a.kt g fun _ z => by cases z) (DgK.ktr g ds _ b)
theorem DgA.ktr (g : Kt p c H H') : ∀ (ds : List PyData) (vs : List V), DgA p c H vs ds → DgA p c H' vs ds
  | [], _, h => by cases h; exact .nil
  | d :: ds, _, h => by
    cases h with
    | cons a b => exact .cons (Dg.ktr g d _ a) (DgA.ktr g ds _ b)
theorem DgK.ktr (g : Kt p c H H') : ∀ (ds : List (PyData × PyData)) (vs : List (Key × V)), DgK p c H vs ds → DgK p c H' vs ds
  | [], _, h => by cases h; exact .nil
  | (_, d) :: ds, _, h => by
    cases h with
    | cons a b => exact .cons (Dg.ktr g d _ a) (DgK.ktr g ds _ b)
end
theorem Dg.kt {v : V} {d : PyData} (h : Dg p c H v d) (g : Kt p c H H') : Dg p c H' v d := Dg.ktr g d v h
end
end Ag

end
/-! ## KwX -/
section
set_option linter.all false
set_option maxRecDepth 100000
namespace Ag
open PySem PySem.Spec PyProof.Rows L2
section
variable {X : Cx} {CX : CXT} {k : Nat} {f : Addr} {fd : FuncData} {ps ks : List Str} {sp : Sp} {E : XK} {x : Str} {p pos : Pos} {t : TA} {gv : List Value → List Value} {gV : List V → List V} {kws : List Keyword}
def tKwE (sp : Sp) (n : Nat) (gV : List V → List V) (E : XK) (t : TA) : TE := fun σ H Q => t σ H fun zs H2 => zs.length = n ∧ sp (gV zs) H2 Q E
/-- f(k = e, ..), keywords alone, and what it lets out is taken -/
theorem pe_callKwX (F : FnOk X.prog X.w X.K X.mg X.base CX k f fd ps sp) (hr : Room k X.A) (hg : Gl X x) (hm : X.mg x = some (.ref f)) (hk : PySem.W.keepIn X.K (.ref f) = true) (hb : KwB X.K fd ps ks gv gV) (hx : Passes CX X E)
    (ha : PK X kws t) (hall : (backToKw pos (keywordEach kws X.env)).all (·.1.isSome) = true := by rfl) (hks : (backToKw pos (keywordEach kws X.env)).filterMap (·.1) = ks := by rfl) (hdb : (x == ("__debug__" : Str)) = false := by decide)
    (hpl : ((backTo pos (starEach [] X.env)).any (·.1) || (backToKw pos (keywordEach kws X.env)).any (·.1.isNone)) = false := by rfl) : PE X (.Call (.Name x p) [] kws pos) (tKwE sp ks.length gV E t) := by
  constructor
  intro pins s σ H Q I h
  refine wpAny_Call_Name_kw (ld_glob I hg hm (PySem.W.callWith_KW0 (h₀ := X.base) I.ok.mod.kin hk hall (thn (ha.run pos pins s σ H _ I h) ?_) hpl) hdb)
  rintro ws s2 ⟨zs, H2, I2, rz, l, q⟩
  refine ⟨I2.kIn, ?_⟩
  rw [hks]
  refine wpAny_call (codeAny_mono (F.run X.A X.stack s2 H2 ⟨[], ks.zip ws⟩ _ _ Q E hr I2.env0 (hb.to s2 ws (by rw [← rz.length]; exact l)) (hb.rel l rz) q) fun r s' hq => ?_)
  cases r with
  | error e => exact hx pins σ H2 s2 e s' I2 hq
  | ok fl =>
    cases fl with
    | ret u => exact I2.after hq
    | next => exact False.elim hq
    | brk => exact False.elim hq
    | cont => exact False.elim hq
end
end Ag

end
/-! ## ZB -/
section
set_option linter.all false
set_option maxRecDepth 100000
set_option maxHeartbeats 1000000
namespace Ag
open PySem PySem.Spec PyProof.Rows L2
/-! ### what the calls are told as -/
def MarkD (d1 d2 D : PyData) : Prop := (ruleB d1 = false ∧ D = bad "BadRule" d1) ∨ ∃ r f i m, d1 = rlD r f i m ∧ ruleB d1 = true ∧ ∃ b : Bool, (b = true ↔ markP r f i m d2) ∧ D = bad "returned" (.bool b)
def NewD (d1 D : PyData) : Prop := (ruleB d1 = false ∧ D = bad "BadRule" d1) ∨ ∃ r f i m, d1 = rlD r f i m ∧ ruleB d1 = true ∧ D = bad "returned" (.tuple [.bool true, .int 0, .int (i : Nat), .int (i : Nat)])
def WhenD (d1 d2 d4 D : PyData) : Prop := (ruleB d1 = false ∧ D = bad "BadRule" d1) ∨ ∃ r f i m, d1 = rlD r f i m ∧ ruleB d1 = true ∧ ((¬ markP r f i m d2 ∧ D = bad "BadMark" d2) ∨ ∃ u run wait due, d2 = mkD u run wait due ∧ markP r f i m d2 ∧
  ((nonnegB d4 = false ∧ D = bad "BadNumber" d4) ∨ ∃ now : Int, d4 = .int now ∧ 0 ≤ now ∧ D = bad "returned" (.bool (decide (due ≤ now)))))
theorem MarkD.uniq {d1 d2 D D' : PyData} (h : MarkD d1 d2 D) (h' : MarkD d1 d2 D') : D = D' := by
  rcases h with ⟨a1, rfl⟩ | ⟨r, f, i, m, a1, a2, b, hb, rfl⟩ <;> rcases h' with ⟨b1, rfl⟩ | ⟨r', f', i', m', b1, b2, b', hb', rfl⟩
  · rfl
  · rw [a1] at b2; cases b2
  · rw [a2] at b1; cases b1
  obtain ⟨rfl, rfl, rfl, rfl⟩ := rlD_inj (a1.symm.trans b1)
  have : b = b' := Bool.eq_iff_iff.mpr (hb.trans hb'.symm)
  rw [this]
theorem NewD.uniq {d1 D D' : PyData} (h : NewD d1 D) (h' : NewD d1 D') : D = D' := by
  rcases h with ⟨a1, rfl⟩ | ⟨r, f, i, m, a1, a2, rfl⟩ <;> rcases h' with ⟨b1, rfl⟩ | ⟨r', f', i', m', b1, b2, rfl⟩
  · rfl
  · rw [a1] at b2; cases b2
  · rw [a2] at b1; cases b1
  obtain ⟨rfl, rfl, rfl, rfl⟩ := rlD_inj (a1.symm.trans b1)
  rfl
theorem WhenD.uniq {d1 d2 d4 D D' : PyData} (h : WhenD d1 d2 d4 D) (h' : WhenD d1 d2 d4 D') : D = D' := by
  rcases h with ⟨a1, rfl⟩ | ⟨r, f, i, m, a1, a2, h⟩ <;> rcases h' with ⟨b1, rfl⟩ | ⟨r', f', i', m', b1, b2, h'⟩
  · rfl
  · rw [a1] at b2; cases b2
  · rw [a2] at b1; cases b1
  obtain ⟨rfl, rfl, rfl, rfl⟩ := rlD_inj (a1.symm.trans b1)
  rcases h with ⟨a3, rfl⟩ | ⟨u, x, y, z, a3, a4, h⟩ <;> rcases h' with ⟨b3, rfl⟩ | ⟨u', x', y', z', b3, b4, h'⟩
  · rfl
  · exact absurd b4 a3
  · exact absurd a4 b3
  obtain ⟨rfl, rfl, rfl, rfl⟩ := mkD_inj (a3.symm.trans b3)
  rcases h with ⟨a6, rfl⟩ | ⟨n, a6, a7, rfl⟩ <;> rcases h' with ⟨b6, rfl⟩ | ⟨n', b6, b7, rfl⟩
  · rfl
  · rw [b6] at a6; exact absurd b7 (of_decide_eq_false a6)
  · rw [a6] at b6; exact absurd a7 (of_decide_eq_false b6)
  · have e := a6.symm.trans b6
    injection e with e
    subst e
    rfl
/-- data that can be shown -/
def ShD (D : PyData) : Prop := ∃ q, Gd q D 8 800
theorem ShD.fit {D : PyData} (h : ShD D) : D.showable = true ∧ (D.hasDict = true → noL D = true) ∧ D.depth ≤ 64 ∧ D.shown.length ≤ sizeLine := by
  obtain ⟨q, h⟩ := h
  exact h.fit (by decide) (by decide)
theorem bad_sh {s : String} {d : PyData} (h : OkD d) (hs : strOkB (Str.ofString s) = true) (h2 : (Str.ofString s).cps.size ≤ 100) : ShD (bad s d) := by
  obtain ⟨q, h⟩ := h
  exact ⟨q, (Gd.tup (n := 6) (b := 702) (.cons (b1 := 100) (b2 := 601) (.str hs h2) (.cons (b1 := 600) (b2 := 0) h .nil (by decide)) (by decide)) (Nat.le_of_ble_eq_true rfl)).mono (by decide) (by decide)⟩
theorem MarkD.sh {d1 d2 D : PyData} (h : MarkD d1 d2 D) (h1 : OkD d1) : ShD D := by
  rcases h with ⟨_, rfl⟩ | ⟨r, f, i, m, _, _, b, _, rfl⟩
  · exact bad_sh h1 (by decide +kernel) (by decide +kernel)
  · exact bad_sh ⟨false, .bl⟩ (by decide +kernel) (by decide +kernel)
theorem rlD_lt {r f i m : Nat} (h : ruleB (rlD r f i m) = true) : r ≤ 99 ∧ f ≤ 99 ∧ i ≤ m ∧ m ≤ 99 := by
  unfold rlD ruleB wholeB asInt at h
  simp at h
  omega
theorem NewD.sh {d1 D : PyData} (h : NewD d1 D) (h1 : OkD d1) : ShD D := by
  rcases h with ⟨_, rfl⟩ | ⟨r, f, i, m, rfl, hr, rfl⟩
  · exact bad_sh h1 (by decide +kernel) (by decide +kernel)
  · obtain ⟨_, _, l1, l2⟩ := rlD_lt hr
    exact bad_sh ⟨false, (Gd.tup (n := 0) (b := 4) (SmN.gdA (m := 5000) (by decide) (mk4_sm (run := 0) (wait := i) (due := i) (by decide) (by omega) (by omega))) (Nat.le_of_ble_eq_true rfl)).mono (by decide) (by decide)⟩ (by decide +kernel) (by decide +kernel)
theorem WhenD.sh {d1 d2 d4 D : PyData} (h : WhenD d1 d2 d4 D) (h1 : OkD d1) (h2 : OkD d2) (h4 : OkD d4) : ShD D := by
  rcases h with ⟨_, rfl⟩ | ⟨r, f, i, m, _, _, ⟨_, rfl⟩ | ⟨u, x, y, z, _, _, ⟨_, rfl⟩ | ⟨n, _, _, rfl⟩⟩⟩
  · exact bad_sh h1 (by decide +kernel) (by decide +kernel)
  · exact bad_sh h2 (by decide +kernel) (by decide +kernel)
  · exact bad_sh h4 (by decide +kernel) (by decide +kernel)
  · exact bad_sh ⟨false, .bl⟩ (by decide +kernel) (by decide +kernel)
/-- a number that a look's due stays below -/
def NowD (d : PyData) : Prop := OkD d ∧ ∀ n : Int, d = .int n → n ≤ 10 ^ 39
theorem Due.sh {d1 d2 d3 d4 D : PyData} (h : Due d1 d2 d3 d4 D) (h1 : OkD d1) (h2 : OkD d2) (h3 : OkD d3) (h4 : NowD d4) : ShD D := by
  rcases h with ⟨_, rfl⟩ | ⟨r, f, i, m, rfl, hr, ⟨_, rfl⟩ | ⟨u, x, y, z, rfl, hm, ⟨_, rfl⟩ | ⟨g, rfl, ⟨_, rfl⟩ | ⟨n, rfl, n0, rfl⟩⟩⟩⟩
  · exact bad_sh h1 (by decide +kernel) (by decide +kernel)
  · exact bad_sh h2 (by decide +kernel) (by decide +kernel)
  · exact bad_sh h3 (by decide +kernel) (by decide +kernel)
  · exact bad_sh h4.1 (by decide +kernel) (by decide +kernel)
  · obtain ⟨r9, f9, l1, l2⟩ := rlD_lt hr
    have n9 := h4.2 n rfl
    obtain ⟨x0, _, hx⟩ : 0 ≤ x ∧ y ≤ z ∧ ((u = true ∧ x < f ∧ y = i) ∨ (u = false ∧ 0 < x ∧ x < r ∧ y = i) ∨ (u = false ∧ x = 0 ∧ inW i m y)) := hm
    have hy : 0 ≤ y ∧ y ≤ 99 := by
      rcases hx with ⟨_, _, e⟩ | ⟨_, _, _, e⟩ | ⟨_, _, j, _, e⟩ <;> omega
    obtain ⟨y0, y9⟩ := hy
    have x9 : x ≤ 99 := by
      rcases hx with ⟨_, e, _⟩ | ⟨_, _, e, _⟩ | ⟨_, e, _⟩ <;> omega
    obtain ⟨x, rfl⟩ := Int.eq_ofNat_of_zero_le x0
    obtain ⟨y, rfl⟩ := Int.eq_ofNat_of_zero_le y0
    obtain ⟨u', run', wait', e, c1, c2⟩ := lk_nat (r := r) (f := f) (i := i) (m := m) (run := x) (wait := y) (u := u) (g := g) l1 l2
    unfold lkL
    rw [e]
    have ok1 : ∀ k : Int, -1 ≤ k → k ≤ 10 ^ 39 + 1000000 → Gd false (.int k) 0 0 := fun k h0 h1 => .int (okI h0 h1)
    exact bad_sh ⟨false, (Gd.tup (n := 0) (b := 4) (.cons (b1 := 0) (b2 := 3) .bl (.cons (b1 := 0) (b2 := 2) (ok1 _ (by show -1 ≤ (run' : Int); omega) (by show (run' : Int) ≤ _; omega)) (.cons (b1 := 0) (b2 := 1) (ok1 _ (by show -1 ≤ (wait' : Int); omega) (by show (wait' : Int) ≤ _; omega)) (.cons (b1 := 0) (b2 := 0) (ok1 _ (by show -1 ≤ n + (wait' : Int); omega) (by show n + (wait' : Int) ≤ _; omega)) .nil (by decide)) (by decide)) (by decide)) (by decide)) (Nat.le_of_ble_eq_true rfl)).mono (by decide) (by decide)⟩ (by decide +kernel) (by decide +kernel)
end Ag

end
/-! ## ZC -/
section
set_option linter.all false
set_option maxRecDepth 100000
set_option maxHeartbeats 1000000
namespace Ag
open PySem PySem.Spec PyProof.Rows L2
/-! ### the four calls, tried -/
abbrev qLam : Str := (Str.ofString "law" ++ Str.ofString ".<locals>.") ++ Str.ofString "<lambda>"
/-- all but the deck and the table stays -/
def Gt (p c Pt : Addr) (H H' : Hp) : Prop := Kt p c H H' ∧ Dk p c H' ∧ LamX.Tabs [(Pt, qLam)] H'
section
variable {p c Pt : Addr} {H H1 H2 G G' : Hp}
theorem Gt.refl (d : Dk p c H) (t : LamX.Tabs [(Pt, qLam)] H) : Gt p c Pt H H := ⟨Kt.refl, d, t⟩
theorem Gt.trans (a : Gt p c Pt H H1) (b : Gt p c Pt H1 H2) : Gt p c Pt H H2 := ⟨a.1.trans b.1, b.2⟩
theorem Gt.same (a : Gt p c Pt H H1) (s : Same H1 H2) : Gt p c Pt H H2 := ⟨a.1.trans (.of (Kp.same s)), a.2.1.same s, a.2.2.ext s⟩
theorem Gt.ext (a : Gt p c Pt H H1) (e : LamX.ExtN H1 H2) (t : LamX.Tabs [(Pt, qLam)] H2) : Gt p c Pt H H2 := by
  refine ⟨a.1.trans (.ext e), ?_, t⟩
  obtain ⟨m, n, cs, h1, h2, h3⟩ := a.2.1
  exact ⟨m, n, cs, e _ _ h1 (fun _ z => by cases z), e _ _ h2 (fun _ z => by cases z), h3⟩
theorem tabs_gx (d : Dk p c H) (t : LamX.Tabs [(Pt, qLam)] H) (g : Gx p c H H1) : LamX.Tabs [(Pt, qLam)] H1 := by
  obtain ⟨m, n, cs, e1, e2, _⟩ := d
  intro y hy
  obtain ⟨ps, h1, h2, h3⟩ := t y hy
  refine ⟨ps, g.1 _ _ (fun z => ?_) (fun z => ?_) h1, h2, fun pos cv hc => ?_⟩
  · rw [z, e1] at h1; cases h1
  · rw [z, e2] at h1; cases h1
  · obtain ⟨cc, ec, hcc⟩ := h3 pos cv hc
    refine ⟨cc, ec, g.1 _ _ (fun z => ?_) (fun z => ?_) hcc⟩
    · rw [z, e1] at hcc; cases hcc
    · rw [z, e2] at hcc; cases hcc
theorem Gt.gx (a : Gt p c Pt H H1) (g : Gx p c H1 H2) : Gt p c Pt H H2 := ⟨a.1.trans (.of g.1), g.2, tabs_gx a.2.1 a.2.2 g⟩
theorem told_dg {t : Addr} {v : V} {d : PyData} {s : String} (dk : Dk p c G) (nT : G t = none) (hT : G' t = some (.tup [.str (Str.ofString s), v])) (hd : Dg p c G' v d) : Dg p c G' (.ref t) (bad s d) :=
  .tup ⟨(dk.ne nT).1, (dk.ne nT).2, hT⟩ (.cons (.str _) (.cons hd .nil))
variable {cl : Nat → Addr} {E : XK} {Q : VK} {R : VK} {v v1 v2 v3 v4 : V} {d d1 d2 d3 d4 : PyData}
/-- what an exception is told as -/
theorem rsd_told {k : Nat} {s : String} (k4 : k < 4) (hs : nm4 k = Str.ofString s) (g : Gt p c Pt H H2) (hd : Dg p c H2 v d)
    (hE : ∀ cls d G, Same H2 G → (∃ k dd v, k < 4 ∧ cls = .ref (cl k) ∧ d = some dd ∧ G dd = some (.xd [("thing", v)]) ∧ ∀ t G', Same G G' → G t = none → G' t = some (.tup [.str (nm4 k), v]) → Q (.ref t) G') → E cls d G)
    (q : ∀ t G, Gt p c Pt H G → Dg p c G (.ref t) (bad s d) → Q (.ref t) G) : Rsd E (cl k) H2 v := by
  intro dx H3 s3 _ hx
  refine hE _ _ _ s3 ⟨k, dx, v, k4, rfl, rfl, hx, fun t G' sG nT hT => ?_⟩
  have g3 := g.same s3
  rw [hs] at hT
  exact q t G' (g3.same sG) (told_dg g3.2.1 nT hT (hd.to (Kp.same (s3.trans sG))))
theorem core_mark (g : Gt p c Pt H H2) (h1 : Dg p c H2 v1 d1) (h2 : Dg p c H2 v2 d2)
    (hE : ∀ cls d G, Same H2 G → (∃ k dd v, k < 4 ∧ cls = .ref (cl k) ∧ d = some dd ∧ G dd = some (.xd [("thing", v)]) ∧ ∀ t G', Same G G' → G t = none → G' t = some (.tup [.str (nm4 k), v]) → Q (.ref t) G') → E cls d G)
    (hR : ∀ v G, Same H2 G → (∀ t G', Same G G' → G t = none → G' t = some (.tup [.str (Str.ofString "returned"), v]) → Q (.ref t) G') → R v G)
    (q : ∀ v D G, Gt p c Pt H G → Dg p c G v D → MarkD d1 d2 D → Q v G) : spMarkA (cl 3) [v1, v2] H2 R E := by
  refine ⟨p, c, v1, d1, v2, d2, rfl, h1, h2, fun z => rsd_told (s := "BadRule") (by decide) rfl g h1 hE fun t G gG hd => q _ _ G gG hd (.inl ⟨z, rfl⟩), fun r f i m e hrl b H3 s3 hb => ?_⟩
  refine hR _ _ s3 fun t G' sG nT hT => ?_
  have g3 := g.same s3
  exact q _ _ G' (g3.same sG) (told_dg g3.2.1 nT hT (.bl b)) (.inr ⟨r, f, i, m, e, hrl, b, hb, rfl⟩)
theorem core_new (g : Gt p c Pt H H2) (h1 : Dg p c H2 v1 d1)
    (hE : ∀ cls d G, Same H2 G → (∃ k dd v, k < 4 ∧ cls = .ref (cl k) ∧ d = some dd ∧ G dd = some (.xd [("thing", v)]) ∧ ∀ t G', Same G G' → G t = none → G' t = some (.tup [.str (nm4 k), v]) → Q (.ref t) G') → E cls d G)
    (hR : ∀ v G, Same H2 G → (∀ t G', Same G G' → G t = none → G' t = some (.tup [.str (Str.ofString "returned"), v]) → Q (.ref t) G') → R v G)
    (q : ∀ v D G, Gt p c Pt H G → Dg p c G v D → NewD d1 D → Q v G) : spNewA (cl 3) [v1] H2 R E := by
  refine ⟨p, c, v1, d1, rfl, h1, fun z => rsd_told (s := "BadRule") (by decide) rfl g h1 hE fun t G gG hd => q _ _ G gG hd (.inl ⟨z, rfl⟩), fun r f i m e hrl t H3 s3 h3 n3 => ?_⟩
  refine hR _ _ s3 fun t' G' sG nT hT => ?_
  have g3 := g.same s3
  have nn := g.2.1.ne n3
  exact q _ _ G' (g3.same sG) (told_dg g3.2.1 nT hT (.tup ⟨nn.1, nn.2, sG _ _ h3⟩ (.cons (.bl _) (.cons (.int _) (.cons (.int _) (.cons (.int _) .nil)))))) (.inr ⟨r, f, i, m, e, hrl, rfl⟩)
theorem core_looked (g : Gt p c Pt H H2) (h1 : Dg p c H2 v1 d1) (h2 : Dg p c H2 v2 d2) (h3 : Dg p c H2 v3 d3) (h4 : Dg p c H2 v4 d4)
    (hE : ∀ cls d G, Same H2 G → (∃ k dd v, k < 4 ∧ cls = .ref (cl k) ∧ d = some dd ∧ G dd = some (.xd [("thing", v)]) ∧ ∀ t G', Same G G' → G t = none → G' t = some (.tup [.str (nm4 k), v]) → Q (.ref t) G') → E cls d G)
    (hR : ∀ v G, Same H2 G → (∀ t G', Same G G' → G t = none → G' t = some (.tup [.str (Str.ofString "returned"), v]) → Q (.ref t) G') → R v G)
    (q : ∀ v D G, Gt p c Pt H G → Dg p c G v D → Due d1 d2 d3 d4 D → Q v G) : spLookedA (cl 3) (cl 1) (cl 0) (cl 2) [v1, v2, v3, v4] H2 R E := by
  refine ⟨p, c, v1, d1, v2, d2, v3, d3, v4, d4, rfl, h1, h2, h3, h4, fun z => rsd_told (s := "BadRule") (by decide) rfl g h1 hE fun t G gG hd => q _ _ G gG hd (.inl ⟨z, rfl⟩), fun r f i m e hrl => ⟨fun z => rsd_told (s := "BadMark") (by decide) rfl g h2 hE fun t G gG hd => q _ _ G gG hd (.inr ⟨r, f, i, m, e, hrl, .inl ⟨z, rfl⟩⟩),
    fun u run wait due e2 hm => ⟨fun z => rsd_told (s := "BadBool") (by decide) rfl g h3 hE fun t G gG hd => q _ _ G gG hd (.inr ⟨r, f, i, m, e, hrl, .inr ⟨u, run, wait, due, e2, hm, .inl ⟨z, rfl⟩⟩⟩),
    fun b e3 => ⟨fun z => rsd_told (s := "BadNumber") (by decide) rfl g h4 hE fun t G gG hd => q _ _ G gG hd (.inr ⟨r, f, i, m, e, hrl, .inr ⟨u, run, wait, due, e2, hm, .inr ⟨b, e3, .inl ⟨z, rfl⟩⟩⟩⟩), fun now e4 n0 t H3 s3 h3 n3 => ?_⟩⟩⟩⟩
  refine hR _ _ s3 fun t' G' sG nT hT => ?_
  have g3 := g.same s3
  have nn := g.2.1.ne n3
  exact q _ _ G' (g3.same sG) (told_dg g3.2.1 nT hT (lk_dg nn.1 nn.2 (sG _ _ h3))) (.inr ⟨r, f, i, m, e, hrl, .inr ⟨u, run, wait, due, e2, hm, .inr ⟨b, e3, .inr ⟨now, e4, n0, rfl⟩⟩⟩⟩)
theorem core_when (g : Gt p c Pt H H2) (h1 : Dg p c H2 v1 d1) (h2 : Dg p c H2 v2 d2) (h4 : Dg p c H2 v4 d4)
    (hE : ∀ cls d G, Same H2 G → (∃ k dd v, k < 4 ∧ cls = .ref (cl k) ∧ d = some dd ∧ G dd = some (.xd [("thing", v)]) ∧ ∀ t G', Same G G' → G t = none → G' t = some (.tup [.str (nm4 k), v]) → Q (.ref t) G') → E cls d G)
    (hR : ∀ v G, Same H2 G → (∀ t G', Same G G' → G t = none → G' t = some (.tup [.str (Str.ofString "returned"), v]) → Q (.ref t) G') → R v G)
    (q : ∀ v D G, Gt p c Pt H G → Dg p c G v D → WhenD d1 d2 d4 D → Q v G) : spDueA (cl 3) (cl 1) (cl 2) [v1, v2, v4] H2 R E := by
  refine ⟨p, c, v1, d1, v2, d2, v4, d4, rfl, h1, h2, h4, fun z => rsd_told (s := "BadRule") (by decide) rfl g h1 hE fun t G gG hd => q _ _ G gG hd (.inl ⟨z, rfl⟩), fun r f i m e hrl => ⟨fun z => rsd_told (s := "BadMark") (by decide) rfl g h2 hE fun t G gG hd => q _ _ G gG hd (.inr ⟨r, f, i, m, e, hrl, .inl ⟨z, rfl⟩⟩),
    fun u run wait due e2 hm => ⟨fun z => rsd_told (s := "BadNumber") (by decide) rfl g h4 hE fun t G gG hd => q _ _ G gG hd (.inr ⟨r, f, i, m, e, hrl, .inr ⟨u, run, wait, due, e2, hm, .inl ⟨z, rfl⟩⟩⟩), fun now e4 n0 H3 s3 => ?_⟩⟩⟩
  refine hR _ _ s3 fun t' G' sG nT hT => ?_
  have g3 := g.same s3
  exact q _ _ G' (g3.same sG) (told_dg g3.2.1 nT hT (.bl _)) (.inr ⟨r, f, i, m, e, hrl, .inr ⟨u, run, wait, due, e2, hm, .inr ⟨now, e4, n0, rfl⟩⟩⟩)
/-! ### over the lambdas -/
variable {σ : L2.St}
theorem lam_mark {i j : Nat} (g : Gt p c Pt H H1) (e1 : σ[i]? = some (some v1)) (e2 : σ[j]? = some (some v2)) (h1 : Dg p c H1 v1 d1) (h2 : Dg p c H1 v2 d2) (q : ∀ v D G, Gt p c Pt H G → Dg p c G v D → MarkD d1 d2 D → Q v G) :
    LamX.tLam [(Pt, qLam)] (TTried cl) (fun E => tCall (spMarkA (cl 3)) [] E (tCons (tVar i) (tCons (tVar j) tNil))) σ H1 Q := by
  refine ⟨g.2.2, fun G1 x1 T1 G2 E R s2 hE hR => ?_⟩
  have g2 := (g.ext x1 T1).same s2
  have k2 := (Kt.ext x1).trans (Kt.of (Kp.same s2) : Kt p c G1 G2)
  exact ⟨v1, e1, v2, e2, core_mark g2 (h1.kt k2) (h2.kt k2) hE hR q⟩
theorem lam_markK {i j : Nat} (g : Gt p c Pt H H1) (e1 : σ[i]? = some (some v1)) (e2 : σ[j]? = some (some v2)) (h1 : Dg p c H1 v1 d1) (h2 : Dg p c H1 v2 d2) (q : ∀ v D G, Gt p c Pt H G → Dg p c G v D → MarkD d1 d2 D → Q v G) :
    LamX.tLam [(Pt, qLam)] (TTried cl) (fun E => tKwE (spMarkA (cl 3)) 2 List.reverse E (tCons (tVar j) (tCons (tVar i) tNil))) σ H1 Q := by
  refine ⟨g.2.2, fun G1 x1 T1 G2 E R s2 hE hR => ?_⟩
  have g2 := (g.ext x1 T1).same s2
  have k2 := (Kt.ext x1).trans (Kt.of (Kp.same s2) : Kt p c G1 G2)
  exact ⟨v2, e2, v1, e1, rfl, core_mark g2 (h1.kt k2) (h2.kt k2) hE hR q⟩
theorem lam_new {i : Nat} (g : Gt p c Pt H H1) (e1 : σ[i]? = some (some v1)) (h1 : Dg p c H1 v1 d1) (q : ∀ v D G, Gt p c Pt H G → Dg p c G v D → NewD d1 D → Q v G) :
    LamX.tLam [(Pt, qLam)] (TTried cl) (fun E => tCall (spNewA (cl 3)) [] E (tCons (tVar i) tNil)) σ H1 Q := by
  refine ⟨g.2.2, fun G1 x1 T1 G2 E R s2 hE hR => ?_⟩
  have g2 := (g.ext x1 T1).same s2
  have k2 := (Kt.ext x1).trans (Kt.of (Kp.same s2) : Kt p c G1 G2)
  exact ⟨v1, e1, core_new g2 (h1.kt k2) hE hR q⟩
theorem lam_looked {i j k l : Nat} (g : Gt p c Pt H H1) (e1 : σ[i]? = some (some v1)) (e2 : σ[j]? = some (some v2)) (e3 : σ[k]? = some (some v3)) (e4 : σ[l]? = some (some v4)) (h1 : Dg p c H1 v1 d1) (h2 : Dg p c H1 v2 d2) (h3 : Dg p c H1 v3 d3) (h4 : Dg p c H1 v4 d4) (q : ∀ v D G, Gt p c Pt H G → Dg p c G v D → Due d1 d2 d3 d4 D → Q v G) :
    LamX.tLam [(Pt, qLam)] (TTried cl) (fun E => tCall (spLookedA (cl 3) (cl 1) (cl 0) (cl 2)) [] E (tCons (tVar i) (tCons (tVar j) (tCons (tVar k) (tCons (tVar l) tNil))))) σ H1 Q := by
  refine ⟨g.2.2, fun G1 x1 T1 G2 E R s2 hE hR => ?_⟩
  have g2 := (g.ext x1 T1).same s2
  have k2 := (Kt.ext x1).trans (Kt.of (Kp.same s2) : Kt p c G1 G2)
  exact ⟨v1, e1, v2, e2, v3, e3, v4, e4, core_looked g2 (h1.kt k2) (h2.kt k2) (h3.kt k2) (h4.kt k2) hE hR q⟩
theorem lam_when {i j l : Nat} (g : Gt p c Pt H H1) (e1 : σ[i]? = some (some v1)) (e2 : σ[j]? = some (some v2)) (e4 : σ[l]? = some (some v4)) (h1 : Dg p c H1 v1 d1) (h2 : Dg p c H1 v2 d2) (h4 : Dg p c H1 v4 d4) (q : ∀ v D G, Gt p c Pt H G → Dg p c G v D → WhenD d1 d2 d4 D → Q v G) :
    LamX.tLam [(Pt, qLam)] (TTried cl) (fun E => tCall (spDueA (cl 3) (cl 1) (cl 2)) [] E (tCons (tVar i) (tCons (tVar j) (tCons (tVar l) tNil)))) σ H1 Q := by
  refine ⟨g.2.2, fun G1 x1 T1 G2 E R s2 hE hR => ?_⟩
  have g2 := (g.ext x1 T1).same s2
  have k2 := (Kt.ext x1).trans (Kt.of (Kp.same s2) : Kt p c G1 G2)
  exact ⟨v1, e1, v2, e2, v4, e4, core_when g2 (h1.kt k2) (h2.kt k2) (h4.kt k2) hE hR q⟩
end
end Ag

end
/-! ## GC -/
section
set_option linter.all false
set_option maxRecDepth 100000
namespace Ag
open PySem PySem.Spec PyProof.Rows L2
section
variable {P : Program} {w : World} {K : PySem.W.Frag} {mg : Str → Option Value} {base : Heap}
/-- like okG, and the code object is told -/
theorem okGc {x qual : Str} {st : Stmt} {f : Addr} {fd : FuncData} {N ps : List Str} {k : Nat} {sp : Sp} (F : Fun K x qual st f fd) (S : FnScope N ps (defScope st))
    (len : ∀ vs H Q E, sp vs H Q E → vs.length = ps.length)
    (hbody : ∀ (A : Around) (outer : List Env) (s : Shared) (H : Hp) (vs : List V) (Q : VK) (E : XK), Room k (A.deeper (envOfC qual (defScope st) s.heap.objs.size f fd.code)) →
      (A.deeper (envOfC qual (defScope st) s.heap.objs.size f fd.code)).guards = some [] → sp vs H Q E →
      ∃ t, PSs (cxOf CX0 P w K mg base N qual (defScope st) f fd.code A outer s H E).nox (defBody st) t ∧ t { nx := fun _ H' => Q .non H', rt := Q } (start N vs) H) :
    FnG P w K mg base (k + 1) f fd ps sp := by
  obtain ⟨oc, od, kV, doc, pm, an, cdv, ct, osl, rfl, lk, hcd⟩ := F.ex
  refine ⟨len, ?_⟩
  intro A outer s H args us vs Q E hr hg env0 hb rel hsp
  have below : ∀ b o, base.get? b = some o → s.heap.get? b = some o := fun b o e => (env0.bs b o e).1
  have KX : K.In s.heap := env0.mod.kin.keeps below
  have lim : s.heap.NoLimit := env0.mod.nolimit.keeps below
  have kinds : ∀ y ∈ ps.zip us, (defScope st).names.lookup y.1 = some .local ∨ ((defScope st).names.lookup y.1 = some .cell ∧ ((cellsFrom (s.heap.objs.size + 1) (defScope st).names []).lookup y.1).isSome = true) := by
    rintro ⟨n, v⟩ hy
    exact (S.par n (List.of_mem_zip hy).1).imp id fun q => ⟨q, PySem.W.cellsFrom_some _ _ _ (.inl q)⟩
  refine codeAny_call_function hr.depth (KX f _ lk) rfl S.co S.gen rfl (PySem.W.codeRec_of KX hcd) (hb _ _ _ _ (wpAny_newFunctionEnv_cells S.kind kinds ?_))
  intro env he s1 z
  subst he
  refine ⟨lim.keeps z.toInCall.keep, codeAny_func ?_⟩
  obtain ⟨t, ht, hq⟩ := hbody A outer s H vs Q E (hr.deeper _) (g_deeper hg) hsp
  have I := inv_start (CX := CX0) (E := E) S hr.hd env0 (len vs H Q E hsp) rel z
  refine wpAny_mono (ht.nox.run [] s1 (start N vs) H _ I hq) (fun fl s' hs => ?_) (fun e s' hs => hs)
  cases fl with
  | brk => exact hs.elim fun _ z => z.elim fun _ z => z.2.elim
  | cont => exact hs.elim fun _ z => z.elim fun _ z => z.2.elim
  | next =>
    obtain ⟨σ', H', J, q⟩ := hs
    exact ⟨.non, H', J.os, J.bare, J.base, J.hok, rfl, q⟩
  | ret u =>
    obtain ⟨v, σ', H', J, rv, q⟩ := hs
    exact ⟨v, H', J.os, J.bare, J.base, J.hok, rv, q⟩
end
end Ag

end
/-! ## IfM -/
section
set_option linter.all false
set_option maxRecDepth 100000
namespace Ag
open PySem PySem.Spec PyProof.Rows L2
/-- a value, by way of what is known of it -/
def tMid (t : TE) : TE := fun σ H Q => ∃ I : V → Hp → Prop, (∀ Q' : VK, (∀ v H', I v H' → Q' v H') → t σ H Q') ∧ ∀ v H', I v H' → Q v H'
theorem pe_ifMid {X : Cx} {c a b : Expr} {pos : Pos} {tA : TT} {ta tb : TE} (hc : PT X c tA) (ha : PE X a ta) (hb : PE X b tb) : PE X (.IfExp c a b pos) (tMid (tIf tA ta tb)) :=
  ⟨fun pins s σ H Q I hw => by
    obtain ⟨J, h1, h2⟩ := hw
    exact (pe_ifExp hc ha hb).run pins s σ H Q I (h1 Q h2)⟩
end Ag

end
/-! ## ZD -/
section
set_option linter.all false
set_option maxRecDepth 100000
set_option maxHeartbeats 8000000
namespace Ag
open PySem PySem.Spec PyProof.Rows L2
theorem two_sorted {ns' : List Int} {x y : Nat} (hp : ns'.Perm [1 + (x : Int), 1 + (y : Int)]) (hs : ns'.Pairwise (· ≤ ·)) (hx : x < 99) (hy : y < 99) : ∃ i m : Nat, ns' = [(i : Int), (m : Int)] ∧ 1 ≤ i ∧ i ≤ m ∧ m ≤ 99 := by
  have hl := hp.length_eq
  match ns', hl with
  | [a, b], _ =>
    have ha := hp.subset (List.mem_cons_self)
    have hb := hp.subset (List.mem_cons_of_mem _ (List.mem_cons_self (a := b) (l := [])))
    have hab : a ≤ b := by simpa using hs
    simp only [List.mem_cons, List.not_mem_nil, or_false] at ha hb
    obtain ⟨i, rfl⟩ := Int.eq_ofNat_of_zero_le (show 0 ≤ a by omega)
    obtain ⟨m, rfl⟩ := Int.eq_ofNat_of_zero_le (show 0 ≤ b by omega)
    exact ⟨i, m, rfl, by omega, by omega, by omega⟩
theorem bad_at {p c : Addr} {H : Hp} {v : V} {s : String} {d : PyData} (h : Dg p c H v (bad s d)) : ∃ t y, v = .ref t ∧ At p c H t (.tup [.str (Str.ofString s), y]) ∧ Dg p c H y d := by
  unfold bad at h
  cases h with
  | tup at_ da =>
    cases da with
    | cons h1 r =>
      cases r with
      | cons h2 r =>
        cases r
        cases h1
        exact ⟨_, _, rfl, at_, h2⟩
theorem no_ret {s : Str} (h : s ≠ Str.ofString "returned") : decide (V.str s = V.str (Str.ofString "returned")) = false := decide_eq_false fun z => h (V.str.inj z)
theorem h66 {k : Nat} {A : Around} (hr : Room k A) : A.units + 66 < cLine := by have := hr.un; omega
def spLaw (Pt : Addr) (K : PySem.W.Frag) : Sp := fun vs H Q _ => ∃ (a : Addr) (ns : List Int), vs = [.ref a] ∧ SqL K H a (ns.map V.int) ∧ ns.length ≤ 63 ∧ LamX.Tabs [(Pt, qLam)] H ∧ ∀ H', Q (.bl true) H'
section
variable {P : Program} {w : World} {K : PySem.W.Frag} {mg : Str → Option Value} {base : Heap} {tr : Tok}
theorem ok_law {f fd1 fd2 fd3 fd4 fd5 fd6 fd7 fd8 fd9 cA Pt G : Addr} {cl : Nat → Addr} {fd e1 e2 e3 e4 e5 e6 e7 e8 e9 : FuncData} (F : Fn K mg "law" s_law ["_law_script"] f fd) (B : Con mg tr) (hcode : fd.code = .ref cA) (TB : LamX.TabB base mg cA Pt)
    (Ex : Exs K 4 cl G) (g0 : mg "BadBool" = some (.ref (cl 0))) (g1 : mg "BadMark" = some (.ref (cl 1))) (g2 : mg "BadNumber" = some (.ref (cl 2))) (g3 : mg "BadRule" = some (.ref (cl 3))) (gG : mg "GateError" = some (.ref G))
    (F__law_deck : Fn K mg "_law_deck" s__law_deck ["_law_script"] fd1 e1) (G__law_deck : FnOk P w K mg base CX0 1 fd1 e1 ["_law_script"] (spDeck K))
    (F__law_draw : Fn K mg "_law_draw" s__law_draw ["_law_deck_here", "_law_many"] fd2 e2) (G__law_draw : FnOk P w K mg base CX0 1 fd2 e2 ["_law_deck_here", "_law_many"] spDraw)
    (F__law_pick : Fn K mg "_law_pick" s__law_pick ["_law_deck_here", "_law_some"] fd3 e3) (G__law_pick : FnOk P w K mg base CX0 2 fd3 e3 ["_law_deck_here", "_law_some"] spPick)
    (F__law_is_rule : Fn K mg "_law_is_rule" s__law_is_rule ["_law_thing"] fd4 e4) (G__law_is_rule : FnOk P w K mg base CX0 2 fd4 e4 ["_law_thing"] spLRule)
    (F__law_is_mark : Fn K mg "_law_is_mark" s__law_is_mark ["_law_rule", "_law_thing"] fd5 e5) (G__law_is_mark : FnOk P w K mg base CX0 2 fd5 e5 ["_law_rule", "_law_thing"] spLMark)
    (F__law_near : Fn K mg "_law_near" s__law_near ["_law_deck_here", "_law_thing"] fd6 e6) (G__law_near : FnOk P w K mg base CX0 3 fd6 e6 ["_law_deck_here", "_law_thing"] spNear)
    (F__law_drawn_mark : Fn K mg "_law_drawn_mark" s__law_drawn_mark ["_law_deck_here", "_law_rule"] fd7 e7) (G__law_drawn_mark : FnOk P w K mg base CX0 4 fd7 e7 ["_law_deck_here", "_law_rule"] spDMark)
    (F__law_due : Fn K mg "_law_due" s__law_due ["_law_rule", "_law_mark", "_law_is_good", "_law_now"] fd8 e8) (G__law_due : FnOk P w K mg base CX0 3 fd8 e8 ["_law_rule", "_law_mark", "_law_is_good", "_law_now"] spLDue)
    (F__law_tried : Fn K mg "_law_tried" s__law_tried ["_law_call"] fd9 e9)
    {f10 f11 f12 f13 f14 : Addr} {d10 d11 d12 d13 d14 : FuncData} (F_is_health_rule : Fn K mg "is_health_rule" s_is_health_rule ["thing"] f10 d10) (G_is_health_rule : FnOk P w K mg base CX0 2 f10 d10 ["thing"] spRuleA) (K_is_health_rule_thing : KwB K d10 ["thing"] ["thing"] (fun u => u) (fun u => u))
    (F_is_mark : Fn K mg "is_mark" s_is_mark ["rule", "thing"] f11 d11) (G_is_mark : FnOk P w K mg base (L2N.CX P w) 4 f11 d11 ["rule", "thing"] (spMarkA (cl 3))) (Kmark : KwB K d11 ["rule", "thing"] ["thing", "rule"] List.reverse List.reverse)
    (F_looked : Fn K mg "looked" s_looked ["rule", "mark", "is_good", "now"] f12 d12) (G_looked : FnOk P w K mg base (L2N.CX P w) 5 f12 d12 ["rule", "mark", "is_good", "now"] (spLookedA (cl 3) (cl 1) (cl 0) (cl 2)))
    (F_is_due : Fn K mg "is_due" s_is_due ["rule", "mark", "now"] f13 d13) (G_is_due : FnOk P w K mg base (L2N.CX P w) 5 f13 d13 ["rule", "mark", "now"] (spDueA (cl 3) (cl 1) (cl 2)))
    (F_new_mark : Fn K mg "new_mark" s_new_mark ["rule"] f14 d14) (G_new_mark : FnOk P w K mg base (L2N.CX P w) 4 f14 d14 ["rule"] (spNewA (cl 3))) : FnG P w K mg base 8 f fd ["_law_script"] (spLaw Pt K) := by
  obtain ⟨ocg, odg, kVg, docg, pmg, ang, cdg, ctg, oslg, rfl, lkg, hcg⟩ := F__law_tried.F.ex
  refine okGc F.F sc_law (fun vs H Q E h => ?_) (fun A outer s H vs Q E hr hG h => ?_)
  · obtain ⟨a, ns, rfl, _⟩ := h
    rfl
  · obtain ⟨a, ns, rfl, hS, hl, hT, q⟩ := h
    rw [hcode] at hr hG ⊢
    refine ⟨_, (pss_cons (ps_set (i := 1) sc_law.nd rfl (.inl rfl) (pe_call G__law_deck (hr.mono (by decide)) (by rfl) F__law_deck.g F__law_deck.F.kp F__law_deck.b .nil pass0 (pa_cons (pv 0) pa_nil)))
      (pss_cons (ps_for PassesOwn.never rfl (pi_range1 (by rfl) B.n_range (pa_cons pe_int pa_nil)) (pg_name (i := 2) sc_law.nd rfl (Or.inl rfl))
      (pss_cons (ps_par (i := 3) (j := 4) (by rfl) sc_law.nd rfl rfl (by decide) rfl rfl (pa_cons (pe_call G__law_pick (hr.mono (by decide)) (by rfl) F__law_pick.g F__law_pick.F.kp F__law_pick.b .nil pass0 (pa_cons (pv 1) (pa_cons (pe_lst (pa_cons pe_int (pa_cons pe_int (pa_cons pe_int pa_nil)))) pa_nil))) (pa_cons (pe_callB cr_sortedI (by rfl) B.n_sorted (by decide +kernel) (pa_cons (pe_lst (pa_cons (pe_op op_add pe_int (pe_call G__law_draw (hr.mono (by decide)) (by rfl) F__law_draw.g F__law_draw.F.kp F__law_draw.b .nil pass0 (pa_cons (pv 1) (pa_cons pe_int pa_nil)))) (pa_cons (pe_op op_add pe_int (pe_call G__law_draw (hr.mono (by decide)) (by rfl) F__law_draw.g F__law_draw.F.kp F__law_draw.b .nil pass0 (pa_cons (pv 1) (pa_cons pe_int pa_nil)))) pa_nil))) pa_nil)) pa_nil)) (by rfl))
        (pss_cons (ps_set (i := 5) sc_law.nd rfl (.inr rfl) (pe_op op_catA (pe_tup (pa_cons (pe_op op_add pe_int (pe_call G__law_draw (hr.mono (by decide)) (by rfl) F__law_draw.g F__law_draw.F.kp F__law_draw.b .nil pass0 (pa_cons (pv 1) (pa_cons (pv 3) pa_nil)))) (pa_cons (pe_op op_add pe_int (pe_call G__law_draw (hr.mono (by decide)) (by rfl) F__law_draw.g F__law_draw.F.kp F__law_draw.b .nil pass0 (pa_cons (pv 1) (pa_cons (pv 3) pa_nil)))) pa_nil))) (pe_callTy call_tuple_of (by rfl) B.n_tuple (by decide +kernel) (pa_cons (pv 4) pa_nil))))
        (pss_cons (ps_set (i := 6) sc_law.nd rfl (.inl rfl) (pe_call G__law_near (hr.mono (by decide)) (by rfl) F__law_near.g F__law_near.F.kp F__law_near.b .nil pass0 (pa_cons (pv 1) (pa_cons (pv 5) pa_nil))))
        (pss_cons (ps_set (i := 7) sc_law.nd rfl (.inr rfl) (pe_call G__law_drawn_mark (hr.mono (by decide)) (by rfl) F__law_drawn_mark.g F__law_drawn_mark.F.kp F__law_drawn_mark.b .nil pass0 (pa_cons (pv 1) (pa_cons (pv 5) pa_nil))))
        (pss_cons (ps_if (pt_cmpR op_ne (pe_callB (call_repr_any (h66 hr) hG) (by rfl) B.n_repr (by decide +kernel) (pa_cons (pe_tup (pa_cons (pe_call G_is_health_rule (hr.mono (by decide)) (by rfl) F_is_health_rule.g F_is_health_rule.F.kp F_is_health_rule.b .nil pass0 (pa_cons (pv 6) pa_nil)) (pa_cons (pe_callKwG (FnG.of G_is_health_rule) (hr.mono (by decide)) hG (by rfl) F_is_health_rule.g F_is_health_rule.F.kp K_is_health_rule_thing (pk_cons (pv 5) pk_nil)) pa_nil))) pa_nil)) (pe_callB (call_repr_any (h66 hr) hG) (by rfl) B.n_repr (by decide +kernel) (pa_cons (pe_tup (pa_cons (pe_call G__law_is_rule (hr.mono (by decide)) (by rfl) F__law_is_rule.g F__law_is_rule.F.kp F__law_is_rule.b .nil pass0 (pa_cons (pv 6) pa_nil)) (pa_cons pe_bl pa_nil))) pa_nil)) (nomark _))
        (pss_one (ps_ret pe_bl))
        pss_nil)
        (pss_cons (ps_set (i := 5) sc_law.nd rfl (.inr rfl) (pe_ifMid (pt_cmpR op_eq (pe_call G__law_draw (hr.mono (by decide)) (by rfl) F__law_draw.g F__law_draw.F.kp F__law_draw.b .nil pass0 (pa_cons (pv 1) (pa_cons pe_int pa_nil))) pe_int (nomark _)) (pv 6) (pv 5)))
        (pss_cons (ps_set (i := 8) sc_law.nd rfl (.inl rfl) (pe_ifMid (pt_val (pe_call G__law_is_rule (hr.mono (by decide)) (by rfl) F__law_is_rule.g F__law_is_rule.F.kp F__law_is_rule.b .nil pass0 (pa_cons (pv 5) pa_nil))) (pe_tup (pa_cons pe_str (pa_cons (pe_call G__law_is_mark (hr.mono (by decide)) (by rfl) F__law_is_mark.g F__law_is_mark.F.kp F__law_is_mark.b .nil pass0 (pa_cons (pv 5) (pa_cons (pv 7) pa_nil))) pa_nil))) (pe_tup (pa_cons pe_str (pa_cons (pv 5) pa_nil)))))
        (pss_cons (ps_if (pt_cmpR op_ne (pe_callB (call_repr_any (h66 hr) hG) (by rfl) B.n_repr (by decide +kernel) (pa_cons (pe_lamN (TT := TTried cl) (T := [(Pt, qLam)]) (k := 5) (by rfl) F__law_tried.g F__law_tried.F.kp lkg hcg F__law_tried.b sc__law_tried rfl (.inl rfl) (ok_tried B.toBlt Ex g0 g1 g2 g3 gG) TB rfl (List.mem_singleton_self _) (fun y hy _ => (congrArg Prod.snd (List.mem_singleton.mp hy)).trans rfl) (hr.mono (by decide)) (LamX.lamS_by (sc := defScope s_law) (by decide +kernel)) (by rfl) (fun _ _ _ _ _ => by rfl) (fun _ _ _ _ _ _ _ hr2 => pe_call G_is_mark (hr2.mono (by decide)) (by rfl) F_is_mark.g F_is_mark.F.kp F_is_mark.b .nil (L2N.passes_call (L2N.takes_of rfl rfl rfl rfl) (fun _ _ _ _ h => h)) (pa_cons (pv 5) (pa_cons (pv 7) pa_nil)))) pa_nil)) (pe_callB (call_repr_any (h66 hr) hG) (by rfl) B.n_repr (by decide +kernel) (pa_cons (pv 8) pa_nil)) (nomark _))
        (pss_one (ps_ret pe_bl))
        pss_nil)
        (pss_cons (ps_if (pt_cmpR op_ne (pe_callB (call_repr_any (h66 hr) hG) (by rfl) B.n_repr (by decide +kernel) (pa_cons (pe_lamN (TT := TTried cl) (T := [(Pt, qLam)]) (k := 5) (by rfl) F__law_tried.g F__law_tried.F.kp lkg hcg F__law_tried.b sc__law_tried rfl (.inl rfl) (ok_tried B.toBlt Ex g0 g1 g2 g3 gG) TB rfl (List.mem_singleton_self _) (fun y hy _ => (congrArg Prod.snd (List.mem_singleton.mp hy)).trans rfl) (hr.mono (by decide)) (LamX.lamS_by (sc := defScope s_law) (by decide +kernel)) (by rfl) (fun _ _ _ _ _ => by rfl) (fun _ _ _ _ _ _ _ hr2 => pe_callKwX (ks := ["thing", "rule"]) (gV := List.reverse) G_is_mark (hr2.mono (by decide)) (by rfl) F_is_mark.g F_is_mark.F.kp Kmark (L2N.passes_call (L2N.takes_of rfl rfl rfl rfl) (fun _ _ _ _ h => h)) (pk_cons (pv 7) (pk_cons (pv 5) pk_nil)))) pa_nil)) (pe_callB (call_repr_any (h66 hr) hG) (by rfl) B.n_repr (by decide +kernel) (pa_cons (pv 8) pa_nil)) (nomark _))
        (pss_one (ps_ret pe_bl))
        pss_nil)
        (pss_cons (ps_set (i := 9) sc_law.nd rfl (.inr rfl) (pe_call G__law_pick (hr.mono (by decide)) (by rfl) F__law_pick.g F__law_pick.F.kp F__law_pick.b .nil pass0 (pa_cons (pv 1) (pa_cons (pe_lst (pa_cons pe_bl (pa_cons pe_bl (pa_cons pe_bl (pa_cons pe_bl (pa_cons pe_bl (pa_cons pe_bl (pa_cons pe_bl (pa_cons pe_non (pa_cons pe_int (pa_cons pe_str (pa_cons pe_int (pa_cons (pe_tup (pa_cons pe_bl pa_nil)) pa_nil))))))))))))) pa_nil))))
        (pss_cons (ps_set (i := 10) sc_law.nd rfl (.inr rfl) (pe_call G__law_pick (hr.mono (by decide)) (by rfl) F__law_pick.g F__law_pick.F.kp F__law_pick.b .nil pass0 (pa_cons (pv 1) (pa_cons (pe_lst (pa_cons pe_int (pa_cons pe_int (pa_cons pe_int (pa_cons pe_int (pa_cons pe_int (pa_cons (pe_call G__law_draw (hr.mono (by decide)) (by rfl) F__law_draw.g F__law_draw.F.kp F__law_draw.b .nil pass0 (pa_cons (pv 1) (pa_cons (pe_op op_pow pe_int pe_int) pa_nil))) (pa_cons pe_int (pa_cons pe_int (pa_cons (pe_op op_pow pe_int pe_int) (pa_cons pe_bl (pa_cons pe_non (pa_cons (pe_un un_neg pe_int) (pa_cons pe_str (pa_cons (pe_tup (pa_cons pe_int pa_nil)) pa_nil))))))))))))))) pa_nil))))
        (pss_cons (ps_if (pt_cmpR op_ne (pe_callB (call_repr_any (h66 hr) hG) (by rfl) B.n_repr (by decide +kernel) (pa_cons (pe_lamN (TT := TTried cl) (T := [(Pt, qLam)]) (k := 5) (by rfl) F__law_tried.g F__law_tried.F.kp lkg hcg F__law_tried.b sc__law_tried rfl (.inl rfl) (ok_tried B.toBlt Ex g0 g1 g2 g3 gG) TB rfl (List.mem_singleton_self _) (fun y hy _ => (congrArg Prod.snd (List.mem_singleton.mp hy)).trans rfl) (hr.mono (by decide)) (LamX.lamS_by (sc := defScope s_law) (by decide +kernel)) (by rfl) (fun _ _ _ _ _ => by rfl) (fun _ _ _ _ _ _ _ hr2 => pe_call G_looked (hr2.mono (by decide)) (by rfl) F_looked.g F_looked.F.kp F_looked.b .nil (L2N.passes_call (L2N.takes_of rfl rfl rfl rfl) (fun _ _ _ _ h => h)) (pa_cons (pv 5) (pa_cons (pv 7) (pa_cons (pv 9) (pa_cons (pv 10) pa_nil)))))) pa_nil)) (pe_callB (call_repr_any (h66 hr) hG) (by rfl) B.n_repr (by decide +kernel) (pa_cons (pe_call G__law_due (hr.mono (by decide)) (by rfl) F__law_due.g F__law_due.F.kp F__law_due.b .nil pass0 (pa_cons (pv 5) (pa_cons (pv 7) (pa_cons (pv 9) (pa_cons (pv 10) pa_nil))))) pa_nil)) (nomark _))
        (pss_one (ps_ret pe_bl))
        pss_nil)
        (pss_cons (ps_set (i := 8) sc_law.nd rfl (.inl rfl) (pe_call G__law_due (hr.mono (by decide)) (by rfl) F__law_due.g F__law_due.F.kp F__law_due.b .nil pass0 (pa_cons (pv 5) (pa_cons (pv 7) (pa_cons pe_bl (pa_cons (pv 10) pa_nil))))))
        (pss_cons (ps_set (i := 8) sc_law.nd rfl (.inl rfl) (pe_ifMid (pt_cmpR op_eq (pe_ix ix_tup (pv 8) pe_int (fun _ _ => rfl)) pe_str (nomark _)) (pe_tup (pa_cons pe_str (pa_cons (pe_cmpR op_ge (pv 10) (pe_ix ix_tup (pv 7) pe_int (fun _ _ => rfl)) (nomark _)) pa_nil))) (pv 8)))
        (pss_cons (ps_if (pt_cmpR op_ne (pe_callB (call_repr_any (h66 hr) hG) (by rfl) B.n_repr (by decide +kernel) (pa_cons (pe_lamN (TT := TTried cl) (T := [(Pt, qLam)]) (k := 5) (by rfl) F__law_tried.g F__law_tried.F.kp lkg hcg F__law_tried.b sc__law_tried rfl (.inl rfl) (ok_tried B.toBlt Ex g0 g1 g2 g3 gG) TB rfl (List.mem_singleton_self _) (fun y hy _ => (congrArg Prod.snd (List.mem_singleton.mp hy)).trans rfl) (hr.mono (by decide)) (LamX.lamS_by (sc := defScope s_law) (by decide +kernel)) (by rfl) (fun _ _ _ _ _ => by rfl) (fun _ _ _ _ _ _ _ hr2 => pe_call G_is_due (hr2.mono (by decide)) (by rfl) F_is_due.g F_is_due.F.kp F_is_due.b .nil (L2N.passes_call (L2N.takes_of rfl rfl rfl rfl) (fun _ _ _ _ h => h)) (pa_cons (pv 5) (pa_cons (pv 7) (pa_cons (pv 10) pa_nil))))) pa_nil)) (pe_callB (call_repr_any (h66 hr) hG) (by rfl) B.n_repr (by decide +kernel) (pa_cons (pv 8) pa_nil)) (nomark _))
        (pss_one (ps_ret pe_bl))
        pss_nil)
        (pss_cons (ps_set (i := 8) sc_law.nd rfl (.inl rfl) (pe_ifMid (pt_val (pe_call G__law_is_rule (hr.mono (by decide)) (by rfl) F__law_is_rule.g F__law_is_rule.F.kp F__law_is_rule.b .nil pass0 (pa_cons (pv 5) pa_nil))) (pe_tup (pa_cons pe_str (pa_cons (pe_tup (pa_cons pe_bl (pa_cons pe_int (pa_cons (pe_ix ix_tup (pv 5) pe_int (fun _ _ => rfl)) (pa_cons (pe_ix ix_tup (pv 5) pe_int (fun _ _ => rfl)) pa_nil))))) pa_nil))) (pe_tup (pa_cons pe_str (pa_cons (pv 5) pa_nil)))))
        (pss_one (ps_if (pt_cmpR op_ne (pe_callB (call_repr_any (h66 hr) hG) (by rfl) B.n_repr (by decide +kernel) (pa_cons (pe_lamN (TT := TTried cl) (T := [(Pt, qLam)]) (k := 5) (by rfl) F__law_tried.g F__law_tried.F.kp lkg hcg F__law_tried.b sc__law_tried rfl (.inl rfl) (ok_tried B.toBlt Ex g0 g1 g2 g3 gG) TB rfl (List.mem_singleton_self _) (fun y hy _ => (congrArg Prod.snd (List.mem_singleton.mp hy)).trans rfl) (hr.mono (by decide)) (LamX.lamS_by (sc := defScope s_law) (by decide +kernel)) (by rfl) (fun _ _ _ _ _ => by rfl) (fun _ _ _ _ _ _ _ hr2 => pe_call G_new_mark (hr2.mono (by decide)) (by rfl) F_new_mark.g F_new_mark.F.kp F_new_mark.b .nil (L2N.passes_call (L2N.takes_of rfl rfl rfl rfl) (fun _ _ _ _ h => h)) (pa_cons (pv 5) pa_nil))) pa_nil)) (pe_callB (call_repr_any (h66 hr) hG) (by rfl) B.n_repr (by decide +kernel) (pa_cons (pv 8) pa_nil)) (nomark _))
        (pss_one (ps_ret pe_bl))
        pss_nil)))))))))))))))))))
      (pss_one (ps_ret pe_bl)))), ?_⟩
    refine ⟨_, rfl, a, ns, rfl, hS, hl, fun p c H1 hp1 hc1 s1 dk1 => ?_⟩
    refine ⟨8, rfl, by decide, by decide, ?_⟩
    refine for_range (lo := 0) (n := (8 : Int).toNat) (fun _ σ H' => ∃ x2 x3 x4 x5 x6 x7 x8 x9 x10, σ = [some (.ref a), some (.ref p), x2, x3, x4, x5, x6, x7, x8, x9, x10] ∧ Dk p c H' ∧ LamX.Tabs [(Pt, qLam)] H') ⟨_, _, _, _, _, _, _, _, _, rfl, dk1, hT.ext s1⟩ ?_ fun σ H' _ => q H'
    rintro tn σ H2 _ ⟨x2, x3, x4, x5, x6, x7, x8, x9, x10, rfl, dk2, T2⟩
    have again : ∀ (x2 x3 x4 x5 x6 x7 x8 x9 x10 : Option V) (H' : Hp), Gt p c Pt H2 H' → ∃ y2 y3 y4 y5 y6 y7 y8 y9 y10, [some (.ref a), some (.ref p), x2, x3, x4, x5, x6, x7, x8, x9, x10] = [some (.ref a), some (.ref p), y2, y3, y4, y5, y6, y7, y8, y9, y10] ∧ Dk p c H' ∧ LamX.Tabs [(Pt, qLam)] H' := fun x2 x3 x4 x5 x6 x7 x8 x9 x10 H' g => ⟨x2, x3, x4, x5, x6, x7, x8, x9, x10, rfl, g.2.1, g.2.2⟩
    have smI : ∀ k : Nat, 1 ≤ k → k ≤ 99 → (fun d => ∃ n : Nat, 1 ≤ n ∧ n ≤ 99 ∧ d = PyData.int n) (.int (k : Int)) := fun k h1 h2 => ⟨k, h1, h2, rfl⟩
    refine ⟨_, rfl, ?_⟩
    dsimp only
    refine mk_list (p := p) (c := c) (P := fun d => ∃ n : Nat, 1 ≤ n ∧ n ≤ 99 ∧ d = PyData.int n) (n := 3) dk2.hp dk2.hc (.cons (.cst (.int 2) (smI 2 (by decide) (by decide))) (.cons (.cst (.int 4) (smI 4 (by decide) (by decide))) (.cons (.cst (.int 99) (smI 99 (by decide) (by decide))) .nil))) (by decide) fun l vs es H3 s3 hl3 hes hok hn => ?_
    refine ⟨p, c, _, rfl, dk2.same s3, .inl ⟨l, vs, rfl, hl3, by omega, by omega, fun k x H4 hx g4 => ?_⟩⟩
    obtain ⟨e, he, hx⟩ := hes.at_ hx
    obtain ⟨most, m1, m9, rfl⟩ := hok e (List.mem_of_getElem? he)
    cases hx
    have g4 := (Gx.same dk2 s3).trans g4
    refine ⟨_, rfl, p, c, 12, rfl, g4.2, by decide, by decide, fun z1 H5 l1 g5 => ⟨_, _, rfl, rfl, _, rfl, p, c, 99, rfl, g5.2, by decide, by decide, fun z2 H6 l2 g6 => ⟨_, _, rfl, rfl, sz (Nat.le_of_ble_eq_true rfl), fun L hL => ?_⟩⟩⟩
    have g6 := (g4.trans g5).trans g6
    have s7 := same_new (o := .lst [.int (1 + (z1 : Int)), .int (1 + (z2 : Int))]) hL
    refine ⟨L, [1 + (z1 : Int), 1 + (z2 : Int)], rfl, SqL.of upd_same, fun ns' W hperm hsort hW => ?_⟩
    obtain ⟨i, m, rfl, i1, im, m9'⟩ := two_sorted hperm hsort (by omega) (by omega)
    have g8 := g6.trans (Gx.same g6.2 (s7.trans (same_new (o := .lst ([(i : Int), (m : Int)].map V.int)) hW)))
    have a8 : At p c (upd (upd H6 L (.lst [.int (1 + (z1 : Int)), .int (1 + (z2 : Int))])) W (.lst ([(i : Int), (m : Int)].map V.int))) W (.lst [.int (i : Int), .int (m : Int)]) := at_new (has_same s7 g6.2.hp) (has_same s7 g6.2.hc) hW
    generalize upd (upd H6 L (.lst [.int (1 + (z1 : Int)), .int (1 + (z2 : Int))])) W (.lst ([(i : Int), (m : Int)].map V.int)) = H8 at g8 a8 ⊢
    refine ⟨_, _, rfl, ?_⟩
    -- the rule
    refine ⟨_, rfl, _, rfl, p, c, _, rfl, g8.2, by omega, by omega, fun z3 H9 l3 g9 => ⟨_, _, rfl, rfl, _, rfl, _, rfl, p, c, _, rfl, g9.2, by omega, by omega, fun z4 Ha l4 ga => ⟨_, _, rfl, rfl, sz (Nat.le_of_ble_eq_true rfl), fun t ht => ?_⟩⟩⟩
    have ga' := g9.trans ga
    have a8 := a8.gx ga'
    have ga := g8.trans ga'
    have sb := same_new (o := .tup [.int (1 + (z3 : Int)), .int (1 + (z4 : Int))]) ht
    have ab : At p c (upd Ha t (.tup [.int (1 + (z3 : Int)), .int (1 + (z4 : Int))])) t (.tup [.int (1 + (z3 : Int)), .int (1 + (z4 : Int))]) := at_new ga.2.hp ga.2.hc ht
    have gb := ga.trans (Gx.same ga.2 sb)
    have a8 := a8.sm sb
    generalize upd Ha t (.tup [.int (1 + (z3 : Int)), .int (1 + (z4 : Int))]) = Hb at gb ab a8 ⊢
    refine ⟨_, rfl, W, _, rfl, .inl ⟨SqL.of a8.2.2, fun u hu => ?_⟩⟩
    have sc := same_new (o := .tup [.int (i : Int), .int (m : Int)]) hu
    refine cat_g (has_same sc gb.2.hp) (has_same sc gb.2.hc) (ab.sm sc) (at_new gb.2.hp gb.2.hc hu) (Nat.le_of_ble_eq_true rfl) fun ar Hc sc2 hc => ?_
    have gc := gb.trans (Gx.same gb.2 (sc.trans sc2))
    obtain ⟨r, er, r1, r9⟩ : ∃ r : Nat, 1 + (z3 : Int) = (r : Int) ∧ 1 ≤ r ∧ r ≤ 99 := ⟨1 + z3, by simp, by omega, by omega⟩
    obtain ⟨fl, ef, f1, f9⟩ : ∃ fl : Nat, 1 + (z4 : Int) = (fl : Int) ∧ 1 ≤ fl ∧ fl ≤ 99 := ⟨1 + z4, by simp, by omega, by omega⟩
    rw [er, ef] at hc
    have Rc : Rl r fl i m ar Hc := ⟨hc.2.2, r1, r9, f1, f9, i1, im, m9'⟩
    have gtc := (Gt.refl dk2 T2).gx gc
    clear gc gb ga ga' g9 g8 g6 g5 g4
    -- a thing near it, and a mark
    have dRc := Rc.dg hc.1 hc.2.1
    refine ⟨_, rfl, _, rfl, p, c, ar, _, _, rfl, gtc.2.1, hc, .cons (.int _) (.cons (.int _) (.cons (.int _) (.cons (.int _) .nil))), rfl, fun d hd => ?_, fun vo dO Hd gd hO okO => ?_⟩
    · simp only [List.mem_cons, List.not_mem_nil, or_false] at hd
      rcases hd with rfl | rfl | rfl | rfl
      · exact .inl ⟨r, by omega, rfl⟩
      · exact .inl ⟨fl, by omega, rfl⟩
      · exact .inl ⟨i, by omega, rfl⟩
      · exact .inl ⟨m, by omega, rfl⟩
    have gtd := gtc.gx gd
    refine ⟨_, rfl, _, rfl, p, c, ar, r, fl, i, m, rfl, gd.2, Rc.gx hc.1 hc.2.1 gd, hc.1, hc.2.1, fun vm dM He ge hM okM => ?_⟩
    have gte := gtd.gx ge
    have hO := hO.to ge.1
    have hRu : Dg p c He (.ref ar) (rlD r fl i m) := (dRc.to gd.1).to ge.1
    have okR : OkD (rlD r fl i m) := ⟨false, (Gd.tup (n := 0) (b := 4) (.cons (b1 := 0) (b2 := 3) (.int (okI (by omega) (by omega))) (.cons (b1 := 0) (b2 := 2) (.int (okI (by omega) (by omega))) (.cons (b1 := 0) (b2 := 1) (.int (okI (by omega) (by omega))) (.cons (b1 := 0) (b2 := 0) (.int (okI (by omega) (by omega))) .nil (by decide)) (by decide)) (by decide)) (by decide)) (Nat.le_of_ble_eq_true rfl)).mono (by decide) (by decide)⟩
    have rR : ruleB (rlD r fl i m) = true := rule_I Rc
    have pairB : ∀ x y : Bool, ShD (.tuple [.bool x, .bool y]) := fun x y => ⟨false, (Gd.tup (n := 0) (b := 2) (.cons (b1 := 0) (b2 := 1) .bl (.cons (b1 := 0) (b2 := 0) .bl .nil (by decide)) (by decide)) (Nat.le_of_ble_eq_true rfl)).mono (by decide) (by decide)⟩
    refine ⟨_, rfl, p, c, vo, dO, rfl, hO, fun Hf sf => ⟨_, rfl, rfl, p, c, _, _, rfl, hRu.to (Kp.same sf), fun Hg sg => ⟨sz (Nat.le_of_ble_eq_true rfl), fun t2 ht2 => ?_⟩⟩⟩
    have gtg := (gte.same sf).same sg
    have gth := gtg.same (same_new (o := .tup [.bl (ruleB dO), .bl (ruleB (rlD r fl i m))]) ht2)
    have ft1 := (pairB (ruleB dO) (ruleB (rlD r fl i m))).fit
    refine ⟨_, .tuple [.bool (ruleB dO), .bool (ruleB (rlD r fl i m))], p, c, rfl, .tup (at_new gtg.2.1.hp gtg.2.1.hc ht2) (.cons (.bl _) (.cons (.bl _) .nil)), ft1.1, ft1.2.1, ft1.2.2.1, ft1.2.2.2, ?_⟩
    have sh := (sf.trans sg).trans (same_new (o := .tup [.bl (ruleB dO), .bl (ruleB (rlD r fl i m))]) ht2)
    generalize upd Hg t2 (.tup [.bl (ruleB dO), .bl (ruleB (rlD r fl i m))]) = Hh at gth sh ⊢
    refine ⟨_, rfl, p, c, vo, dO, rfl, hO.to (Kp.same sh), fun Hi si => ⟨sz (Nat.le_of_ble_eq_true rfl), fun t3 ht3 => ?_⟩⟩
    have gti := gth.same si
    have gtj := gti.same (same_new (o := .tup [.bl (ruleB dO), .bl true]) ht3)
    have ft2 := (pairB (ruleB dO) true).fit
    refine ⟨_, .tuple [.bool (ruleB dO), .bool true], p, c, rfl, .tup (at_new gti.2.1.hp gti.2.1.hc ht3) (.cons (.bl _) (.cons (.bl _) .nil)), ft2.1, ft2.2.1, ft2.2.2.1, ft2.2.2.2, ?_⟩
    have sj := (sh.trans si).trans (same_new (o := .tup [.bl (ruleB dO), .bl true]) ht3)
    generalize upd Hi t3 (.tup [.bl (ruleB dO), .bl true]) = Hj at gtj sj ⊢
    refine ⟨rfl, _, rfl, ?_⟩
    rw [rR, decide_eq_true rfl]
    refine iteF ?_
    have hOj := hO.to (Kp.same sj)
    have hRj := hRu.to (Kp.same sj)
    have hMj := hM.to (Kp.same sj)
    -- the rule, or the thing near it
    refine ⟨fun v H' => Gx p c Hj H' ∧ (v = vo ∨ v = .ref ar), fun Q' hQ => ?_, ?_⟩
    · exact ⟨_, rfl, p, c, 8, rfl, gtj.2.1, by decide, by decide, fun z H' _ g => ⟨rfl, _, rfl, ite2 (fun _ => ⟨_, rfl, hQ _ _ ⟨g, .inl rfl⟩⟩) (fun _ => ⟨_, rfl, hQ _ _ ⟨g, .inr rfl⟩⟩)⟩⟩
    rintro v5 Hk ⟨gk, hv5⟩
    obtain ⟨d5, h5, ok5⟩ : ∃ d5, Dg p c Hk v5 d5 ∧ OkD d5 := by
      rcases hv5 with rfl | rfl
      · exact ⟨_, hOj.to gk.1, okO⟩
      · exact ⟨_, hRj.to gk.1, okR⟩
    have hM := hMj.to gk.1
    have g := gtj.gx gk
    clear gk hv5 hOj hRj hMj gtj gti gth gtg gte gtd gtc hO hRu dRc hc Rc
    -- is_mark
    refine ⟨fun v H' => Same Hk H' ∧ ∃ D, Dg p c H' v D ∧ MarkD d5 dM D, fun Q' hQ => ?_, ?_⟩
    · refine ⟨_, rfl, p, c, v5, d5, rfl, h5, fun Hl sl => ⟨_, rfl, ?_⟩⟩
      have gl := g.same sl
      cases hr5 : ruleB d5 with
      | false => exact iteF ⟨_, rfl, sz (Nat.le_of_ble_eq_true rfl), fun t ht => hQ _ _ ⟨sl.trans (same_new ht), _, told_dg (s := "BadRule") gl.2.1 ht upd_same (h5.to (Kp.same (sl.trans (same_new ht)))), .inl ⟨hr5, rfl⟩⟩⟩
      | true =>
        obtain ⟨ra, r', f', i', m', rfl, rfl, R', _⟩ := rule_E h5 hr5
        exact iteT ⟨_, rfl, _, rfl, p, c, ra, r', f', i', m', vm, dM, rfl, R'.to sl, hM.to (Kp.same sl), okM.far, fun b Hm sm hb => ⟨sz (Nat.le_of_ble_eq_true rfl), fun t ht => hQ _ _ ⟨(sl.trans sm).trans (same_new ht), _, told_dg (s := "returned") (gl.same sm).2.1 ht upd_same (.bl b), .inr ⟨r', f', i', m', rfl, hr5, b, hb, rfl⟩⟩⟩⟩
    rintro v8 Hl ⟨sl, D8, h8, mk8⟩
    have g := g.same sl
    have h5 := h5.to (Kp.same sl)
    have hM := hM.to (Kp.same sl)
    have ft8 := (mk8.sh ok5).fit
    refine lam_mark (Pt := Pt) (H := Hl) (Gt.refl g.2.1 g.2.2) rfl rfl h5 hM fun v D G gG hd hm => ?_
    have eD := hm.uniq mk8
    subst eD
    refine ⟨_, D, p, c, rfl, hd, ft8.1, ft8.2.1, ft8.2.2.1, ft8.2.2.2, _, rfl, _, D, p, c, rfl, h8.kt gG.1, ft8.1, ft8.2.1, ft8.2.2.1, ft8.2.2.2, rfl, _, rfl, ?_⟩
    rw [decide_eq_true rfl]
    refine iteF ?_
    have h5 := h5.kt gG.1
    have hM := hM.kt gG.1
    have h8 := h8.kt gG.1
    have g := g.trans gG
    refine lam_markK (Pt := Pt) (H := G) (Gt.refl g.2.1 g.2.2) rfl rfl h5 hM fun v' D' G' gG hdK hm' => ?_
    have eD := hm'.uniq mk8
    subst eD
    refine ⟨_, D', p, c, rfl, hdK, ft8.1, ft8.2.1, ft8.2.2.1, ft8.2.2.2, _, rfl, _, D', p, c, rfl, h8.kt gG.1, ft8.1, ft8.2.1, ft8.2.2.1, ft8.2.2.2, rfl, _, rfl, ?_⟩
    rw [decide_eq_true rfl]
    refine iteF ?_
    have h5 := h5.kt gG.1
    have hM := hM.kt gG.1
    have g := g.trans gG
    clear hd hdK hm hm' h8 mk8 ft8
    -- is_good, now
    refine ⟨_, rfl, ?_⟩
    dsimp only
    refine mk_list (p := p) (c := c) (P := OkD) (n := 12) g.2.1.hp g.2.1.hc (.cons (.cst (.bl _) ⟨false, .bl⟩) (.cons (.cst (.bl _) ⟨false, .bl⟩) (.cons (.cst (.bl _) ⟨false, .bl⟩) (.cons (.cst (.bl _) ⟨false, .bl⟩) (.cons (.cst (.bl _) ⟨false, .bl⟩) (.cons (.cst (.bl _) ⟨false, .bl⟩) (.cons (.cst (.bl _) ⟨false, .bl⟩) (.cons (.cst .non ⟨false, .non⟩) (.cons (.cst (.int 1) ⟨false, .int (by decide)⟩) (.cons (.cst (.str _) ⟨false, .str (by decide +kernel) (by decide +kernel)⟩) (.cons (.cst (.int 0) ⟨false, .int (by decide)⟩) (.cons
      (.tup (P := fun d => Gd false d 1 100) (n := 1) g.2.1.hp g.2.1.hc (.cons (.cst (.bl _) .bl) .nil) (by decide) fun es hl hG => by
          match es, hl with
          | [e], _ => exact ⟨false, (Gd.tup (n := 1) (b := 101) (.cons (b1 := 100) (b2 := 0) (hG e List.mem_cons_self) .nil (by decide)) (Nat.le_of_ble_eq_true rfl)).mono (by decide) (by decide)⟩) .nil)))))))))))) (by decide) fun lg vsg esg Hn sn hlg hesg hokg hng => ?_
    refine ⟨p, c, _, rfl, g.2.1.same sn, .inl ⟨lg, vsg, rfl, hlg, by omega, by omega, fun kg xg Ho hxg go => ?_⟩⟩
    obtain ⟨dG, hdG, hG⟩ := hesg.at_ hxg
    have okG := hokg dG (List.mem_of_getElem? hdG)
    have hG := hG.to go.1
    have gn := (Gx.same g.2.1 sn).trans go
    have h5 := h5.to gn.1
    have hM := hM.to gn.1
    have g := g.gx gn
    refine ⟨_, rfl, _, rfl, _, _, rfl, rfl, ⟨by decide, by decide, by decide⟩, p, c, _, rfl, g.2.1, by decide +kernel, by decide +kernel, fun zn Hp lzn gp => ?_⟩
    have hG := hG.to gp.1
    have h5 := h5.to gp.1
    have hM := hM.to gp.1
    have g := g.gx gp
    refine ⟨_, _, rfl, rfl, ⟨by decide, by decide, by decide⟩, _, rfl, sz (Nat.le_of_ble_eq_true rfl), fun t1 ht1 => ⟨sz (Nat.le_of_ble_eq_true rfl), fun l1 hl1 => ?_⟩⟩
    have st1 := same_new (o := .tup [.int 1]) ht1
    have at1 := at_new (o := .tup [.int 1]) g.2.1.hp g.2.1.hc ht1
    have gt1 := g.same st1
    have st2 := st1.trans (same_new (o := .lst [.int 0, .int 5, .int 3, .int 99, .int 1000, .int (zn : Int), .int 7, .int 2, .int (10 ^ (39 : Int).toNat), .bl true, .non, .int (-1), .str (Str.ofString "1"), .ref t1]) hl1)
    have at2 : At p c (upd (upd Hp t1 (.tup [.int 1])) l1 (.lst [.int 0, .int 5, .int 3, .int 99, .int 1000, .int (zn : Int), .int 7, .int 2, .int (10 ^ (39 : Int).toNat), .bl true, .non, .int (-1), .str (Str.ofString "1"), .ref t1])) l1 (.lst [.int 0, .int 5, .int 3, .int 99, .int 1000, .int (zn : Int), .int 7, .int 2, .int (10 ^ (39 : Int).toNat), .bl true, .non, .int (-1), .str (Str.ofString "1"), .ref t1]) := at_new gt1.2.1.hp gt1.2.1.hc hl1
    have g := g.same st2
    have dt1 : Dg p c (upd (upd Hp t1 (.tup [.int 1])) l1 (.lst [.int 0, .int 5, .int 3, .int 99, .int 1000, .int (zn : Int), .int 7, .int 2, .int (10 ^ (39 : Int).toNat), .bl true, .non, .int (-1), .str (Str.ofString "1"), .ref t1])) (.ref t1) (.tuple [.int 1]) := .tup (at1.sm (same_new hl1)) (.cons (.int 1) .nil)
    generalize (upd (upd Hp t1 (.tup [.int 1])) l1 (.lst [.int 0, .int 5, .int 3, .int 99, .int 1000, .int (zn : Int), .int 7, .int 2, .int (10 ^ (39 : Int).toNat), .bl true, .non, .int (-1), .str (Str.ofString "1"), .ref t1])) = Hq at at2 dt1 g st2 ⊢
    have daN : DgA p c Hq [.int 0, .int 5, .int 3, .int 99, .int 1000, .int (zn : Int), .int 7, .int 2, .int (10 ^ (39 : Int).toNat), .bl true, .non, .int (-1), .str (Str.ofString "1"), .ref t1] [PyData.int 0, PyData.int 5, PyData.int 3, PyData.int 99, PyData.int 1000, PyData.int (zn : Int), PyData.int 7, PyData.int 2, PyData.int (10 ^ 39), PyData.bool true, PyData.none, PyData.int (-1), PyData.str (Str.ofString "1"), PyData.tuple [.int 1]] := (.cons (.int _) (.cons (.int _) (.cons (.int _) (.cons (.int _) (.cons (.int _) (.cons (.int _) (.cons (.int _) (.cons (.int _) (.cons (.int _) (.cons (.bl _) (.cons (.non) (.cons (.int _) (.cons (.str _) (.cons (dt1) .nil))))))))))))))
    have okN : ∀ d ∈ [PyData.int 0, PyData.int 5, PyData.int 3, PyData.int 99, PyData.int 1000, PyData.int (zn : Int), PyData.int 7, PyData.int 2, PyData.int (10 ^ 39), PyData.bool true, PyData.none, PyData.int (-1), PyData.str (Str.ofString "1"), PyData.tuple [.int 1]], NowD d := by
      have nI : ∀ k : Int, -1 ≤ k → k ≤ 10 ^ 39 → NowD (.int k) := fun k h0 h1 => ⟨⟨false, .int (okI h0 (by omega))⟩, fun n e => by cases e; exact h1⟩
      intro d hd
      simp only [List.mem_cons, List.not_mem_nil, or_false] at hd
      rcases hd with rfl | rfl | rfl | rfl | rfl | rfl | rfl | rfl | rfl | rfl | rfl | rfl | rfl | rfl
      · exact nI _ (by decide) (by decide)
      · exact nI _ (by decide) (by decide)
      · exact nI _ (by decide) (by decide)
      · exact nI _ (by decide) (by decide)
      · exact nI _ (by decide) (by decide)
      · exact nI _ (by omega) (by have : (zn : Int) < 10 ^ (6 : Int).toNat := lzn; have e : (10 : Int) ^ (6 : Int).toNat = 1000000 := by decide +kernel
                                  omega)
      · exact nI _ (by decide) (by decide)
      · exact nI _ (by decide) (by decide)
      · exact nI _ (by decide) (by decide)
      · exact ⟨⟨false, .bl⟩, fun n e => by cases e⟩
      · exact ⟨⟨false, .non⟩, fun n e => by cases e⟩
      · exact nI _ (by decide) (by decide)
      · exact ⟨⟨false, .str (by decide +kernel) (by decide +kernel)⟩, fun n e => by cases e⟩
      · exact ⟨⟨false, (Gd.tup (n := 0) (b := 1) (.cons (b1 := 0) (b2 := 0) (.int (by decide)) .nil (by decide)) (Nat.le_of_ble_eq_true rfl)).mono (by decide) (by decide)⟩, fun n e => by cases e⟩
    refine ⟨p, c, _, rfl, g.2.1, .inl ⟨l1, _, rfl, at2, Nat.le_of_ble_eq_true rfl, Nat.le_of_ble_eq_true rfl, fun kn xn Hr hxn gr => ?_⟩⟩
    obtain ⟨dN, hdN, hN⟩ := daN.at_ hxn
    have okN := okN dN (List.mem_of_getElem? hdN)
    have hN := hN.to gr.1
    have hG := (hG.to (Kp.same st2)).to gr.1
    have h5 := (h5.to (Kp.same st2)).to gr.1
    have hM := (hM.to (Kp.same st2)).to gr.1
    have g := g.gx gr
    -- looked
    refine lam_looked (Pt := Pt) (H := Hr) (Gt.refl g.2.1 g.2.2) rfl rfl rfl rfl h5 hM hG hN fun vl Dl Gl gl hdl hml => ?_
    have ftl := (hml.sh ok5 okM okG okN).fit
    refine ⟨_, Dl, p, c, rfl, hdl, ftl.1, ftl.2.1, ftl.2.2.1, ftl.2.2.2, ?_⟩
    have g := g.trans gl
    have h5 := h5.kt gl.1
    have hM := hM.kt gl.1
    have hN := hN.kt gl.1
    refine ⟨_, rfl, _, rfl, _, rfl, _, rfl, p, c, v5, d5, vm, dM, xg, dG, xn, dN, rfl, g.2.1.hp, g.2.1.hc, h5, hM, hG.kt gl.1, hN, okM.far, okN.1.far1, fun vw Dw Hs ss hmw hw => ?_⟩
    have eD := hmw.uniq hml
    subst eD
    refine ⟨_, Dw, p, c, rfl, hw, ftl.1, ftl.2.1, ftl.2.2.1, ftl.2.2.2, rfl, _, rfl, ?_⟩
    rw [decide_eq_true rfl]
    refine iteF ?_
    have g := g.same ss
    have h5 := h5.to (Kp.same ss)
    have hM := hM.to (Kp.same ss)
    have hN := hN.to (Kp.same ss)
    clear hdl hml hmw hw
    -- is_due
    refine ⟨_, rfl, _, rfl, _, rfl, p, c, v5, d5, vm, dM, .bl true, .bool true, xn, dN, rfl, g.2.1.hp, g.2.1.hc, h5, hM, .bl true, hN, okM.far, okN.1.far1, fun vd Dd Ht st hmd hd => ?_⟩
    have g := g.same st
    have h5 := h5.to (Kp.same st)
    have hM := hM.to (Kp.same st)
    have hN := hN.to (Kp.same st)
    refine ⟨fun v H' => Same Ht H' ∧ ∃ D, Dg p c H' v D ∧ WhenD d5 dM dN D, fun Q' hQ => ?_, ?_⟩
    · have key : (∃ (s : String) (x : PyData), Dd = bad s x ∧ Str.ofString s ≠ Str.ofString "returned" ∧ WhenD d5 dM dN (bad s x)) ∨ (∃ r' f' i' m', d5 = rlD r' f' i' m' ∧ ruleB d5 = true ∧ ∃ u rn wt du, dM = mkD u rn wt du ∧ markP r' f' i' m' dM ∧ ∃ (nw : Int) (x : PyData), dN = .int nw ∧ 0 ≤ nw ∧ Dd = bad "returned" x) := by
        rcases hmd with ⟨a1, e⟩ | ⟨r', f', i', m', a1, a2, ⟨a3, e⟩ | ⟨u, rn, wt, du, a3, a4, ⟨a5, e⟩ | ⟨gb, a5, ⟨a6, e⟩ | ⟨nw, a6, a7, e⟩⟩⟩⟩
        · exact .inl ⟨_, _, e, by decide +kernel, .inl ⟨a1, rfl⟩⟩
        · exact .inl ⟨_, _, e, by decide +kernel, .inr ⟨r', f', i', m', a1, a2, .inl ⟨a3, rfl⟩⟩⟩
        · exact absurd a5 (by decide)
        · exact .inl ⟨_, _, e, by decide +kernel, .inr ⟨r', f', i', m', a1, a2, .inr ⟨u, rn, wt, du, a3, a4, .inl ⟨a6, rfl⟩⟩⟩⟩
        · exact .inr ⟨r', f', i', m', a1, a2, u, rn, wt, du, a3, a4, nw, _, a6, a7, e⟩
      rcases key with ⟨s, x, e, ne, hw⟩ | ⟨r', f', i', m', a1, a2, u, rn, wt, du, a3, a4, nw, x, a6, a7, e⟩
      · subst e
        obtain ⟨t, y, rfl, at_, hy⟩ := bad_at hd
        refine ⟨_, rfl, t, _, _, _, rfl, rfl, SqT.of at_.2.2, atI_nat (j := 0) rfl, rfl, _, rfl, ?_⟩
        rw [no_ret ne]
        exact iteF ⟨_, rfl, hQ _ _ ⟨Same.refl _, _, hd, hw⟩⟩
      · subst e
        obtain ⟨t, y, rfl, at_, hy⟩ := bad_at hd
        obtain ⟨mb, u', rn', wt', du', rfl, e2, hmb⟩ := mark_E hM a4
        obtain ⟨rfl, rfl, rfl, rfl⟩ := mkD_inj (a3.symm.trans e2)
        subst a6
        cases hN
        refine ⟨_, rfl, t, _, _, _, rfl, rfl, SqT.of at_.2.2, atI_nat (j := 0) rfl, rfl, _, rfl, ?_⟩
        rw [decide_eq_true rfl]
        exact iteT ⟨_, rfl, _, rfl, mb, _, _, _, rfl, rfl, SqT.of hmb, atI_nat (j := 3) rfl, _, _, rfl, rfl, sz (Nat.le_of_ble_eq_true rfl), fun t' ht' => hQ _ _ ⟨same_new ht', _, told_dg (s := "returned") g.2.1 ht' upd_same (.bl _), .inr ⟨r', f', i', m', a1, a2, .inr ⟨u, rn, wt, du, a3, a4, .inr ⟨nw, rfl, a7, rfl⟩⟩⟩⟩⟩
    rintro v8 Hu ⟨su, D8, h8, mk8⟩
    have g := g.same su
    have h5 := h5.to (Kp.same su)
    have hM := hM.to (Kp.same su)
    have hN := hN.to (Kp.same su)
    have ft8 := (mk8.sh ok5 okM okN.1).fit
    refine lam_when (Pt := Pt) (H := Hu) (Gt.refl g.2.1 g.2.2) rfl rfl rfl h5 hM hN fun vz Dz Gz gz hdz hmz => ?_
    have eD := hmz.uniq mk8
    subst eD
    refine ⟨_, Dz, p, c, rfl, hdz, ft8.1, ft8.2.1, ft8.2.2.1, ft8.2.2.2, _, rfl, _, Dz, p, c, rfl, h8.kt gz.1, ft8.1, ft8.2.1, ft8.2.2.1, ft8.2.2.2, rfl, _, rfl, ?_⟩
    rw [decide_eq_true rfl]
    refine iteF ?_
    have h5 := h5.kt gz.1
    have g := g.trans gz
    clear hdz hmz h8 mk8 ft8 hM hN
    -- new_mark
    refine ⟨fun v H' => Same Gz H' ∧ ∃ D, Dg p c H' v D ∧ NewD d5 D, fun Q' hQ => ?_, ?_⟩
    · refine ⟨_, rfl, p, c, v5, d5, rfl, h5, fun Hv sv => ⟨_, rfl, ?_⟩⟩
      have gv := g.same sv
      cases hr5 : ruleB d5 with
      | false => exact iteF ⟨_, rfl, sz (Nat.le_of_ble_eq_true rfl), fun t ht => hQ _ _ ⟨sv.trans (same_new ht), _, told_dg (s := "BadRule") gv.2.1 ht upd_same (h5.to (Kp.same (sv.trans (same_new ht)))), .inl ⟨hr5, rfl⟩⟩⟩
      | true =>
        obtain ⟨ra, r', f', i', m', rfl, rfl, R', _⟩ := rule_E h5 hr5
        have R' := R'.to sv
        refine iteT ⟨_, rfl, ra, _, _, _, rfl, rfl, SqT.of R'.at_, atI_nat (j := 2) rfl, _, rfl, ra, _, _, _, rfl, rfl, SqT.of R'.at_, atI_nat (j := 2) rfl, sz (Nat.le_of_ble_eq_true rfl), fun t ht => ⟨sz (Nat.le_of_ble_eq_true rfl), fun t' ht' => hQ _ _ ⟨(sv.trans (same_new ht)).trans (same_new ht'), _, told_dg (s := "returned") (gv.same (same_new ht)).2.1 ht' upd_same (.tup ((at_new gv.2.1.hp gv.2.1.hc ht).sm (same_new ht')) (.cons (.bl _) (.cons (.int _) (.cons (.int _) (.cons (.int _) .nil))))), .inr ⟨r', f', i', m', rfl, hr5, rfl⟩⟩⟩⟩
    rintro v8' Hw ⟨sw, D9, h9, mk9⟩
    have g := g.same sw
    have h5 := h5.to (Kp.same sw)
    have ft9 := (mk9.sh ok5).fit
    refine lam_new (Pt := Pt) (H := Hw) (Gt.refl g.2.1 g.2.2) rfl h5 fun vy Dy Gy gy hdy hmy => ?_
    have eD := hmy.uniq mk9
    subst eD
    refine ⟨_, Dy, p, c, rfl, hdy, ft9.1, ft9.2.1, ft9.2.2.1, ft9.2.2.2, _, rfl, _, Dy, p, c, rfl, h9.kt gy.1, ft9.1, ft9.2.1, ft9.2.2.1, ft9.2.2.2, rfl, _, rfl, ?_⟩
    rw [decide_eq_true rfl]
    refine iteF ?_
    exact again _ _ _ _ _ _ _ _ _ _ (g.trans gy)
end
end Ag

end
/-! ## End0 -/
section
set_option linter.all false
set_option maxRecDepth 100000
namespace Ag
open PySem PySem.Spec PyProof.Rows L2
/-! ### the end of a law's row, over FnG -/
/-- the heap at the law's entry: the script alone is known -/
def hScr (K : PySem.W.Frag) (a : Addr) (o : Obj) (xs : List V) : Hp := fun b => if b = a ∧ K.lookup a = none then some (.frz o (.lst xs)) else none
theorem hScr_at {K : PySem.W.Frag} {a b : Addr} {o : Obj} {xs : List V} {u : HO} (h : hScr K a o xs b = some u) : b = a ∧ K.lookup a = none ∧ u = .frz o (.lst xs) := by
  unfold hScr at h
  split at h
  · rename_i c
    exact ⟨c.1, c.2, (Option.some.inj h).symm⟩
  · cases h
theorem hScr_only {K : PySem.W.Frag} {a b : Addr} {o : Obj} {xs : List V} : hScr K a o xs b = none ∨ hScr K a o xs b = some (.frz o (.lst xs)) := by
  cases h : hScr K a o xs b with
  | none => exact .inl rfl
  | some u => exact .inr (by rw [(hScr_at h).2.2])
theorem lawG {P : Program} {w : World} {K : PySem.W.Frag} {mg mb : Str → Option Value} {k : Nat} {fa a : Addr} {fd : FuncData} {x : Str} {sp : Sp} {s₁ : Shared} {vs : List Value} {ns : List Int}
    (KX : K.In s₁.heap) (hns : s₁.heap.Ns mainGlobals mg) (hb : s₁.heap.Ns builtinsNs mb) (hbb : ∀ x : Str, x ≠ "__name__" → mb x = bootBuiltins x) (hlim : s₁.heap.NoLimit) (gens : s₁.gens = #[])
    (ha : s₁.heap.get? a = some { cls := .type "list", data := .seq vs.toArray }) (hi : IntsAre vs ns) (hl : ns.length ≤ sizeLine) (hr : Room k callerA)
    (F : ∀ base : Heap, K.In base → base.Ns mainGlobals mg → FnG P w K mg base k fa fd [x] sp) (hbind : ∀ (s : Shared) (u : Value), BindsTo s fd ⟨[u], []⟩ [(x, u)])
    (hsp : ∀ H : Hp, SqL K H a (ns.map V.int) → sp [.ref a] H (fun v _ => v = .bl true) E0) :
    codeAny (model P w) callerA (.call (.ref fa) ⟨[.ref a], []⟩) (fun r s' => r = .ok (.ret (.bool true)) ∧ OldK s₁.heap s'.heap ∧ s'.os = s₁.os ∧ AllBare s'.gens) s₁ := by
  generalize hH : hScr K a { cls := .type "list", data := .seq vs.toArray } (ns.map V.int) = H
  have at_ : ∀ {b u}, H b = some u → b = a ∧ K.lookup a = none ∧ u = .frz { cls := .type "list", data := .seq vs.toArray } (.lst (ns.map V.int)) := fun h => hScr_at (by rw [hH]; exact h)
  have rv : Vals (ns.map V.int) vs := vals_ints hi
  have hok : HOk P w H s₁.heap := fun b u e => by
    obtain ⟨rfl, _, rfl⟩ := at_ e
    exact ⟨ha, by rw [List.length_map]; exact hl, vs, _, rv, ha⟩
  have sq : SqL K H a (ns.map V.int) := by
    cases hk : K.lookup a with
    | some o =>
      have e := KX a o hk
      rw [ha] at e
      cases e
      exact .inr ⟨_, vs.toArray, _, hk, rfl, rfl, rfl, by rw [List.size_toArray, hi.length]; exact hl, by simpa using rv⟩
    | none => exact .inl (.inr ⟨_, by rw [← hH]; exact if_pos ⟨rfl, hk⟩⟩)
  have keepB : ∀ {b : Addr} {o : Obj}, s₁.heap.get? b = some o → H b = none → (hidT s₁.heap H).get? b = some o := fun e n => hidT_get e n
  have dicts : ∀ {b : Addr} {o : Obj} {es : Array DictEntry} {ep : Nat}, s₁.heap.get? b = some o → o.data = .dict es ep → H b = none := by
    intro b o es ep e d
    cases q : H b with
    | none => rfl
    | some u =>
      obtain ⟨rfl, _, _⟩ := at_ q
      rw [ha] at e
      cases e
      cases d
  have nsB : ∀ {b : Addr} {m : Str → Option Value}, s₁.heap.Ns b m → (hidT s₁.heap H).Ns b m := by
    rintro b m ⟨o, es, ep, e, d, r⟩
    exact ⟨o, es, ep, keepB e (dicts e d), d, r⟩
  have kinB : K.In (hidT s₁.heap H) := by
    intro b o e
    refine keepB (KX b o e) ?_
    cases q : H b with
    | none => rfl
    | some u =>
      obtain ⟨rfl, n, _⟩ := at_ q
      rw [n] at e
      cases e
  have modB : Mod K mg (hidT s₁.heap H) := ⟨kinB, nsB hns, ⟨mb, nsB hb, hbb⟩, hlim.elim fun mc z => ⟨mc, nsB z.1, z.2⟩⟩
  have env : Env0 P w K mg (hidT s₁.heap H) callerA [] s₁ H :=
    ⟨rfl, modB, fun _ _ e => of_hidT e, Nat.le_of_eq (hidT_size s₁.heap H), trivial, (fun b z => by cases z), hok, .of_eq gens⟩
  refine codeAny_mono ((F _ kinB (nsB hns)).run callerA [] s₁ H ⟨[.ref a], []⟩ [.ref a] [.ref a] _ _ hr rfl env (hbind s₁ (.ref a)) (.cons rfl .nil) (hsp H sq)) ?_
  intro r s' h
  match r, h with
  | .error e, h => exact h.elim
  | .ok (.ret u), h =>
    obtain ⟨v, H', os, bare, un, hok', r', rfl⟩ := h
    obtain rfl : u = Value.bool true := r'
    refine ⟨rfl, OldK.of_keep fun b o e => ?_, os, bare⟩
    cases q : H b with
    | none => exact un.keep b o e q (fun z => by cases z) (fun z => by cases z)
    | some u =>
      obtain ⟨rfl, _, rfl⟩ := at_ q
      have e1 := (hok b _ q).1
      have e2 := (hok' b _ (un.frzs b _ _ q)).1
      rw [e] at e1
      rw [Option.some.inj e1]
      exact e2
theorem walkG {l : PySem.W.OpenLaw} {n k : Nat} {q : Program} {loose : List Str} {XP : (Str → Option Value) → Heap → Prop} {YP : World → Heap → Prop} {d : DefRec} {K : Params → PySem.W.Frag} {sp : PySem.W.Frag → Sp} {x : Str}
    (hn : l.most = some n) (hn2 : n ≤ sizeLine) (hdf : d.params.defaults = []) (hr : Room k callerA) (hY : ∀ (w : World) (h : Heap), YP w h → (K w.params).In h)
    (F : ∀ (w : World) (mg : Str → Option Value) (fa : Addr) (h : Heap), (K w.params).In h → h.Ns mainGlobals mg → mg d.name = some (.ref fa) →
      ∃ fd : FuncData, (∀ (s : Shared) (u : Value), BindsTo s fd ⟨[u], []⟩ [(x, u)]) ∧ ∀ base : Heap, (K w.params).In base → base.Ns mainGlobals mg → FnG l.prog w (K w.params) mg base k fa fd [x] (sp (K w.params)))
    (hsp : ∀ (K : PySem.W.Frag) (H : Hp) (a : Addr) (ns : List Int), ns.length ≤ n → SqL K H a (ns.map V.int) → sp K [.ref a] H (fun v _ => v = .bl true) E0) :
    PySem.W.WalkO q loose XP YP l.row.toRowW d [] (fun f vs => PySem.call f vs) := by
  refine Att.attach_call hn hdf ?_
  intro w s₀ s₁ mg mb fa o pm cd doc a vs ns G Y ho hd hcd hmg hobj hints hlen hg
  obtain ⟨fd, hb, hF⟩ := F w mg fa _ (hY w _ Y) G.T.g hmg
  exact lawG (hY w _ Y) G.T.g G.T.b G.T.builtins G.T.nolimit hg hobj hints (Nat.le_trans hlen hn2) hr hF hb (fun H sq => hsp _ H a ns hlen sq)
end Ag

end
/-! ## End1 -/
section
set_option linter.all false
set_option maxRecDepth 100000
namespace Ag
open PySem PySem.Spec PyProof.Rows L2
/-! ### the end of a law's row, over FnG, with a table of code objects -/
/-- the heap at the law's entry: the script and an empty table are known -/
def hScrT (K : PySem.W.Frag) (a Pt : Addr) (o : Obj) (xs : List V) : Hp := fun b => if b = Pt then some (.tbl #[]) else if b = a ∧ K.lookup a = none then some (.frz o (.lst xs)) else none
theorem hScrT_at {K : PySem.W.Frag} {a b Pt : Addr} {o : Obj} {xs : List V} {u : HO} (h : hScrT K a Pt o xs b = some u) : (b = Pt ∧ u = .tbl #[]) ∨ (b = a ∧ K.lookup a = none ∧ u = .frz o (.lst xs)) := by
  unfold hScrT at h
  split at h
  · rename_i z
    exact .inl ⟨z, (Option.some.inj h).symm⟩
  · split at h
    · rename_i z
      exact .inr ⟨z.1, z.2, (Option.some.inj h).symm⟩
    · cases h
theorem lawGT {P : Program} {w : World} {K : PySem.W.Frag} {mg mb : Str → Option Value} {k : Nat} {fa a cA Pt : Addr} {fd : FuncData} {x : Str} {sp : Sp} {s₁ : Shared} {vs : List Value} {ns : List Int}
    (KX : K.In s₁.heap) (hns : s₁.heap.Ns mainGlobals mg) (hb : s₁.heap.Ns builtinsNs mb) (hbb : ∀ x : Str, x ≠ "__name__" → mb x = bootBuiltins x) (hlim : s₁.heap.NoLimit) (gens : s₁.gens = #[])
    (hT : s₁.heap.get? Pt = some { cls := .none, data := .fields #[] }) (nT : K.lookup Pt = none) (hCd : PySem.W.codeHdIn K cA Pt = true)
    (hmod : ∃ (m : Addr) (u : Obj), mg "__builtins__" = some (.ref m) ∧ m ≠ builtinsNs ∧ s₁.heap.get? m = some u ∧ u.cls = .type "module" ∧ u.dict = some builtinsNs ∧ u.data = .plain)
    (ha : s₁.heap.get? a = some { cls := .type "list", data := .seq vs.toArray }) (hi : IntsAre vs ns) (hl : ns.length ≤ sizeLine) (hr : Room k callerA)
    (F : ∀ base : Heap, K.In base → base.Ns mainGlobals mg → LamX.TabB base mg cA Pt → FnG P w K mg base k fa fd [x] sp) (hbind : ∀ (s : Shared) (u : Value), BindsTo s fd ⟨[u], []⟩ [(x, u)])
    (hsp : ∀ H : Hp, H Pt = some (.tbl #[]) → SqL K H a (ns.map V.int) → sp [.ref a] H (fun v _ => v = .bl true) E0) :
    codeAny (model P w) callerA (.call (.ref fa) ⟨[.ref a], []⟩) (fun r s' => r = .ok (.ret (.bool true)) ∧ OldK s₁.heap s'.heap ∧ s'.os = s₁.os ∧ AllBare s'.gens) s₁ := by
  have nPa : a ≠ Pt := fun z => by rw [z, hT] at ha; cases ha
  generalize hH : hScrT K a Pt { cls := .type "list", data := .seq vs.toArray } (ns.map V.int) = H
  have at_ : ∀ {b u}, H b = some u → (b = Pt ∧ u = .tbl #[]) ∨ (b = a ∧ K.lookup a = none ∧ u = .frz { cls := .type "list", data := .seq vs.toArray } (.lst (ns.map V.int))) := fun h => hScrT_at (by rw [hH]; exact h)
  have hP : H Pt = some (.tbl #[]) := by rw [← hH]; exact if_pos rfl
  have rv : Vals (ns.map V.int) vs := vals_ints hi
  have hok : HOk P w H s₁.heap := fun b u e => by
    rcases at_ e with ⟨rfl, rfl⟩ | ⟨rfl, _, rfl⟩
    · exact hT
    · exact ⟨ha, by rw [List.length_map]; exact hl, vs, _, rv, ha⟩
  have sq : SqL K H a (ns.map V.int) := by
    cases hk : K.lookup a with
    | some o =>
      have e := KX a o hk
      rw [ha] at e
      cases e
      exact .inr ⟨_, vs.toArray, _, hk, rfl, rfl, rfl, by rw [List.size_toArray, hi.length]; exact hl, by simpa using rv⟩
    | none => exact .inl (.inr ⟨_, by rw [← hH]; exact (if_neg nPa).trans (if_pos ⟨rfl, hk⟩)⟩)
  have keepB : ∀ {b : Addr} {o : Obj}, s₁.heap.get? b = some o → H b = none → (hidT s₁.heap H).get? b = some o := fun e n => hidT_get e n
  have other : ∀ {b : Addr} {o : Obj}, s₁.heap.get? b = some o → (∀ ys n, o.data ≠ .seq ys n) → (∀ ys, o.data ≠ .fields ys) → H b = none := by
    intro b o e n1 n2
    cases q : H b with
    | none => rfl
    | some u =>
      rcases at_ q with ⟨rfl, _⟩ | ⟨rfl, _, _⟩
      · rw [hT] at e
        cases e
        exact absurd rfl (n2 _)
      · rw [ha] at e
        cases e
        exact absurd rfl (n1 _ _)
  have nsB : ∀ {b : Addr} {m : Str → Option Value}, s₁.heap.Ns b m → (hidT s₁.heap H).Ns b m := by
    rintro b m ⟨o, es, ep, e, d, r⟩
    exact ⟨o, es, ep, keepB e (other e (fun _ _ z => by rw [d] at z; cases z) fun _ z => by rw [d] at z; cases z), d, r⟩
  have kinB : K.In (hidT s₁.heap H) := by
    intro b o e
    refine keepB (KX b o e) ?_
    cases q : H b with
    | none => rfl
    | some u =>
      rcases at_ q with ⟨rfl, _⟩ | ⟨rfl, n, _⟩
      · rw [nT] at e
        cases e
      · rw [n] at e
        cases e
  have modB : Mod K mg (hidT s₁.heap H) := ⟨kinB, nsB hns, ⟨mb, nsB hb, hbb⟩, hlim.elim fun mc z => ⟨mc, nsB z.1, z.2⟩⟩
  have TB : LamX.TabB (hidT s₁.heap H) mg cA Pt := by
    obtain ⟨og, eg, pg, hog, hdg, _⟩ := hns
    refine ⟨PySem.W.codeHd_of_K kinB hCd, ?_, fun z => ?_⟩
    · obtain ⟨m, u, m1, m2, m3, m4, m5, m6⟩ := hmod
      refine ⟨m, u, m1, m2, fun z => ?_, fun z => ?_, keepB m3 (other m3 (fun _ _ z => by rw [m6] at z; cases z) fun _ z => by rw [m6] at z; cases z), m4, m5, m6⟩
      · rw [z, hog] at m3
        cases m3
        rw [hdg] at m6
        cases m6
      · rw [z, hT] at m3
        cases m3
        cases m6
    · rw [z, hT] at hog
      cases hog
      cases hdg
  have env : Env0 P w K mg (hidT s₁.heap H) callerA [] s₁ H :=
    ⟨rfl, modB, fun _ _ e => of_hidT e, Nat.le_of_eq (hidT_size s₁.heap H), trivial, (fun b z => by cases z), hok, .of_eq gens⟩
  refine codeAny_mono ((F _ kinB (nsB hns) TB).run callerA [] s₁ H ⟨[.ref a], []⟩ [.ref a] [.ref a] _ _ hr rfl env (hbind s₁ (.ref a)) (.cons rfl .nil) (hsp H hP sq)) ?_
  intro r s' h
  match r, h with
  | .error e, h => exact h.elim
  | .ok (.ret u), h =>
    obtain ⟨v, H', os, bare, un, hok', r', rfl⟩ := h
    obtain rfl : u = Value.bool true := r'
    have kept : ∀ b o, b ≠ Pt → s₁.heap.get? b = some o → s'.heap.get? b = some o := fun b o nb e => by
      cases q : H b with
      | none => exact un.keep b o e q (fun z => by cases z) (fun z => by cases z)
      | some u =>
        rcases at_ q with ⟨z, _⟩ | ⟨rfl, _, rfl⟩
        · exact absurd z nb
        · have e1 := (hok b _ q).1
          have e2 := (hok' b _ (un.frzs b _ _ q)).1
          rw [e] at e1
          rw [Option.some.inj e1]
          exact e2
    obtain ⟨more, hm⟩ : ∃ more : Array Value, s'.heap.get? Pt = some { cls := .none, data := .fields more } := by
      obtain ⟨more, z⟩ := un.tbls Pt #[] hP
      exact ⟨_, hok' Pt _ z⟩
    refine ⟨rfl, ⟨fun b o e => ?_, fun b o e => ?_⟩, os, bare⟩
    · by_cases nb : b = Pt
      · subst nb
        rw [hT] at e
        cases e
        exact .inr (.inl ⟨((PySem.W.codeHd_of_K KX hCd).tab hT).isCodeTable, rfl, #[], more, rfl, by rw [Array.empty_append]; exact hm⟩)
      · exact .inl (kept b o nb e)
    · by_cases nb : b = Pt
      · rw [nb]
        exact ⟨_, hm⟩
      · exact ⟨o, kept b o nb e⟩
/-- the def of the name x has an empty table -/
def TabOf (K : PySem.W.Frag) (mg : Str → Option Value) (x : Str) (h : Heap) : Prop := ∀ f, mg x = some (.ref f) → LamX.OwnTab K f h
theorem walkGT {l : PySem.W.OpenLaw} {n k : Nat} {q : Program} {loose : List Str} {XP : (Str → Option Value) → Heap → Prop} {YP : World → Heap → Prop} {d : DefRec} {K : Params → PySem.W.Frag} {sp : Addr → PySem.W.Frag → Sp} {x y : Str}
    (hn : l.most = some n) (hn2 : n ≤ sizeLine) (hdf : d.params.defaults = []) (hr : Room k callerA) (hrec : ((recsOf q).any fun e => e.name == y) = true) (hY : ∀ (w : World) (h : Heap), YP w h → (K w.params).In h)
    (F : ∀ (w : World) (mg : Str → Option Value) (fa : Addr) (h : Heap), (K w.params).In h → h.Ns mainGlobals mg → mg d.name = some (.ref fa) → TabOf (K w.params) mg y h →
      ∃ (fd : FuncData) (cA Pt : Addr), h.get? Pt = some { cls := .none, data := .fields #[] } ∧ (K w.params).lookup Pt = none ∧ PySem.W.codeHdIn (K w.params) cA Pt = true ∧ (∀ (s : Shared) (u : Value), BindsTo s fd ⟨[u], []⟩ [(x, u)]) ∧
        ∀ base : Heap, (K w.params).In base → base.Ns mainGlobals mg → LamX.TabB base mg cA Pt → FnG l.prog w (K w.params) mg base k fa fd [x] (sp Pt (K w.params)))
    (hsp : ∀ (Pt : Addr) (K : PySem.W.Frag) (H : Hp) (a : Addr) (ns : List Int), ns.length ≤ n → H Pt = some (.tbl #[]) → SqL K H a (ns.map V.int) → sp Pt K [.ref a] H (fun v _ => v = .bl true) E0) :
    PySem.W.WalkO q loose XP YP l.row.toRowW d [] (fun f vs => PySem.call f vs) := by
  refine Att.attach_call hn hdf ?_
  intro w s₀ s₁ mg mb fa o pm cd doc a vs ns G Y ho hd hcd hmg hobj hints hlen hg
  have KX := hY w _ Y
  have own : TabOf (K w.params) mg y s₁.heap := by
    intro f hf c1 P1 o1 fd1 e1 dd1 vs1 sl1 k1 k2 k3 k4 k5
    obtain ⟨r, hm, hn1⟩ := List.any_eq_true.mp hrec
    have hn2 : r.name = y := beq_iff_eq.mp hn1
    obtain ⟨a', o', fd', c', P', h1, h2, h3, h4, h5, h6⟩ := G.T.tab r hm
    rw [hn2, hf] at h1
    cases h1
    rw [KX _ _ k1] at h2
    cases h2
    rw [k2] at h3
    cases h3
    rw [k3] at h4
    cases h4
    obtain ⟨⟨oc, vc, z1, _, z3, z4⟩, hP⟩ := h6
    rw [KX _ _ k4] at z1
    cases z1
    cases z3
    rw [k5] at z4
    cases z4
    exact hP
  obtain ⟨fd, cA, Pt, hT, nT, hC, hb, hF⟩ := F w mg fa _ KX G.T.g hmg own
  exact lawGT KX G.T.g G.T.b G.T.builtins G.T.nolimit hg hT nT hC G.T.bmain hobj hints (Nat.le_trans hlen hn2) hr hF hb (fun H hH sq => hsp Pt _ H a ns hlen hH sq)
end Ag

end
/-! ## ExM -/
section
set_option linter.all false
set_option maxRecDepth 100000
namespace Ag
open PySem PySem.Spec PyProof.Rows L2
/-! ### the facts of some own exception classes -/
/-- what is looked up of one class -/
structure ExF (K : PySem.W.Frag) (C : Addr) : Prop where
  ga : PySem.W.findIn K (.ref C) "__getattribute__" = some (some (.builtin "BaseException.__getattribute__"))
  gg : PySem.W.findIn K (.ref C) "__getattr__" = some none
  sb : PySem.W.subIn K (.ref C) (.type "BaseException") = some true
  hd : PySem.W.hasDictIn K C = true
  no : PySem.W.findIn K (.ref C) "thing" = some none
  cl : PySem.W.findIn K (.ref C) "__class__" = some (some (.builtin "object.__class__"))
  mo : PySem.W.mroIn K C (.type "object") = some true
  ty : PySem.W.typeIn K (.ref C) = some (.type "type")
  ci : (PySem.W.clsIn K C).isSome = true
theorem kit_cls {K : PySem.W.Frag} {t : Value} {C : Addr} {b : Bool} (ty : PySem.W.typeIn K (.ref C) = some (.type "type")) (ci : (PySem.W.clsIn K C).isSome = true) (s : PySem.W.subIn K t (.ref C) = some b) : PySem.W.kitCls K t (.ref C) = some b := by
  simp [PySem.W.kitCls, ty, ci, s]
theorem kit_one {K : PySem.W.Frag} {D C : Addr} {b : Bool} (ty : PySem.W.typeIn K (.ref C) = some (.type "type")) (ci : (PySem.W.clsIn K C).isSome = true) (s : PySem.W.subIn K (.ref D) (.ref C) = some b) (r : PySem.W.subIn K (.ref C) (.ref C) = some true) : PySem.W.kitOne K (.ref D) (.ref C) = some b := by
  unfold PySem.W.kitOne
  by_cases e : D = C
  · subst e
    rw [r] at s
    rw [← Option.some.inj s]
    simp
  · rw [if_neg (by simpa using e)]
    exact kit_cls ty ci s
theorem exm_any {K : PySem.W.Frag} {t : Value} : ∀ {cs : List Addr} {bs : List Bool}, (∀ C ∈ cs, ExF K C) → (cs.map fun C => PySem.W.subIn K t (.ref C)) = bs.map some → PySem.W.exmAny K t (cs.map Value.ref) = some (bs.any id)
  | [], [], _, _ => rfl
  | [], _ :: _, _, h => by cases h
  | _ :: _, [], _, h => by cases h
  | C :: cs, b :: bs, hF, h => by
    rw [List.map_cons, List.map_cons, List.cons.injEq] at h
    have F := hF C List.mem_cons_self
    have ih := exm_any (t := t) (fun D hD => hF D (List.mem_cons_of_mem _ hD)) h.2
    have one : PySem.W.exmOne K t (.ref C) = some b := by
      unfold PySem.W.exmOne
      rw [if_pos (by rw [F.sb]; rfl)]
      exact kit_cls F.ty F.ci h.1
    rw [List.map_cons]
    unfold PySem.W.exmAny
    rw [one, ih]
    rfl
theorem exs_mk {K : PySem.W.Frag} {n : Nat} {cl : Nat → Addr} {G : Addr} (F : ∀ k, k < n → ExF K (cl k)) (h1 : PySem.W.specialIn K (.builtin "object.__class__") "__get__" = some (some (.builtin "getset_descriptor.__get__"))) (h2 : PySem.W.takesIn K (.builtin "object.__class__") = some true)
    (sub : ∀ k, k < n → ∀ j, j < n → PySem.W.subIn K (.ref (cl k)) (.ref (cl j)) = some (decide (j = k))) (gt : PySem.W.typeIn K (.ref G) = some (.type "type")) (gc : (PySem.W.clsIn K G).isSome = true) (gr : PySem.W.subIn K (.ref G) (.ref G) = some true) (gs : ∀ k, k < n → PySem.W.subIn K (.ref (cl k)) (.ref G) = some true) : Exs K n cl G where
  x k hk := ⟨(F k hk).ga, (F k hk).gg, (F k hk).sb, (F k hk).hd⟩
  c k hk := ⟨(F k hk).ga, (F k hk).gg, (F k hk).sb, (F k hk).hd, (F k hk).cl, h1, h2, (F k hk).mo⟩
  no k hk := (F k hk).no
  ex k hk := by
    have e := exm_any (K := K) (t := .ref (cl k)) (cs := (List.range n).map cl) (bs := (List.range n).map fun j => decide (j = k)) (fun C hC => by
      obtain ⟨j, hj, rfl⟩ := List.mem_map.mp hC
      exact F j (List.mem_range.mp hj)) (by
      rw [List.map_map, List.map_map]
      exact List.map_congr_left fun j hj => sub k hk j (List.mem_range.mp hj))
    rw [List.map_map] at e
    have : (((List.range n).map fun j => decide (j = k)).any id) = true := List.any_eq_true.mpr ⟨true, List.mem_map.mpr ⟨k, List.mem_range.mpr hk, decide_eq_true rfl⟩, rfl⟩
    rw [this] at e
    exact e
  is k hk j hj := kit_one (F j hj).ty (F j hj).ci (sub k hk j hj) (by rw [sub j hj j hj, decide_eq_true rfl])
  isG k hk := kit_one gt gc (gs k hk) gr
end Ag

end
/-! ## E -/
section
set_option linter.all false
set_option maxRecDepth 100000
namespace Ag
open PySem PySem.Spec PyProof.Rows L2
theorem vals_app : ∀ {a : List V} {b : List Value} {c : List V} {d : List Value}, Vals a b → Vals c d → Vals (a ++ c) (b ++ d)
  | [], [], _, _, _, h => h
  | _ :: _, _ :: _, _, _, .cons h t, k => .cons h (vals_app t k)
theorem vals_rev : ∀ {a : List V} {b : List Value}, Vals a b → Vals a.reverse b.reverse
  | [], [], _ => .nil
  | _ :: _, _ :: _, .cons h t => by
    rw [List.reverse_cons, List.reverse_cons]
    exact vals_app (vals_rev t) (.cons h .nil)
theorem exm_self {K : PySem.W.Frag} {C : Addr} {cd : ClassData} (h1 : PySem.W.subIn K (.ref C) (.type "BaseException") = some true) (h2 : PySem.W.clsIn K C = some cd) (h3 : PySem.W.typeIn K (.ref C) = some (.type "type")) (h4 : PySem.W.subIn K (.ref C) (.ref C) = some true) :
    PySem.W.exmOne K (.ref C) (.ref C) = some true := by
  simp [PySem.W.exmOne, PySem.W.kitCls, h1, h2, h3, h4]

/-- what a code object's fields must tell -/
def codeB (vs : Array Value) (c P : Addr) : Bool := (match (vs[11]? : Option Value) with | some (.ref P') => P' == P | _ => false) && ((match vs.getD 18 .none with | .str _ _ => true | _ => false) && ((match vs.getD 7 .none with | .int _ _ => true | _ => false) &&
  ((match vs.getD 9 .none with | .bool _ => true | _ => false) && ((match vs.getD 10 .none with | .int _ _ => true | _ => false) && c != P))))
theorem codeB_in {K : PySem.W.Frag} {c P : Addr} {d : Option Addr} {vs : Array Value} {sl : Array (Option Value)} (h : K.lookup c = some ⟨.type "code", d, .fields vs, sl⟩) (hb : codeB vs c P = true) : PySem.W.codeHdIn K c P = true := by
  unfold PySem.W.codeHdIn
  rw [h]
  unfold codeB at hb
  simp only [Bool.and_eq_true] at hb ⊢
  obtain ⟨b1, b2, b3, b4, b5, b6⟩ := hb
  exact ⟨⟨⟨⟨⟨b1, b2⟩, b3⟩, b4⟩, b5⟩, b6⟩
set_option maxHeartbeats 4000000 in
theorem all_mk {l : PySem.W.OpenLaw} {w : World} {K : PySem.W.Frag} {h : Heap} {mg : Str → Option Value} {fa f0 f1 f2 f3 f4 f5 f6 f7 f8 f9 f10 f11 f12 f13 f14 f15 f16 f17 f18 f19 : Addr} (X : K.In h) (G : h.Ns mainGlobals mg) (hfa : mg "law" = some (.ref fa)) (own : TabOf K mg "law" h)
    {od0 an0 od1 an1 od2 an2 od3 an3 od4 an4 od5 an5 od6 an6 od7 an7 od8 an8 od9 an9 od10 an10 od11 an11 od12 an12 od13 an13 od14 an14 od15 an15 od16 an16 od17 an17 od18 an18 od19 an19 : Option Addr} {sl0 sl1 sl2 sl3 sl4 sl5 sl6 sl7 sl8 sl9 sl10 sl11 sl12 sl13 sl14 sl15 sl16 sl17 sl18 sl19 : Array (Option Value)} {oc0 kV0 dc0 pm0 ct0 cd0 oc1 kV1 dc1 pm1 ct1 cd1 oc2 kV2 dc2 pm2 ct2 cd2 oc3 kV3 dc3 pm3 ct3 cd3 oc4 kV4 dc4 pm4 ct4 cd4 oc5 kV5 dc5 pm5 ct5 cd5 oc6 kV6 dc6 pm6 ct6 cd6 oc7 kV7 dc7 pm7 ct7 cd7 oc8 kV8 dc8 pm8 ct8 cd8 oc9 kV9 dc9 pm9 ct9 cd9 oc10 kV10 dc10 pm10 ct10 cd10 oc11 kV11 dc11 pm11 ct11 cd11 oc12 kV12 dc12 pm12 ct12 cd12 oc13 kV13 dc13 pm13 ct13 cd13 oc14 kV14 dc14 pm14 ct14 cd14 oc15 kV15 dc15 pm15 ct15 cd15 oc16 kV16 dc16 pm16 ct16 cd16 oc17 kV17 dc17 pm17 ct17 cd17 oc18 kV18 dc18 pm18 ct18 cd18 oc19 kV19 dc19 pm19 ct19 : Value} {tk0 : Tok} {cA : Addr}
    (a0 : PySem.W.nsIn K mainGlobals "is_integer" = some (some (.ref f0))) (l0 : K.lookup f0 = some ⟨oc0, od0, .func (PySem.W.fnOf "is_integer" "is_integer" (defArgs s_is_integer) (defBody s_is_integer) (defScope s_is_integer) .none kV0 dc0 pm0 an0 cd0 ct0), sl0⟩) (c0 : PySem.W.codeIn K cd0 "is_integer" = true) (k0 : PySem.W.keepIn K (.ref f0) = true)
    (a1 : PySem.W.nsIn K mainGlobals "is_health_rule" = some (some (.ref f1))) (l1 : K.lookup f1 = some ⟨oc1, od1, .func (PySem.W.fnOf "is_health_rule" "is_health_rule" (defArgs s_is_health_rule) (defBody s_is_health_rule) (defScope s_is_health_rule) .none kV1 dc1 pm1 an1 cd1 ct1), sl1⟩) (c1 : PySem.W.codeIn K cd1 "is_health_rule" = true) (k1 : PySem.W.keepIn K (.ref f1) = true)
    (a2 : PySem.W.nsIn K mainGlobals "is_mark" = some (some (.ref f2))) (l2 : K.lookup f2 = some ⟨oc2, od2, .func (PySem.W.fnOf "is_mark" "is_mark" (defArgs s_is_mark) (defBody s_is_mark) (defScope s_is_mark) .none kV2 dc2 pm2 an2 cd2 ct2), sl2⟩) (c2 : PySem.W.codeIn K cd2 "is_mark" = true) (k2 : PySem.W.keepIn K (.ref f2) = true)
    (a3 : PySem.W.nsIn K mainGlobals "doubled_waits" = some (some (.ref f3))) (l3 : K.lookup f3 = some ⟨oc3, od3, .func (PySem.W.fnOf "doubled_waits" "doubled_waits" (defArgs s_doubled_waits) (defBody s_doubled_waits) (defScope s_doubled_waits) .none kV3 dc3 pm3 an3 cd3 ct3), sl3⟩) (c3 : PySem.W.codeIn K cd3 "doubled_waits" = true) (k3 : PySem.W.keepIn K (.ref f3) = true)
    (a4 : PySem.W.nsIn K mainGlobals "new_mark" = some (some (.ref f4))) (l4 : K.lookup f4 = some ⟨oc4, od4, .func (PySem.W.fnOf "new_mark" "new_mark" (defArgs s_new_mark) (defBody s_new_mark) (defScope s_new_mark) .none kV4 dc4 pm4 an4 cd4 ct4), sl4⟩) (c4 : PySem.W.codeIn K cd4 "new_mark" = true) (k4 : PySem.W.keepIn K (.ref f4) = true)
    (a5 : PySem.W.nsIn K mainGlobals "looked" = some (some (.ref f5))) (l5 : K.lookup f5 = some ⟨oc5, od5, .func (PySem.W.fnOf "looked" "looked" (defArgs s_looked) (defBody s_looked) (defScope s_looked) .none kV5 dc5 pm5 an5 cd5 ct5), sl5⟩) (c5 : PySem.W.codeIn K cd5 "looked" = true) (k5 : PySem.W.keepIn K (.ref f5) = true)
    (a6 : PySem.W.nsIn K mainGlobals "is_due" = some (some (.ref f6))) (l6 : K.lookup f6 = some ⟨oc6, od6, .func (PySem.W.fnOf "is_due" "is_due" (defArgs s_is_due) (defBody s_is_due) (defScope s_is_due) .none kV6 dc6 pm6 an6 cd6 ct6), sl6⟩) (c6 : PySem.W.codeIn K cd6 "is_due" = true) (k6 : PySem.W.keepIn K (.ref f6) = true)
    (a7 : PySem.W.nsIn K mainGlobals "_law_deck" = some (some (.ref f7))) (l7 : K.lookup f7 = some ⟨oc7, od7, .func (PySem.W.fnOf "_law_deck" "_law_deck" (defArgs s__law_deck) (defBody s__law_deck) (defScope s__law_deck) .none kV7 dc7 pm7 an7 cd7 ct7), sl7⟩) (c7 : PySem.W.codeIn K cd7 "_law_deck" = true) (k7 : PySem.W.keepIn K (.ref f7) = true)
    (a8 : PySem.W.nsIn K mainGlobals "_law_draw" = some (some (.ref f8))) (l8 : K.lookup f8 = some ⟨oc8, od8, .func (PySem.W.fnOf "_law_draw" "_law_draw" (defArgs s__law_draw) (defBody s__law_draw) (defScope s__law_draw) .none kV8 dc8 pm8 an8 cd8 ct8), sl8⟩) (c8 : PySem.W.codeIn K cd8 "_law_draw" = true) (k8 : PySem.W.keepIn K (.ref f8) = true)
    (a9 : PySem.W.nsIn K mainGlobals "_law_pick" = some (some (.ref f9))) (l9 : K.lookup f9 = some ⟨oc9, od9, .func (PySem.W.fnOf "_law_pick" "_law_pick" (defArgs s__law_pick) (defBody s__law_pick) (defScope s__law_pick) .none kV9 dc9 pm9 an9 cd9 ct9), sl9⟩) (c9 : PySem.W.codeIn K cd9 "_law_pick" = true) (k9 : PySem.W.keepIn K (.ref f9) = true)
    (a10 : PySem.W.nsIn K mainGlobals "_law_is_int" = some (some (.ref f10))) (l10 : K.lookup f10 = some ⟨oc10, od10, .func (PySem.W.fnOf "_law_is_int" "_law_is_int" (defArgs s__law_is_int) (defBody s__law_is_int) (defScope s__law_is_int) .none kV10 dc10 pm10 an10 cd10 ct10), sl10⟩) (c10 : PySem.W.codeIn K cd10 "_law_is_int" = true) (k10 : PySem.W.keepIn K (.ref f10) = true)
    (a11 : PySem.W.nsIn K mainGlobals "_law_is_tuple" = some (some (.ref f11))) (l11 : K.lookup f11 = some ⟨oc11, od11, .func (PySem.W.fnOf "_law_is_tuple" "_law_is_tuple" (defArgs s__law_is_tuple) (defBody s__law_is_tuple) (defScope s__law_is_tuple) .none kV11 dc11 pm11 an11 cd11 ct11), sl11⟩) (c11 : PySem.W.codeIn K cd11 "_law_is_tuple" = true) (k11 : PySem.W.keepIn K (.ref f11) = true)
    (a12 : PySem.W.nsIn K mainGlobals "_law_is_rule" = some (some (.ref f12))) (l12 : K.lookup f12 = some ⟨oc12, od12, .func (PySem.W.fnOf "_law_is_rule" "_law_is_rule" (defArgs s__law_is_rule) (defBody s__law_is_rule) (defScope s__law_is_rule) .none kV12 dc12 pm12 an12 cd12 ct12), sl12⟩) (c12 : PySem.W.codeIn K cd12 "_law_is_rule" = true) (k12 : PySem.W.keepIn K (.ref f12) = true)
    (a13 : PySem.W.nsIn K mainGlobals "_law_is_mark" = some (some (.ref f13))) (l13 : K.lookup f13 = some ⟨oc13, od13, .func (PySem.W.fnOf "_law_is_mark" "_law_is_mark" (defArgs s__law_is_mark) (defBody s__law_is_mark) (defScope s__law_is_mark) .none kV13 dc13 pm13 an13 cd13 ct13), sl13⟩) (c13 : PySem.W.codeIn K cd13 "_law_is_mark" = true) (k13 : PySem.W.keepIn K (.ref f13) = true)
    (a14 : PySem.W.nsIn K mainGlobals "_law_looked" = some (some (.ref f14))) (l14 : K.lookup f14 = some ⟨oc14, od14, .func (PySem.W.fnOf "_law_looked" "_law_looked" (defArgs s__law_looked) (defBody s__law_looked) (defScope s__law_looked) .none kV14 dc14 pm14 an14 cd14 ct14), sl14⟩) (c14 : PySem.W.codeIn K cd14 "_law_looked" = true) (k14 : PySem.W.keepIn K (.ref f14) = true)
    (a15 : PySem.W.nsIn K mainGlobals "_law_tried" = some (some (.ref f15))) (l15 : K.lookup f15 = some ⟨oc15, od15, .func (PySem.W.fnOf "_law_tried" "_law_tried" (defArgs s__law_tried) (defBody s__law_tried) (defScope s__law_tried) .none kV15 dc15 pm15 an15 cd15 ct15), sl15⟩) (c15 : PySem.W.codeIn K cd15 "_law_tried" = true) (k15 : PySem.W.keepIn K (.ref f15) = true)
    (a16 : PySem.W.nsIn K mainGlobals "_law_near" = some (some (.ref f16))) (l16 : K.lookup f16 = some ⟨oc16, od16, .func (PySem.W.fnOf "_law_near" "_law_near" (defArgs s__law_near) (defBody s__law_near) (defScope s__law_near) .none kV16 dc16 pm16 an16 cd16 ct16), sl16⟩) (c16 : PySem.W.codeIn K cd16 "_law_near" = true) (k16 : PySem.W.keepIn K (.ref f16) = true)
    (a17 : PySem.W.nsIn K mainGlobals "_law_drawn_mark" = some (some (.ref f17))) (l17 : K.lookup f17 = some ⟨oc17, od17, .func (PySem.W.fnOf "_law_drawn_mark" "_law_drawn_mark" (defArgs s__law_drawn_mark) (defBody s__law_drawn_mark) (defScope s__law_drawn_mark) .none kV17 dc17 pm17 an17 cd17 ct17), sl17⟩) (c17 : PySem.W.codeIn K cd17 "_law_drawn_mark" = true) (k17 : PySem.W.keepIn K (.ref f17) = true)
    (a18 : PySem.W.nsIn K mainGlobals "_law_due" = some (some (.ref f18))) (l18 : K.lookup f18 = some ⟨oc18, od18, .func (PySem.W.fnOf "_law_due" "_law_due" (defArgs s__law_due) (defBody s__law_due) (defScope s__law_due) .none kV18 dc18 pm18 an18 cd18 ct18), sl18⟩) (c18 : PySem.W.codeIn K cd18 "_law_due" = true) (k18 : PySem.W.keepIn K (.ref f18) = true)
    (a19 : PySem.W.nsIn K mainGlobals "law" = some (some (.ref f19))) (l19 : K.lookup f19 = some ⟨oc19, od19, .func (PySem.W.fnOf "law" "law" (defArgs s_law) (defBody s_law) (defScope s_law) .none kV19 dc19 pm19 an19 (.ref cA) ct19), sl19⟩) (c19 : PySem.W.codeIn K (.ref cA) "law" = true) (k19 : PySem.W.keepIn K (.ref f19) = true)
    (z0 : PySem.W.nsIn K mainGlobals "len" = some none)
    (z1 : PySem.W.nsIn K mainGlobals "int" = some none)
    (z2 : PySem.W.nsIn K mainGlobals "str" = some none)
    (z3 : PySem.W.nsIn K mainGlobals "isinstance" = some none)
    (z4 : PySem.W.nsIn K mainGlobals "range" = some none)
    (z5 : PySem.W.nsIn K mainGlobals "tuple" = some none)
    (z6 : PySem.W.nsIn K mainGlobals "list" = some none)
    (z7 : PySem.W.nsIn K mainGlobals "max" = some none)
    (z8 : PySem.W.nsIn K mainGlobals "min" = some none)
    (z9 : PySem.W.nsIn K mainGlobals "sorted" = some none)
    (z10 : PySem.W.nsIn K mainGlobals "repr" = some none)
    (z11 : PySem.W.nsIn K mainGlobals "bool" = some none)
    (z12 : PySem.W.nsIn K mainGlobals "all" = some none)
    (x0 : PySem.W.nsIn K mainGlobals "RULE_MOST" = some (some (.int 99 tk0)))
    {C0 fI0 : Addr} {nm0 qn0 : Str} {Nn0 : Addr} {bs0 bm0 : List Value} {sn0 : List Str} {su0 : List Value} {ab0 : Bool} {co0 : Option Bool} {dd0 : Option Addr} {qa0 qb0 qc0 qd0 qe0 : Option Value} {cC0 : ClassData} {oI0 kI0 dI0 pI0 cI0 tI0 : Value} {odI0 anI0 : Option Addr} {slI0 : Array (Option Value)}
    (e0_0 : PySem.W.nsIn K mainGlobals "BadBool" = some (some (.ref C0))) (e0_1 : K.lookup C0 = some (excClassObj nm0 qn0 C0 Nn0 bs0 bm0 true sn0 su0 ab0 co0 dd0 qa0 qb0 qc0 qd0 qe0 "Exception.__new__")) (e0_2 : PySem.W.excTail exT bm0 = true) (e0_3 : PySem.W.findIn K (.ref C0) "__setattr__" = some (some (.builtin "object.__setattr__")))
    (e0_4 : PySem.W.subIn K (.ref C0) (.type "BaseException") = some true) (e0_5 : PySem.W.typeIn K (.ref C0) = some (.type "type")) (e0_6 : PySem.W.keepIn K (.ref C0) = true) (e0_7 : PySem.W.findIn K (.ref C0) "__getattribute__" = some (some (.builtin "BaseException.__getattribute__"))) (e0_8 : PySem.W.findIn K (.ref C0) "__getattr__" = some none)
    (e0_9 : PySem.W.hasDictIn K C0 = true) (e0_10 : PySem.W.findIn K (.ref C0) "thing" = some none) (e0_11 : PySem.W.findIn K (.ref C0) "__init__" = some (some (.ref fI0))) (e0_12 : PySem.W.typeIn K (.ref fI0) = some (.type "function")) (e0_13 : PySem.W.clsIn K C0 = some cC0) (e0_14 : PySem.W.subIn K (.ref C0) (.ref C0) = some true)
    (e0_15 : K.lookup fI0 = some ⟨oI0, odI0, .func (PySem.W.fnOf "__init__" "BadBool.__init__" (defArgs s_BadBool) (defBody s_BadBool) (defScope s_BadBool) .none kI0 dI0 pI0 anI0 cI0 tI0), slI0⟩) (e0_16 : PySem.W.codeIn K cI0 "BadBool.__init__" = true) (e0_17 : PySem.W.keepIn K (.ref fI0) = true)
    {C1 fI1 : Addr} {nm1 qn1 : Str} {Nn1 : Addr} {bs1 bm1 : List Value} {sn1 : List Str} {su1 : List Value} {ab1 : Bool} {co1 : Option Bool} {dd1 : Option Addr} {qa1 qb1 qc1 qd1 qe1 : Option Value} {cC1 : ClassData} {oI1 kI1 dI1 pI1 cI1 tI1 : Value} {odI1 anI1 : Option Addr} {slI1 : Array (Option Value)}
    (e1_0 : PySem.W.nsIn K mainGlobals "BadMark" = some (some (.ref C1))) (e1_1 : K.lookup C1 = some (excClassObj nm1 qn1 C1 Nn1 bs1 bm1 true sn1 su1 ab1 co1 dd1 qa1 qb1 qc1 qd1 qe1 "Exception.__new__")) (e1_2 : PySem.W.excTail exT bm1 = true) (e1_3 : PySem.W.findIn K (.ref C1) "__setattr__" = some (some (.builtin "object.__setattr__")))
    (e1_4 : PySem.W.subIn K (.ref C1) (.type "BaseException") = some true) (e1_5 : PySem.W.typeIn K (.ref C1) = some (.type "type")) (e1_6 : PySem.W.keepIn K (.ref C1) = true) (e1_7 : PySem.W.findIn K (.ref C1) "__getattribute__" = some (some (.builtin "BaseException.__getattribute__"))) (e1_8 : PySem.W.findIn K (.ref C1) "__getattr__" = some none)
    (e1_9 : PySem.W.hasDictIn K C1 = true) (e1_10 : PySem.W.findIn K (.ref C1) "thing" = some none) (e1_11 : PySem.W.findIn K (.ref C1) "__init__" = some (some (.ref fI1))) (e1_12 : PySem.W.typeIn K (.ref fI1) = some (.type "function")) (e1_13 : PySem.W.clsIn K C1 = some cC1) (e1_14 : PySem.W.subIn K (.ref C1) (.ref C1) = some true)
    (e1_15 : K.lookup fI1 = some ⟨oI1, odI1, .func (PySem.W.fnOf "__init__" "BadMark.__init__" (defArgs s_BadMark) (defBody s_BadMark) (defScope s_BadMark) .none kI1 dI1 pI1 anI1 cI1 tI1), slI1⟩) (e1_16 : PySem.W.codeIn K cI1 "BadMark.__init__" = true) (e1_17 : PySem.W.keepIn K (.ref fI1) = true)
    {C2 fI2 : Addr} {nm2 qn2 : Str} {Nn2 : Addr} {bs2 bm2 : List Value} {sn2 : List Str} {su2 : List Value} {ab2 : Bool} {co2 : Option Bool} {dd2 : Option Addr} {qa2 qb2 qc2 qd2 qe2 : Option Value} {cC2 : ClassData} {oI2 kI2 dI2 pI2 cI2 tI2 : Value} {odI2 anI2 : Option Addr} {slI2 : Array (Option Value)}
    (e2_0 : PySem.W.nsIn K mainGlobals "BadNumber" = some (some (.ref C2))) (e2_1 : K.lookup C2 = some (excClassObj nm2 qn2 C2 Nn2 bs2 bm2 true sn2 su2 ab2 co2 dd2 qa2 qb2 qc2 qd2 qe2 "Exception.__new__")) (e2_2 : PySem.W.excTail exT bm2 = true) (e2_3 : PySem.W.findIn K (.ref C2) "__setattr__" = some (some (.builtin "object.__setattr__")))
    (e2_4 : PySem.W.subIn K (.ref C2) (.type "BaseException") = some true) (e2_5 : PySem.W.typeIn K (.ref C2) = some (.type "type")) (e2_6 : PySem.W.keepIn K (.ref C2) = true) (e2_7 : PySem.W.findIn K (.ref C2) "__getattribute__" = some (some (.builtin "BaseException.__getattribute__"))) (e2_8 : PySem.W.findIn K (.ref C2) "__getattr__" = some none)
    (e2_9 : PySem.W.hasDictIn K C2 = true) (e2_10 : PySem.W.findIn K (.ref C2) "thing" = some none) (e2_11 : PySem.W.findIn K (.ref C2) "__init__" = some (some (.ref fI2))) (e2_12 : PySem.W.typeIn K (.ref fI2) = some (.type "function")) (e2_13 : PySem.W.clsIn K C2 = some cC2) (e2_14 : PySem.W.subIn K (.ref C2) (.ref C2) = some true)
    (e2_15 : K.lookup fI2 = some ⟨oI2, odI2, .func (PySem.W.fnOf "__init__" "BadNumber.__init__" (defArgs s_BadNumber) (defBody s_BadNumber) (defScope s_BadNumber) .none kI2 dI2 pI2 anI2 cI2 tI2), slI2⟩) (e2_16 : PySem.W.codeIn K cI2 "BadNumber.__init__" = true) (e2_17 : PySem.W.keepIn K (.ref fI2) = true)
    {C3 fI3 : Addr} {nm3 qn3 : Str} {Nn3 : Addr} {bs3 bm3 : List Value} {sn3 : List Str} {su3 : List Value} {ab3 : Bool} {co3 : Option Bool} {dd3 : Option Addr} {qa3 qb3 qc3 qd3 qe3 : Option Value} {cC3 : ClassData} {oI3 kI3 dI3 pI3 cI3 tI3 : Value} {odI3 anI3 : Option Addr} {slI3 : Array (Option Value)}
    (e3_0 : PySem.W.nsIn K mainGlobals "BadRule" = some (some (.ref C3))) (e3_1 : K.lookup C3 = some (excClassObj nm3 qn3 C3 Nn3 bs3 bm3 true sn3 su3 ab3 co3 dd3 qa3 qb3 qc3 qd3 qe3 "Exception.__new__")) (e3_2 : PySem.W.excTail exT bm3 = true) (e3_3 : PySem.W.findIn K (.ref C3) "__setattr__" = some (some (.builtin "object.__setattr__")))
    (e3_4 : PySem.W.subIn K (.ref C3) (.type "BaseException") = some true) (e3_5 : PySem.W.typeIn K (.ref C3) = some (.type "type")) (e3_6 : PySem.W.keepIn K (.ref C3) = true) (e3_7 : PySem.W.findIn K (.ref C3) "__getattribute__" = some (some (.builtin "BaseException.__getattribute__"))) (e3_8 : PySem.W.findIn K (.ref C3) "__getattr__" = some none)
    (e3_9 : PySem.W.hasDictIn K C3 = true) (e3_10 : PySem.W.findIn K (.ref C3) "thing" = some none) (e3_11 : PySem.W.findIn K (.ref C3) "__init__" = some (some (.ref fI3))) (e3_12 : PySem.W.typeIn K (.ref fI3) = some (.type "function")) (e3_13 : PySem.W.clsIn K C3 = some cC3) (e3_14 : PySem.W.subIn K (.ref C3) (.ref C3) = some true)
    (e3_15 : K.lookup fI3 = some ⟨oI3, odI3, .func (PySem.W.fnOf "__init__" "BadRule.__init__" (defArgs s_BadRule) (defBody s_BadRule) (defScope s_BadRule) .none kI3 dI3 pI3 anI3 cI3 tI3), slI3⟩) (e3_16 : PySem.W.codeIn K cI3 "BadRule.__init__" = true) (e3_17 : PySem.W.keepIn K (.ref fI3) = true)
    {CG : Addr} {cdG : ClassData} (xg0 : PySem.W.nsIn K mainGlobals "GateError" = some (some (.ref CG))) (xg1 : PySem.W.typeIn K (.ref CG) = some (.type "type")) (xg2 : PySem.W.clsIn K CG = some cdG) (xg3 : PySem.W.subIn K (.ref CG) (.ref CG) = some true)
    (xs0 : PySem.W.specialIn K (.builtin "object.__class__") "__get__" = some (some (.builtin "getset_descriptor.__get__"))) (xs1 : PySem.W.takesIn K (.builtin "object.__class__") = some true)
    (xc0 : PySem.W.findIn K (.ref C0) "__class__" = some (some (.builtin "object.__class__"))) (xm0 : PySem.W.mroIn K C0 (.type "object") = some true) (xh0 : PySem.W.subIn K (.ref C0) (.ref CG) = some true) (xp0_1 : PySem.W.subIn K (.ref C0) (.ref C1) = some false) (xp0_2 : PySem.W.subIn K (.ref C0) (.ref C2) = some false) (xp0_3 : PySem.W.subIn K (.ref C0) (.ref C3) = some false)
    (xc1 : PySem.W.findIn K (.ref C1) "__class__" = some (some (.builtin "object.__class__"))) (xm1 : PySem.W.mroIn K C1 (.type "object") = some true) (xh1 : PySem.W.subIn K (.ref C1) (.ref CG) = some true) (xp1_0 : PySem.W.subIn K (.ref C1) (.ref C0) = some false) (xp1_2 : PySem.W.subIn K (.ref C1) (.ref C2) = some false) (xp1_3 : PySem.W.subIn K (.ref C1) (.ref C3) = some false)
    (xc2 : PySem.W.findIn K (.ref C2) "__class__" = some (some (.builtin "object.__class__"))) (xm2 : PySem.W.mroIn K C2 (.type "object") = some true) (xh2 : PySem.W.subIn K (.ref C2) (.ref CG) = some true) (xp2_0 : PySem.W.subIn K (.ref C2) (.ref C0) = some false) (xp2_1 : PySem.W.subIn K (.ref C2) (.ref C1) = some false) (xp2_3 : PySem.W.subIn K (.ref C2) (.ref C3) = some false)
    (xc3 : PySem.W.findIn K (.ref C3) "__class__" = some (some (.builtin "object.__class__"))) (xm3 : PySem.W.mroIn K C3 (.type "object") = some true) (xh3 : PySem.W.subIn K (.ref C3) (.ref CG) = some true) (xp3_0 : PySem.W.subIn K (.ref C3) (.ref C0) = some false) (xp3_1 : PySem.W.subIn K (.ref C3) (.ref C1) = some false) (xp3_2 : PySem.W.subIn K (.ref C3) (.ref C2) = some false)
    {dB : Option Addr} {slA : Array (Option Value)} {vsA : Array Value} {Pt : Addr} (m0 : K.lookup cA = some ⟨.type "code", dB, .fields vsA, slA⟩) (m1 : (vsA[11]? : Option Value) = some (.ref Pt)) (m2 : codeB vsA cA Pt = true) (m3 : K.lookup Pt = none)
    :
    ∃ (fd : FuncData) (cA Pt : Addr), h.get? Pt = some { cls := .none, data := .fields #[] } ∧ K.lookup Pt = none ∧ PySem.W.codeHdIn K cA Pt = true ∧ (∀ (s : Shared) (v : Value), BindsTo s fd ⟨[v], []⟩ [("_law_script", v)]) ∧
      ∀ base : Heap, K.In base → base.Ns mainGlobals mg → LamX.TabB base mg cA Pt → FnG l.prog w K mg base 8 fa fd ["_law_script"] (spLaw Pt K) := by
  have e := hfa.symm.trans (PySem.W.mg_of X G a19)
  cases e
  have B : Blt mg := ⟨PySem.W.mg_none_of X G z0, PySem.W.mg_none_of X G z1, PySem.W.mg_none_of X G z2, PySem.W.mg_none_of X G z3, PySem.W.mg_none_of X G z4, PySem.W.mg_none_of X G z5, PySem.W.mg_none_of X G z6, PySem.W.mg_none_of X G z7, PySem.W.mg_none_of X G z8, PySem.W.mg_none_of X G z9, PySem.W.mg_none_of X G z10, PySem.W.mg_none_of X G z11, PySem.W.mg_none_of X G z12⟩
  have Cn : Con mg tk0 := ⟨B, PySem.W.mg_of X G x0⟩
  have U0 := fun_mk (st := s_is_integer) l0 c0 k0
  have b0 := U0.binds (ps := ["thing"]) fun _ _ _ _ _ _ us hl => match us, hl with | [_], _ => rfl
  have F0 : Fn K mg "is_integer" s_is_integer ["thing"] _ _ := ⟨U0, b0, PySem.W.mg_of X G a0⟩
  have U1 := fun_mk (st := s_is_health_rule) l1 c1 k1
  have b1 := U1.binds (ps := ["thing"]) fun _ _ _ _ _ _ us hl => match us, hl with | [_], _ => rfl
  have F1 : Fn K mg "is_health_rule" s_is_health_rule ["thing"] _ _ := ⟨U1, b1, PySem.W.mg_of X G a1⟩
  have U2 := fun_mk (st := s_is_mark) l2 c2 k2
  have b2 := U2.binds (ps := ["rule", "thing"]) fun _ _ _ _ _ _ us hl => match us, hl with | [_, _], _ => rfl
  have F2 : Fn K mg "is_mark" s_is_mark ["rule", "thing"] _ _ := ⟨U2, b2, PySem.W.mg_of X G a2⟩
  have U3 := fun_mk (st := s_doubled_waits) l3 c3 k3
  have b3 := U3.binds (ps := ["rule"]) fun _ _ _ _ _ _ us hl => match us, hl with | [_], _ => rfl
  have F3 : Fn K mg "doubled_waits" s_doubled_waits ["rule"] _ _ := ⟨U3, b3, PySem.W.mg_of X G a3⟩
  have U4 := fun_mk (st := s_new_mark) l4 c4 k4
  have b4 := U4.binds (ps := ["rule"]) fun _ _ _ _ _ _ us hl => match us, hl with | [_], _ => rfl
  have F4 : Fn K mg "new_mark" s_new_mark ["rule"] _ _ := ⟨U4, b4, PySem.W.mg_of X G a4⟩
  have U5 := fun_mk (st := s_looked) l5 c5 k5
  have b5 := U5.binds (ps := ["rule", "mark", "is_good", "now"]) fun _ _ _ _ _ _ us hl => match us, hl with | [_, _, _, _], _ => rfl
  have F5 : Fn K mg "looked" s_looked ["rule", "mark", "is_good", "now"] _ _ := ⟨U5, b5, PySem.W.mg_of X G a5⟩
  have U6 := fun_mk (st := s_is_due) l6 c6 k6
  have b6 := U6.binds (ps := ["rule", "mark", "now"]) fun _ _ _ _ _ _ us hl => match us, hl with | [_, _, _], _ => rfl
  have F6 : Fn K mg "is_due" s_is_due ["rule", "mark", "now"] _ _ := ⟨U6, b6, PySem.W.mg_of X G a6⟩
  have U7 := fun_mk (st := s__law_deck) l7 c7 k7
  have b7 := U7.binds (ps := ["_law_script"]) fun _ _ _ _ _ _ us hl => match us, hl with | [_], _ => rfl
  have F7 : Fn K mg "_law_deck" s__law_deck ["_law_script"] _ _ := ⟨U7, b7, PySem.W.mg_of X G a7⟩
  have U8 := fun_mk (st := s__law_draw) l8 c8 k8
  have b8 := U8.binds (ps := ["_law_deck_here", "_law_many"]) fun _ _ _ _ _ _ us hl => match us, hl with | [_, _], _ => rfl
  have F8 : Fn K mg "_law_draw" s__law_draw ["_law_deck_here", "_law_many"] _ _ := ⟨U8, b8, PySem.W.mg_of X G a8⟩
  have U9 := fun_mk (st := s__law_pick) l9 c9 k9
  have b9 := U9.binds (ps := ["_law_deck_here", "_law_some"]) fun _ _ _ _ _ _ us hl => match us, hl with | [_, _], _ => rfl
  have F9 : Fn K mg "_law_pick" s__law_pick ["_law_deck_here", "_law_some"] _ _ := ⟨U9, b9, PySem.W.mg_of X G a9⟩
  have U10 := fun_mk (st := s__law_is_int) l10 c10 k10
  have b10 := U10.binds (ps := ["_law_thing", "_law_low", "_law_high"]) fun _ _ _ _ _ _ us hl => match us, hl with | [_, _, _], _ => rfl
  have F10 : Fn K mg "_law_is_int" s__law_is_int ["_law_thing", "_law_low", "_law_high"] _ _ := ⟨U10, b10, PySem.W.mg_of X G a10⟩
  have U11 := fun_mk (st := s__law_is_tuple) l11 c11 k11
  have b11 := U11.binds (ps := ["_law_thing", "_law_many"]) fun _ _ _ _ _ _ us hl => match us, hl with | [_, _], _ => rfl
  have F11 : Fn K mg "_law_is_tuple" s__law_is_tuple ["_law_thing", "_law_many"] _ _ := ⟨U11, b11, PySem.W.mg_of X G a11⟩
  have U12 := fun_mk (st := s__law_is_rule) l12 c12 k12
  have b12 := U12.binds (ps := ["_law_thing"]) fun _ _ _ _ _ _ us hl => match us, hl with | [_], _ => rfl
  have F12 : Fn K mg "_law_is_rule" s__law_is_rule ["_law_thing"] _ _ := ⟨U12, b12, PySem.W.mg_of X G a12⟩
  have U13 := fun_mk (st := s__law_is_mark) l13 c13 k13
  have b13 := U13.binds (ps := ["_law_rule", "_law_thing"]) fun _ _ _ _ _ _ us hl => match us, hl with | [_, _], _ => rfl
  have F13 : Fn K mg "_law_is_mark" s__law_is_mark ["_law_rule", "_law_thing"] _ _ := ⟨U13, b13, PySem.W.mg_of X G a13⟩
  have U14 := fun_mk (st := s__law_looked) l14 c14 k14
  have b14 := U14.binds (ps := ["_law_rule", "_law_mark", "_law_is_good", "_law_now"]) fun _ _ _ _ _ _ us hl => match us, hl with | [_, _, _, _], _ => rfl
  have F14 : Fn K mg "_law_looked" s__law_looked ["_law_rule", "_law_mark", "_law_is_good", "_law_now"] _ _ := ⟨U14, b14, PySem.W.mg_of X G a14⟩
  have U15 := fun_mk (st := s__law_tried) l15 c15 k15
  have b15 := U15.binds (ps := ["_law_call"]) fun _ _ _ _ _ _ us hl => match us, hl with | [_], _ => rfl
  have F15 : Fn K mg "_law_tried" s__law_tried ["_law_call"] _ _ := ⟨U15, b15, PySem.W.mg_of X G a15⟩
  have U16 := fun_mk (st := s__law_near) l16 c16 k16
  have b16 := U16.binds (ps := ["_law_deck_here", "_law_thing"]) fun _ _ _ _ _ _ us hl => match us, hl with | [_, _], _ => rfl
  have F16 : Fn K mg "_law_near" s__law_near ["_law_deck_here", "_law_thing"] _ _ := ⟨U16, b16, PySem.W.mg_of X G a16⟩
  have U17 := fun_mk (st := s__law_drawn_mark) l17 c17 k17
  have b17 := U17.binds (ps := ["_law_deck_here", "_law_rule"]) fun _ _ _ _ _ _ us hl => match us, hl with | [_, _], _ => rfl
  have F17 : Fn K mg "_law_drawn_mark" s__law_drawn_mark ["_law_deck_here", "_law_rule"] _ _ := ⟨U17, b17, PySem.W.mg_of X G a17⟩
  have U18 := fun_mk (st := s__law_due) l18 c18 k18
  have b18 := U18.binds (ps := ["_law_rule", "_law_mark", "_law_is_good", "_law_now"]) fun _ _ _ _ _ _ us hl => match us, hl with | [_, _, _, _], _ => rfl
  have F18 : Fn K mg "_law_due" s__law_due ["_law_rule", "_law_mark", "_law_is_good", "_law_now"] _ _ := ⟨U18, b18, PySem.W.mg_of X G a18⟩
  have U19 := fun_mk (st := s_law) l19 c19 k19
  have b19 := U19.binds (ps := ["_law_script"]) fun _ _ _ _ _ _ us hl => match us, hl with | [_], _ => rfl
  have F19 : Fn K mg "law" s_law ["_law_script"] _ _ := ⟨U19, b19, PySem.W.mg_of X G a19⟩
  have UI0 := fun_mk (st := s_BadBool) e0_15 e0_16 e0_17
  have bI0 := UI0.binds (ps := ["self", "thing"]) fun _ _ _ _ _ _ us hl => match us, hl with | [_, _], _ => rfl
  have T0 : ExcI K mg "BadBool" "BadBool.__init__" "thing" s_BadBool C0 fI0 _ := ⟨⟨⟨nm0, qn0, Nn0, bs0, bm0, sn0, su0, ab0, co0, dd0, qa0, qb0, qc0, qd0, qe0, e0_1, e0_2⟩, e0_3, e0_4, e0_5, e0_6⟩, ⟨e0_7, e0_8, e0_4, e0_9⟩, e0_10, ⟨e0_11, e0_12⟩, UI0, bI0, PySem.W.mg_of X G e0_0, exm_self e0_4 e0_13 e0_5 e0_14⟩
  have UI1 := fun_mk (st := s_BadMark) e1_15 e1_16 e1_17
  have bI1 := UI1.binds (ps := ["self", "thing"]) fun _ _ _ _ _ _ us hl => match us, hl with | [_, _], _ => rfl
  have T1 : ExcI K mg "BadMark" "BadMark.__init__" "thing" s_BadMark C1 fI1 _ := ⟨⟨⟨nm1, qn1, Nn1, bs1, bm1, sn1, su1, ab1, co1, dd1, qa1, qb1, qc1, qd1, qe1, e1_1, e1_2⟩, e1_3, e1_4, e1_5, e1_6⟩, ⟨e1_7, e1_8, e1_4, e1_9⟩, e1_10, ⟨e1_11, e1_12⟩, UI1, bI1, PySem.W.mg_of X G e1_0, exm_self e1_4 e1_13 e1_5 e1_14⟩
  have UI2 := fun_mk (st := s_BadNumber) e2_15 e2_16 e2_17
  have bI2 := UI2.binds (ps := ["self", "thing"]) fun _ _ _ _ _ _ us hl => match us, hl with | [_, _], _ => rfl
  have T2 : ExcI K mg "BadNumber" "BadNumber.__init__" "thing" s_BadNumber C2 fI2 _ := ⟨⟨⟨nm2, qn2, Nn2, bs2, bm2, sn2, su2, ab2, co2, dd2, qa2, qb2, qc2, qd2, qe2, e2_1, e2_2⟩, e2_3, e2_4, e2_5, e2_6⟩, ⟨e2_7, e2_8, e2_4, e2_9⟩, e2_10, ⟨e2_11, e2_12⟩, UI2, bI2, PySem.W.mg_of X G e2_0, exm_self e2_4 e2_13 e2_5 e2_14⟩
  have UI3 := fun_mk (st := s_BadRule) e3_15 e3_16 e3_17
  have bI3 := UI3.binds (ps := ["self", "thing"]) fun _ _ _ _ _ _ us hl => match us, hl with | [_, _], _ => rfl
  have T3 : ExcI K mg "BadRule" "BadRule.__init__" "thing" s_BadRule C3 fI3 _ := ⟨⟨⟨nm3, qn3, Nn3, bs3, bm3, sn3, su3, ab3, co3, dd3, qa3, qb3, qc3, qd3, qe3, e3_1, e3_2⟩, e3_3, e3_4, e3_5, e3_6⟩, ⟨e3_7, e3_8, e3_4, e3_9⟩, e3_10, ⟨e3_11, e3_12⟩, UI3, bI3, PySem.W.mg_of X G e3_0, exm_self e3_4 e3_13 e3_5 e3_14⟩
  have Kr : KwB K (PySem.W.fnOf "is_health_rule" "is_health_rule" (defArgs s_is_health_rule) (defBody s_is_health_rule) (defScope s_is_health_rule) .none kV1 dc1 pm1 an1 cd1 ct1) ["thing"] ["thing"] (fun u => u) (fun u => u) := ⟨fun s ws hl => match ws, hl with | [y0], _ => .of_eq rfl, fun _ r => r⟩
  have Km : KwB K (PySem.W.fnOf "is_mark" "is_mark" (defArgs s_is_mark) (defBody s_is_mark) (defScope s_is_mark) .none kV2 dc2 pm2 an2 cd2 ct2) ["rule", "thing"] ["thing", "rule"] List.reverse List.reverse := ⟨fun s ws hl => match ws, hl with | [y0, y1], _ => .of_eq rfl, fun _ r => vals_rev r⟩
  have Ex : Exs K 4 (fun k => match k with | 0 => C0 | 1 => C1 | 2 => C2 | _ => C3) CG := exs_mk (fun k hk => match k, hk with | 0, _ => ⟨e0_7, e0_8, e0_4, e0_9, e0_10, xc0, xm0, e0_5, (congrArg Option.isSome e0_13).trans rfl⟩ | 1, _ => ⟨e1_7, e1_8, e1_4, e1_9, e1_10, xc1, xm1, e1_5, (congrArg Option.isSome e1_13).trans rfl⟩ | 2, _ => ⟨e2_7, e2_8, e2_4, e2_9, e2_10, xc2, xm2, e2_5, (congrArg Option.isSome e2_13).trans rfl⟩ | 3, _ => ⟨e3_7, e3_8, e3_4, e3_9, e3_10, xc3, xm3, e3_5, (congrArg Option.isSome e3_13).trans rfl⟩) xs0 xs1
    (fun k hk j hj => match k, hk, j, hj with | 0, _, 0, _ => e0_14 | 0, _, 1, _ => xp0_1 | 0, _, 2, _ => xp0_2 | 0, _, 3, _ => xp0_3 | 1, _, 0, _ => xp1_0 | 1, _, 1, _ => e1_14 | 1, _, 2, _ => xp1_2 | 1, _, 3, _ => xp1_3 | 2, _, 0, _ => xp2_0 | 2, _, 1, _ => xp2_1 | 2, _, 2, _ => e2_14 | 2, _, 3, _ => xp2_3 | 3, _, 0, _ => xp3_0 | 3, _, 1, _ => xp3_1 | 3, _, 2, _ => xp3_2 | 3, _, 3, _ => e3_14) xg1 ((congrArg Option.isSome xg2).trans rfl) xg3 (fun k hk => match k, hk with | 0, _ => xh0 | 1, _ => xh1 | 2, _ => xh2 | 3, _ => xh3)
  have gE0 := PySem.W.mg_of X G e0_0
  have gE1 := PySem.W.mg_of X G e1_0
  have gE2 := PySem.W.mg_of X G e2_0
  have gE3 := PySem.W.mg_of X G e3_0
  have gG := PySem.W.mg_of X G xg0
  have hT := own fa (PySem.W.mg_of X G a19) cA Pt _ _ _ _ _ _ l19 rfl rfl m0 m1
  refine ⟨PySem.W.fnOf "law" "law" (defArgs s_law) (defBody s_law) (defScope s_law) .none kV19 dc19 pm19 an19 (.ref cA) ct19, cA, Pt, hT, m3, codeB_in m0 m2, fun s v => .of_eq rfl, fun base _ _ TB => ?_⟩
  have Grule : FnOk l.prog w K mg base CX0 _ _ _ _ _ := ok_ruleA F1 Cn F0
  have Gmark : FnOk l.prog w K mg base (L2N.CX l.prog w) _ _ _ _ _ := ok_markA F2 Cn F0 F1 F3 T3
  have Gnew : FnOk l.prog w K mg base (L2N.CX l.prog w) _ _ _ _ _ := ok_newA F4 Cn F1 Grule T3
  have Glook : FnOk l.prog w K mg base (L2N.CX l.prog w) _ _ _ _ _ := ok_lookedA F5 Cn F2 Gmark F0 T1 T0 T2
  have Gdue : FnOk l.prog w K mg base (L2N.CX l.prog w) _ _ _ _ _ := ok_dueA F6 Cn F2 Gmark F0 T1 T2
  have Gdeck : FnOk l.prog w K mg base CX0 _ _ _ _ _ := ok_deck F7 B
  have Gdraw : FnOk l.prog w K mg base CX0 _ _ _ _ _ := ok_draw F8 B
  have Gpick : FnOk l.prog w K mg base CX0 _ _ _ _ _ := ok_pick F9 B F8
  have Glrule : FnOk l.prog w K mg base CX0 _ _ _ _ _ := ok_lrule F12 B F11 F10
  have Glmark : FnOk l.prog w K mg base CX0 _ _ _ _ _ := ok_lmark F13 B F11 F10
  have Gllook : FnOk l.prog w K mg base CX0 _ _ _ _ _ := ok_llook F14 B
  have Gldue : FnOk l.prog w K mg base CX0 _ _ _ _ _ := ok_ldue F18 B F12 Glrule F13 Glmark F10 F14
  have Gnear : FnOk l.prog w K mg base CX0 _ _ _ _ _ := ok_near F16 B F8 F9 Gdraw Gpick
  have Gdm : FnOk l.prog w K mg base CX0 _ _ _ _ _ := ok_dmark F17 B F8 F9 F16 F14 Gdraw Gpick Gnear Gllook
  exact ok_law F19 Cn rfl TB Ex gE0 gE1 gE2 gE3 gG F7 Gdeck F8 Gdraw F9 Gpick F12 Glrule F13 Glmark F16 Gnear F17 Gdm F18 Gldue F15 F1 Grule Kr F2 Gmark Km F5 Glook F6 Gdue F4 Gnew
end Ag

end
/-! ## Tail -/
open PySem PySem.W PyProof.Rows
set_option maxRecDepth 100000 in
set_option maxHeartbeats 0 in
theorem PySem.Challenge.cw_answergate_k23_any_values_as_marks_and_r_holds : PySem.Challenge.rw_answergate_k23_any_values_as_marks_and_r.Holds := by
  w_on; o_law; k_head; (case hw => w_witness2)
  k_fill
  refine Ag.walkGT (l := PySem.Challenge.rw_answergate_k23_any_values_as_marks_and_r) (n := 63) (k := 8) (x := "_law_script") (y := "law") (sp := Ag.spLaw) rfl (by decide) rfl ⟨rfl, by decide, by decide⟩ (by decide +kernel) (fun w h Y => PySem.W.km_in_of Y) ?F (fun Pt K H a ns hl hP hS => ⟨a, ns, rfl, hS, hl, fun y hy => by rw [List.mem_singleton.mp hy]; exact LamX.TabS.nil hP, fun _ => rfl⟩)
  case F =>
    intro w mg fa h KX G hmg own
    refine' Ag.all_mk KX G hmg own ?ya0 ?yl0 ?yc0 ?yk0 ?ya1 ?yl1 ?yc1 ?yk1 ?ya2 ?yl2 ?yc2 ?yk2 ?ya3 ?yl3 ?yc3 ?yk3 ?ya4 ?yl4 ?yc4 ?yk4 ?ya5 ?yl5 ?yc5 ?yk5 ?ya6 ?yl6 ?yc6 ?yk6 ?ya7 ?yl7 ?yc7 ?yk7 ?ya8 ?yl8 ?yc8 ?yk8 ?ya9 ?yl9 ?yc9 ?yk9 ?ya10 ?yl10 ?yc10 ?yk10 ?ya11 ?yl11 ?yc11 ?yk11 ?ya12 ?yl12 ?yc12 ?yk12 ?ya13 ?yl13 ?yc13 ?yk13 ?ya14 ?yl14 ?yc14 ?yk14 ?ya15 ?yl15 ?yc15 ?yk15 ?ya16 ?yl16 ?yc16 ?yk16 ?ya17 ?yl17 ?yc17 ?yk17 ?ya18 ?yl18 ?yc18 ?yk18 ?ya19 ?yl19 ?yc19 ?yk19 ?yz0 ?yz1 ?yz2 ?yz3 ?yz4 ?yz5 ?yz6 ?yz7 ?yz8 ?yz9 ?yz10 ?yz11 ?yz12 ?yx0 ?ye0_0 ?ye0_1 ?ye0_2 ?ye0_3 ?ye0_4 ?ye0_5 ?ye0_6 ?ye0_7 ?ye0_8 ?ye0_9 ?ye0_10 ?ye0_11 ?ye0_12 ?ye0_13 ?ye0_14 ?ye0_15 ?ye0_16 ?ye0_17 ?ye1_0 ?ye1_1 ?ye1_2 ?ye1_3 ?ye1_4 ?ye1_5 ?ye1_6 ?ye1_7 ?ye1_8 ?ye1_9 ?ye1_10 ?ye1_11 ?ye1_12 ?ye1_13 ?ye1_14 ?ye1_15 ?ye1_16 ?ye1_17 ?ye2_0 ?ye2_1 ?ye2_2 ?ye2_3 ?ye2_4 ?ye2_5 ?ye2_6 ?ye2_7 ?ye2_8 ?ye2_9 ?ye2_10 ?ye2_11 ?ye2_12 ?ye2_13 ?ye2_14 ?ye2_15 ?ye2_16 ?ye2_17 ?ye3_0 ?ye3_1 ?ye3_2 ?ye3_3 ?ye3_4 ?ye3_5 ?ye3_6 ?ye3_7 ?ye3_8 ?ye3_9 ?ye3_10 ?ye3_11 ?ye3_12 ?ye3_13 ?ye3_14 ?ye3_15 ?ye3_16 ?ye3_17 ?yxg0 ?yxg1 ?yxg2 ?yxg3 ?yxs0 ?yxs1 ?yxc0 ?yxm0 ?yxh0 ?yxp0_1 ?yxp0_2 ?yxp0_3 ?yxc1 ?yxm1 ?yxh1 ?yxp1_0 ?yxp1_2 ?yxp1_3 ?yxc2 ?yxm2 ?yxh2 ?yxp2_0 ?yxp2_1 ?yxp2_3 ?yxc3 ?yxm3 ?yxh3 ?yxp3_0 ?yxp3_1 ?yxp3_2 ?ym0 ?ym1 ?ym2 ?ym3
    (case ya0 => k_is); (case yl0 => k_is); (case yc0 => k_is); (case yk0 => k_is)
    (case ya1 => k_is); (case yl1 => k_is); (case yc1 => k_is); (case yk1 => k_is)
    (case ya2 => k_is); (case yl2 => k_is); (case yc2 => k_is); (case yk2 => k_is)
    (case ya3 => k_is); (case yl3 => k_is); (case yc3 => k_is); (case yk3 => k_is)
    (case ya4 => k_is); (case yl4 => k_is); (case yc4 => k_is); (case yk4 => k_is)
    (case ya5 => k_is); (case yl5 => k_is); (case yc5 => k_is); (case yk5 => k_is)
    (case ya6 => k_is); (case yl6 => k_is); (case yc6 => k_is); (case yk6 => k_is)
    (case ya7 => k_is); (case yl7 => k_is); (case yc7 => k_is); (case yk7 => k_is)
    (case ya8 => k_is); (case yl8 => k_is); (case yc8 => k_is); (case yk8 => k_is)
    (case ya9 => k_is); (case yl9 => k_is); (case yc9 => k_is); (case yk9 => k_is)
    (case ya10 => k_is); (case yl10 => k_is); (case yc10 => k_is); (case yk10 => k_is)
    (case ya11 => k_is); (case yl11 => k_is); (case yc11 => k_is); (case yk11 => k_is)
    (case ya12 => k_is); (case yl12 => k_is); (case yc12 => k_is); (case yk12 => k_is)
    (case ya13 => k_is); (case yl13 => k_is); (case yc13 => k_is); (case yk13 => k_is)
    (case ya14 => k_is); (case yl14 => k_is); (case yc14 => k_is); (case yk14 => k_is)
    (case ya15 => k_is); (case yl15 => k_is); (case yc15 => k_is); (case yk15 => k_is)
    (case ya16 => k_is); (case yl16 => k_is); (case yc16 => k_is); (case yk16 => k_is)
    (case ya17 => k_is); (case yl17 => k_is); (case yc17 => k_is); (case yk17 => k_is)
    (case ya18 => k_is); (case yl18 => k_is); (case yc18 => k_is); (case yk18 => k_is)
    (case ya19 => k_is); (case yl19 => k_is); (case yc19 => k_is); (case yk19 => k_is)
    (case yz0 => k_is); (case yz1 => k_is); (case yz2 => k_is); (case yz3 => k_is); (case yz4 => k_is); (case yz5 => k_is); (case yz6 => k_is); (case yz7 => k_is); (case yz8 => k_is); (case yz9 => k_is); (case yz10 => k_is); (case yz11 => k_is); (case yz12 => k_is)
    (case yx0 => k_is)
    (case ye0_0 => k_is); (case ye0_1 => k_is); (case ye0_2 => rfl); (case ye0_3 => k_is); (case ye0_4 => k_is); (case ye0_5 => k_is); (case ye0_6 => k_is); (case ye0_7 => k_is); (case ye0_8 => k_is); (case ye0_9 => k_is); (case ye0_10 => k_is); (case ye0_11 => k_is); (case ye0_12 => k_is); (case ye0_13 => k_is); (case ye0_14 => k_is); (case ye0_15 => k_is); (case ye0_16 => k_is); (case ye0_17 => k_is)
    (case ye1_0 => k_is); (case ye1_1 => k_is); (case ye1_2 => rfl); (case ye1_3 => k_is); (case ye1_4 => k_is); (case ye1_5 => k_is); (case ye1_6 => k_is); (case ye1_7 => k_is); (case ye1_8 => k_is); (case ye1_9 => k_is); (case ye1_10 => k_is); (case ye1_11 => k_is); (case ye1_12 => k_is); (case ye1_13 => k_is); (case ye1_14 => k_is); (case ye1_15 => k_is); (case ye1_16 => k_is); (case ye1_17 => k_is)
    (case ye2_0 => k_is); (case ye2_1 => k_is); (case ye2_2 => rfl); (case ye2_3 => k_is); (case ye2_4 => k_is); (case ye2_5 => k_is); (case ye2_6 => k_is); (case ye2_7 => k_is); (case ye2_8 => k_is); (case ye2_9 => k_is); (case ye2_10 => k_is); (case ye2_11 => k_is); (case ye2_12 => k_is); (case ye2_13 => k_is); (case ye2_14 => k_is); (case ye2_15 => k_is); (case ye2_16 => k_is); (case ye2_17 => k_is)
    (case ye3_0 => k_is); (case ye3_1 => k_is); (case ye3_2 => rfl); (case ye3_3 => k_is); (case ye3_4 => k_is); (case ye3_5 => k_is); (case ye3_6 => k_is); (case ye3_7 => k_is); (case ye3_8 => k_is); (case ye3_9 => k_is); (case ye3_10 => k_is); (case ye3_11 => k_is); (case ye3_12 => k_is); (case ye3_13 => k_is); (case ye3_14 => k_is); (case ye3_15 => k_is); (case ye3_16 => k_is); (case ye3_17 => k_is)
    (case yxg0 => k_is)
    (case yxg1 => k_is)
    (case yxg2 => k_is)
    (case yxg3 => k_is)
    (case yxs0 => k_is)
    (case yxs1 => k_is)
    (case yxc0 => k_is)
    (case yxm0 => k_is)
    (case yxh0 => k_is)
    (case yxp0_1 => k_is)
    (case yxp0_2 => k_is)
    (case yxp0_3 => k_is)
    (case yxc1 => k_is)
    (case yxm1 => k_is)
    (case yxh1 => k_is)
    (case yxp1_0 => k_is)
    (case yxp1_2 => k_is)
    (case yxp1_3 => k_is)
    (case yxc2 => k_is)
    (case yxm2 => k_is)
    (case yxh2 => k_is)
    (case yxp2_0 => k_is)
    (case yxp2_1 => k_is)
    (case yxp2_3 => k_is)
    (case yxc3 => k_is)
    (case yxm3 => k_is)
    (case yxh3 => k_is)
    (case yxp3_0 => k_is)
    (case yxp3_1 => k_is)
    (case yxp3_2 => k_is)
    (case ym0 => k_is)
    (case ym1 => rfl)
    (case ym2 => rfl)
    (case ym3 => rfl)

