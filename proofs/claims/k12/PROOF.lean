import PyProof.Rows.All
import Wide.All
import OpenK.AllK
import Wide.FinOn
import HandS.ForMost
import HandS.IsInst
import HandS.FStr
import HandS.StrMore
import HandS.Style
import HandS.SortInts
import HandS.Wide
import HandS.TupAny
import HandS.TupMul
import PyProof.StrBlock2
import PyProof.ReprRoads
import PyProof.ReprText
import HandS.Codes
import PyProof.P3In
import PyProof.ReprBulk
import PyProof.EqAt
import PyProof.EqKinds
import PyProof.FactsAll.subtypes_3
import PyProof.FactsAll.subtypes_4
import PyProof.FactsAll.dict_1
import HandS.Walk
import HandS.Strs
import HandS.SetFor
import PyProof.SetRoads
import HandS.Star
import KE.KExcInit
import HandS.ExcInit
import HandS.ExcField
import HandS.ExcCtx
import HandS.WordsExc
import PyProof.Draws
import PyProof.EnumFor
import PyProof.EnumMake
import PyProof.ListStr
import HandS.Conv
import HandS.Lambda
import HandS.More
import HandS.Zip
import PyProof.NeKinds
import HandS.Hot
import HandS.HotCalls
import HandS.ExcIs
import KE.KExcIs
import KE.KTryMore
import HandS.EndOwn
import HandS.NestedK
import PySem.Challenge.RW_answergate_k12_whole_views_under_any_new
set_option Elab.async false
/-! ## Base0 -/
section
set_option linter.all false
set_option maxRecDepth 100000
namespace Ag
open PySem PySem.Spec PyProof.Rows L2
/-! ### a def's promise where it is known that no repr runs around the call -/
structure FnG (P : Program) (w : World) (K : PySem.W.Frag) (mg : Str → Option Value) (base : Heap) (k : Nat) (f : Addr) (fd : FuncData) (ps : List Str) (sp : Sp) : Prop where
  len : ∀ vs H Q E, sp vs H Q E → vs.length = ps.length
  run : ∀ (A : Around) (outer : List Env) (s : Shared) (H : Hp) (args : Args) (us : List Value) (vs : List V) (Q : VK) (E : XK), Room k A → A.guards = some [] →
    Env0 P w K mg base A outer s H → BindsTo s fd args (ps.zip us) → Vals vs us → sp vs H Q E → codeAny (model P w) A (.call (.ref f) args) (CR CX0 outer P w H s Q E) s
theorem FnG.of {P : Program} {w : World} {K : PySem.W.Frag} {mg : Str → Option Value} {base : Heap} {k : Nat} {f : Addr} {fd : FuncData} {ps : List Str} {sp : Sp} (F : FnOk P w K mg base CX0 k f fd ps sp) :
    FnG P w K mg base k f fd ps sp := ⟨F.len, fun A outer s H args us vs Q E hr _ => F.run A outer s H args us vs Q E hr⟩
theorem g_deeper {A : Around} {env : Env} (h : A.guards = some []) : (A.deeper env).guards = some [] := by
  first | exact h | (simp [Around.deeper, h])
section
variable {P : Program} {w : World} {K : PySem.W.Frag} {mg : Str → Option Value} {base : Heap}
theorem okG {x qual : Str} {st : Stmt} {f : Addr} {fd : FuncData} {N ps : List Str} {k : Nat} {sp : Sp} (F : Fun K x qual st f fd) (S : FnScope N ps (defScope st))
    (len : ∀ vs H Q E, sp vs H Q E → vs.length = ps.length)
    (hbody : ∀ (cdv : Value) (A : Around) (outer : List Env) (s : Shared) (H : Hp) (vs : List V) (Q : VK) (E : XK), Room k (A.deeper (envOfC qual (defScope st) s.heap.objs.size f cdv)) →
      (A.deeper (envOfC qual (defScope st) s.heap.objs.size f cdv)).guards = some [] → sp vs H Q E →
      ∃ t, PSs (cxOf CX0 P w K mg base N qual (defScope st) f cdv A outer s H E).nox (defBody st) t ∧ t { nx := fun _ H' => Q .non H', rt := Q } (start N vs) H) :
    FnG P w K mg base (k + 1) f fd ps sp := by
  obtain ⟨oc, od, kV, doc, pm, an, cdv, ct, osl, rfl, lk, hcd⟩ := F.ex
  refine ⟨len, ?_⟩
  intro A outer s H args us vs Q E hr hg env0 hb rel hsp
  have hlen := len vs H Q E hsp
  have below : ∀ b o, base.get? b = some o → s.heap.get? b = some o := fun b o e => (env0.bs b o e).1
  have KX : K.In s.heap := env0.mod.kin.keeps below
  have noLim : s.heap.NoLimit := env0.mod.nolimit.keeps below
  have kinds : ∀ y ∈ ps.zip us, (defScope st).names.lookup y.1 = some .local ∨ ((defScope st).names.lookup y.1 = some .cell ∧ ((cellsFrom (s.heap.objs.size + 1) (defScope st).names []).lookup y.1).isSome = true) := by
    rintro ⟨n, v⟩ hy
    exact (S.par n (List.of_mem_zip hy).1).imp id fun q => ⟨q, PySem.W.cellsFrom_some _ _ _ (.inl q)⟩
  refine codeAny_call_function hr.depth (KX f _ lk) rfl S.co S.gen rfl (PySem.W.codeRec_of KX hcd) (hb _ _ _ _ (wpAny_newFunctionEnv_cells S.kind kinds ?_))
  intro env he s1 x
  subst he
  refine ⟨noLim.keeps x.toInCall.keep, codeAny_func ?_⟩
  obtain ⟨t, ht, hq⟩ := hbody cdv A outer s H vs Q E (hr.deeper _) (g_deeper hg) hsp
  have I := inv_start (CX := CX0) (E := E) S hr.hd env0 hlen rel x
  refine wpAny_mono (ht.nox.run [] s1 (start N vs) H _ I hq) (fun fl s' hs => ?_) (fun e s' hs => hs)
  cases fl with
  | brk => exact hs.elim fun _ z => z.elim fun _ z => z.2.elim
  | cont => exact hs.elim fun _ z => z.elim fun _ z => z.2.elim
  | next =>
    obtain ⟨σ', H', J, q⟩ := hs
    exact ⟨.non, H', J.os, J.bare, J.base, J.hok, rfl, q⟩
  | ret u =>
    obtain ⟨v, σ', H', J, rv, q⟩ := hs
    exact ⟨v, H', J.os, J.bare, J.base, J.hok, rv, q⟩
end
section
variable {X : Cx} {k : Nat} {f : Addr} {fd : FuncData} {ps : List Str} {sp : Sp} {x : Str} {p pos : Pos} {e : Expr} {es : List Expr} {t : TA}
theorem run_G {pins : List (Addr × Obj)} {σ : L2.St} {H : Hp} {s : Shared} {Q : VK} {us : List Value} {vs : List V} {args : Args} (F : FnG X.prog X.w X.K X.mg X.base k f fd ps sp) (hr : Room k X.A) (hG : X.A.guards = some [])
    (I : Inv X pins σ H s) (hb : BindsTo s fd args (ps.zip us)) (r : Vals vs us) (h : sp vs H Q E0) : codeAny (model X.prog X.w) X.A (.call (.ref f) args) (fun r s' => ∃ u, r = .ok (.ret u) ∧ EP X pins σ Q u s') s := by
  refine codeAny_mono (F.run X.A X.stack s H args us vs Q E0 hr hG I.env0 hb r h) ?_
  intro r s' hq
  match r, hq with
  | .error e, hq => exact hq.elim
  | .ok (.ret u), hq => exact ⟨u, rfl, I.after hq⟩
/-- f(e, ..) -/
theorem pe_callG (F : FnG X.prog X.w X.K X.mg X.base k f fd ps sp) (hr : Room k X.A) (hG : X.A.guards = some []) (hg : Gl X x) (hm : X.mg x = some (.ref f)) (hk : PySem.W.keepIn X.K (.ref f) = true) (hb : Binds X.K fd ps [])
    (ha : PA X (e :: es) t) (hdb : (x == ("__debug__" : Str)) = false := by decide) (he : starEach (e :: es) X.env = (false, eval e X.env) :: starEach es X.env := by rfl) (hpl : (backTo pos (starEach es X.env)).any (·.1) = false := by rfl) :
    PE X (.Call (.Name x p) (e :: es) [] pos) (tCall sp [] E0 t) := by
  constructor
  intro pins s σ H Q I h
  refine wpAny_Call_Name_kw (ld_glob I hg hm (PySem.W.callWith_K (h₀ := X.base) I.ok.mod.kin hk (thn (ha.run pos pins s σ H _ I h) ?_) he hpl) hdb)
  rintro us s1 ⟨vs, H1, I1, r, q⟩
  rw [List.append_nil] at q
  have hl : us.length = ps.length := by rw [← r.length]; exact F.len _ _ _ _ q
  have z := hb s1 us I1.kIn (by rw [List.append_nil]; exact hl)
  rw [List.append_nil] at z
  refine ⟨I1.kIn, ?_⟩
  show wpAny _ _ (call (.ref f) us) _ _ _
  refine wpAny_call (codeAny_mono (run_G F hr hG I1 z r q) ?_)
  rintro r s' ⟨u, rfl, z⟩
  exact z
/-- f(k = e, ..), keywords alone -/
structure KwB (K : PySem.W.Frag) (fd : FuncData) (ps ks : List Str) (gv : List Value → List Value) (gV : List V → List V) : Prop where
  to : ∀ (s : Shared) (ws : List Value), ws.length = ks.length → BindsTo s fd ⟨[], ks.zip ws⟩ (ps.zip (gv ws))
  rel : ∀ {zs : List V} {ws : List Value}, zs.length = ks.length → Vals zs ws → Vals (gV zs) (gv ws)
def tCallKw (sp : Sp) (n : Nat) (gV : List V → List V) (t : TA) : TE := fun σ H Q => t σ H fun zs H2 => zs.length = n ∧ sp (gV zs) H2 Q E0
variable {ks : List Str} {gv : List Value → List Value} {gV : List V → List V} {kws : List Keyword}
theorem pe_callKwG (F : FnG X.prog X.w X.K X.mg X.base k f fd ps sp) (hr : Room k X.A) (hG : X.A.guards = some []) (hg : Gl X x) (hm : X.mg x = some (.ref f)) (hk : PySem.W.keepIn X.K (.ref f) = true) (hb : KwB X.K fd ps ks gv gV)
    (ha : PK X kws t) (hall : (backToKw pos (keywordEach kws X.env)).all (·.1.isSome) = true := by rfl) (hks : (backToKw pos (keywordEach kws X.env)).filterMap (·.1) = ks := by rfl) (hdb : (x == ("__debug__" : Str)) = false := by decide)
    (hpl : ((backTo pos (starEach [] X.env)).any (·.1) || (backToKw pos (keywordEach kws X.env)).any (·.1.isNone)) = false := by rfl) : PE X (.Call (.Name x p) [] kws pos) (tCallKw sp ks.length gV t) := by
  constructor
  intro pins s σ H Q I h
  refine wpAny_Call_Name_kw (ld_glob I hg hm (PySem.W.callWith_KW0 (h₀ := X.base) I.ok.mod.kin hk hall (thn (ha.run pos pins s σ H _ I h) ?_) hpl) hdb)
  rintro ws s2 ⟨zs, H2, I2, rz, l, q⟩
  refine ⟨I2.kIn, ?_⟩
  rw [hks]
  refine wpAny_call (codeAny_mono (run_G (args := ⟨[], ks.zip ws⟩) F hr hG I2 (hb.to s2 ws (by rw [← rz.length]; exact l)) (hb.rel l rz) q) ?_)
  rintro r s' ⟨u, rfl, z⟩
  exact z
/-! ### repr of data -/
theorem call_repr_data (hu : X.A.units + 66 < cLine) (hG : X.A.guards = some []) : CallR X (.builtin "repr") (fun xs H Q => ∃ x d, xs = [x] ∧ Dp X.K H x d ∧ d.showable = true ∧ d.hasDict = false ∧ d.depth ≤ 64 ∧ d.shown.length ≤ sizeLine ∧ Q (.str d.shown) H) := by
  intro pins s σ H vs us Q I r h
  obtain ⟨x, d, rfl, hd, h1, h2, h3, h4, q⟩ := h
  obtain ⟨u, rfl, ru⟩ := vals1 r
  cases x with
  | ref a =>
    obtain ⟨as, rd⟩ := Dp.reads I d (.ref a) u hd ru
    obtain rfl : u = Value.ref a := ru
    refine repr_of_reads' rd h1 (fun z => by rw [h2] at z; cases z) hG (by omega) (fun _ _ e => e) (fun h' u tk kp => ?_) h4
    exact ⟨.str d.shown, H, I.kept kp, ⟨_, rfl⟩, q⟩
  | non =>
    cases hd
    obtain rfl : u = Value.none := ru
    exact PySem.P.repr_of_none ⟨.str _, H, I.tok _, ⟨_, rfl⟩, by rw [PyData.shown_none] at q; exact q⟩
  | bl b =>
    cases hd
    obtain rfl : u = Value.bool b := ru
    exact PySem.P.repr_of_bool ⟨.str _, H, I.tok _, ⟨_, rfl⟩, by rw [PyData.shown_bool] at q; exact q⟩
  | int i =>
    cases hd
    obtain ⟨t, rfl⟩ := ru
    exact PySem.P.repr_of_int (by simpa [PyData.showable] using h1) ⟨.str _, H, I.tok _, ⟨_, rfl⟩, by rw [PyData.shown_int] at q; exact q⟩
  | str z =>
    cases hd
    obtain ⟨t, rfl⟩ := ru
    rw [PyData.shown_str] at q h4
    exact PySem.P.repr_of_str ⟨.str _, H, I.tok _, ⟨_, rfl⟩, q⟩ h4
  | byt b => cases hd
  | flt b => cases hd
  | ty n => cases hd
end
end Ag

end
/-! ## Math1 -/
section
set_option linter.all false
namespace Ag
open PySem
/-! ### decimal texts -/
abbrev numL := TL.numL
abbrev digitsVal := NumText.digitsVal
def plainC (c : Nat) : Bool := decide (32 ≤ c) && decide (c ≤ 126)
def digC (c : Nat) : Bool := decide (48 ≤ c) && decide (c ≤ 57)
def plainL (l : List Nat) : Bool := l.all plainC
def isDec (l : List Nat) (m : Nat) : Bool := decide (numL (digitsVal l) = l) && decide (digitsVal l ≤ m)
theorem dv_snoc (l : List Nat) (c : Nat) : digitsVal (l ++ [c]) = digitsVal l * 10 + (c - 48) := by
  show List.foldl _ 0 (l ++ [c]) = _
  rw [List.foldl_append]
  rfl
theorem isDec_iff {l : List Nat} {m : Nat} : isDec l m = true ↔ ∃ k, k ≤ m ∧ l = numL k := by
  unfold isDec
  rw [Bool.and_eq_true, decide_eq_true_eq, decide_eq_true_eq]
  constructor
  · rintro ⟨a, b⟩
    exact ⟨_, b, a.symm⟩
  · rintro ⟨k, hk, rfl⟩
    have e : digitsVal (numL k) = k := TL.numL_val k
    rw [e]
    exact ⟨rfl, hk⟩
theorem numL_all (k : Nat) : ∀ c ∈ numL k, 48 ≤ c ∧ c ≤ 57 := TL.numL_digits k
theorem numL_ne (k : Nat) : numL k ≠ [] := TL.numL_ne k
theorem numL_val (k : Nat) : digitsVal (numL k) = k := TL.numL_val k
theorem numL_zero_head : ∀ (k : Nat) (l : List Nat), numL k = 48 :: l → k = 0 := by
  intro k
  induction k using Nat.strongRecOn with
  | ind k ih =>
    intro l h
    by_cases hk : k < 10
    · have e : numL k = [48 + k] := TL.numL_lt hk
      rw [e] at h
      injection h with h1 h2
      omega
    · have e : numL k = numL (k / 10) ++ [48 + k % 10] := TL.numL_step (by omega)
      rw [e] at h
      have hne := numL_ne (k / 10)
      cases hq : numL (k / 10) with
      | nil => exact absurd hq hne
      | cons d r =>
        rw [hq] at h
        injection h with h1 h2
        subst h1
        have z := ih (k / 10) (by omega) r hq
        omega
/-- one more digit -/
theorem isDec_snoc {s : List Nat} {c m : Nat} (hs : s = [] ∨ ∃ k, s = numL k) :
    isDec (s ++ [c]) m = (digC c && decide (s ≠ [48]) && decide (digitsVal (s ++ [c]) ≤ m)) := by
  rw [Bool.eq_iff_iff, isDec_iff]
  simp only [Bool.and_eq_true, decide_eq_true_eq, digC]
  constructor
  · rintro ⟨k, hk, e⟩
    have hc : 48 ≤ c ∧ c ≤ 57 := numL_all k c (by rw [← e]; simp)
    refine ⟨⟨hc, ?_⟩, ?_⟩
    · rintro rfl
      have z := numL_zero_head k [c] e.symm
      subst z
      have e2 : numL 0 = [48] := TL.numL_lt (by decide)
      rw [e2] at e
      simp at e
    · rw [e, numL_val]
      exact hk
  · rintro ⟨⟨hc, hne⟩, hv⟩
    refine ⟨digitsVal (s ++ [c]), hv, ?_⟩
    rw [dv_snoc]
    rcases hs with rfl | ⟨k, rfl⟩
    · show [c] = numL (0 * 10 + (c - 48))
      have e : numL (0 * 10 + (c - 48)) = [48 + (0 * 10 + (c - 48))] := TL.numL_lt (by omega)
      rw [e]
      congr 1
      omega
    · rw [numL_val]
      have hk : k ≠ 0 := by
        rintro rfl
        exact hne (TL.numL_lt (by decide))
      have e : numL (k * 10 + (c - 48)) = numL ((k * 10 + (c - 48)) / 10) ++ [48 + (k * 10 + (c - 48)) % 10] := TL.numL_step (by omega)
      rw [e, show (k * 10 + (c - 48)) / 10 = k by omega, show 48 + (k * 10 + (c - 48)) % 10 = c by omega]
theorem isDec_nil (m : Nat) : isDec [] m = false := by
  cases h : isDec [] m with
  | false => rfl
  | true =>
    obtain ⟨k, _, e⟩ := isDec_iff.mp h
    exact absurd e.symm (numL_ne k)
theorem numL_len3 {k : Nat} (h : k ≤ 200) : (numL k).length ≤ 3 := TL.numL_len (by decide) (by omega)
/-! ### reading, sign by sign -/
inductive Out where
  | read (ts : List (List Nat)) (r : List Nat)
  | wrong (ts : List (List Nat)) (k : Nat)
  deriving DecidableEq
def Out.pre (ts : List (List Nat)) (i : Nat) : Out → Out
  | .read us r => .read (ts ++ us) r
  | .wrong us k => .wrong (ts ++ us) (i + k)
theorem Out.pre_pre (ts us : List (List Nat)) (i j : Nat) (o : Out) : (o.pre us j).pre ts i = o.pre (ts ++ us) (i + j) := by
  cases o <;> simp [Out.pre, Nat.add_assoc]
theorem Out.pre_nil (o : Out) : o.pre [] 0 = o := by cases o <;> simp [Out.pre]
def glue (s : List Nat) : Option (List Nat) → List Nat
  | none => s
  | some t => s ++ 58 :: t
/-- one sign: none if it is wrong; else the text that is complete, if there is one, and the next state -/
def stp (s : List Nat) (t : Option (List Nat)) (c : Nat) : Option (Option (List Nat) × List Nat × Option (List Nat)) :=
  match t with
  | none => if c = 58 ∧ s ≠ [] then some (none, s, some []) else if isDec (s ++ [c]) 200 = true then some (none, s ++ [c], none) else none
  | some t => if t.length < digitsVal s then (if plainC c = true then some (none, s, some (t ++ [c])) else none) else if c = 44 then some (some t, [], none) else none
def lr (s : List Nat) (t : Option (List Nat)) : List Nat → Out
  | [] => .read [] (glue s t)
  | c :: cs => match stp s t c with
    | none => .wrong [] 0
    | some (o, s', t') => (lr s' t' cs).pre o.toList 1
/-- states that can be -/
def Vd (s : List Nat) : Option (List Nat) → Prop
  | none => s = [] ∨ ∃ k, k ≤ 200 ∧ s = numL k
  | some t => (∃ k, k ≤ 200 ∧ s = numL k ∧ t.length ≤ k) ∧ plainL t = true
theorem plainL_snoc {t : List Nat} {c : Nat} : plainL (t ++ [c]) = (plainL t && plainC c) := by
  simp [plainL, List.all_append]
theorem Vd.step {s : List Nat} {t : Option (List Nat)} {c : Nat} (v : Vd s t) {o : Option (List Nat)} {s' : List Nat} {t' : Option (List Nat)} (h : stp s t c = some (o, s', t')) : Vd s' t' := by
  cases t with
  | none =>
    simp only [stp] at h
    split at h
    · rename_i q
      cases h
      rcases v with rfl | ⟨k, hk, e⟩
      · exact absurd rfl q.2
      · exact ⟨⟨k, hk, e, Nat.zero_le _⟩, rfl⟩
    · split at h
      · rename_i q
        cases h
        exact .inr (isDec_iff.mp q)
      · cases h
  | some t =>
    simp only [stp] at h
    obtain ⟨⟨k, hk, e, hl⟩, hp⟩ := v
    split at h
    · rename_i q
      split at h
      · rename_i hc
        cases h
        refine ⟨⟨k, hk, e, ?_⟩, by rw [plainL_snoc, hp, hc]; rfl⟩
        rw [e, numL_val] at q
        simp
        omega
      · cases h
    · split at h
      · cases h
        exact .inl rfl
      · cases h
/-- the state of a rest -/
def spS (r : List Nat) : List Nat := match TL.par [58] [] r with | some (p, _) => p | none => r
def spT (r : List Nat) : Option (List Nat) := match TL.par [58] [] r with | some (_, q) => some q | none => none
theorem colon_free {k : Nat} : 58 ∉ numL k := TL.numL_free (.inr (by decide))
theorem Vd.free {s : List Nat} {t : Option (List Nat)} (v : Vd s t) : 58 ∉ s := by
  cases t with
  | none =>
    rcases v with rfl | ⟨k, _, rfl⟩
    · exact List.not_mem_nil
    · exact colon_free
  | some t =>
    obtain ⟨⟨k, _, rfl, _⟩, _⟩ := v
    exact colon_free
theorem par_glue {s : List Nat} {t : Option (List Nat)} (h : 58 ∉ s) : TL.par [58] [] (glue s t) = t.map fun t => (s, t) := by
  cases t with
  | none => exact SX.par_head_none h
  | some t => exact SX.par_head t h
theorem sp_glue {s : List Nat} {t : Option (List Nat)} (v : Vd s t) : spS (glue s t) = s ∧ spT (glue s t) = t := by
  unfold spS spT
  rw [par_glue v.free]
  cases t <;> exact ⟨rfl, rfl⟩
/-- reading leads to a rest -/
theorem lr_rest : ∀ (l : List Nat) {s : List Nat} {t : Option (List Nat)} {ts : List (List Nat)} {r : List Nat}, Vd s t → lr s t l = .read ts r → ∃ s' t', Vd s' t' ∧ r = glue s' t'
  | [], s, t, ts, r, v, h => by
    simp only [lr] at h
    cases h
    exact ⟨s, t, v, rfl⟩
  | c :: cs, s, t, ts, r, v, h => by
    simp only [lr] at h
    cases hs : stp s t c with
    | none => rw [hs] at h; cases h
    | some p =>
      obtain ⟨o, s', t'⟩ := p
      rw [hs] at h
      simp only at h
      cases hl : lr s' t' cs with
      | wrong us k => rw [hl] at h; cases h
      | read us r' =>
        rw [hl] at h
        cases h
        exact lr_rest cs (v.step hs) hl
/-- two strings, one behind the other -/
def Out.thn (n : Nat) (o : Out) (k : List Nat → Out) : Out := match o with
  | .read ts r => (k r).pre ts n
  | .wrong ts i => .wrong ts i
theorem lr_app : ∀ (a b : List Nat) {s : List Nat} {t : Option (List Nat)}, Vd s t → lr s t (a ++ b) = (lr s t a).thn a.length fun r => lr (spS r) (spT r) b
  | [], b, s, t, v => by
    show lr s t b = (lr (spS (glue s t)) (spT (glue s t)) b).pre [] 0
    rw [(sp_glue v).1, (sp_glue v).2, Out.pre_nil]
  | c :: cs, b, s, t, v => by
    show lr s t (c :: (cs ++ b)) = _
    simp only [lr]
    cases hs : stp s t c with
    | none => rfl
    | some p =>
      obtain ⟨o, s', t'⟩ := p
      simp only
      rw [lr_app cs b (v.step hs)]
      cases lr s' t' cs with
      | wrong us k => rfl
      | read us r' =>
        show Out.pre o.toList 1 (Out.pre us cs.length (lr (spS r') (spT r') b)) = Out.pre (o.toList ++ us) (cs.length + 1) (lr (spS r') (spT r') b)
        rw [Out.pre_pre, Nat.add_comm 1]
/-! ### the program's way: one frame after the other -/
/-- how many of the signs are digits of a length -/
def dgs (s : List Nat) : List Nat → Nat
  | [] => 0
  | c :: cs => if isDec (s ++ [c]) 200 = true then dgs (s ++ [c]) cs + 1 else 0
theorem dgs_le : ∀ (l s : List Nat), dgs s l ≤ l.length
  | [], _ => Nat.le_refl _
  | c :: cs, s => by
    unfold dgs
    split
    · have := dgs_le cs (s ++ [c])
      simp
      exact this
    · exact Nat.zero_le _
theorem lr_dgs : ∀ (l : List Nat) {s : List Nat}, Vd s none → lr s none l = (lr (s ++ l.take (dgs s l)) none (l.drop (dgs s l))).pre [] (dgs s l) ∧ Vd (s ++ l.take (dgs s l)) none ∧
    (∀ c cs, l.drop (dgs s l) = c :: cs → isDec (s ++ l.take (dgs s l) ++ [c]) 200 = false)
  | [], s, v => by
    refine ⟨?_, ?_, fun c cs h => ?_⟩
    · simp [dgs, Out.pre_nil]
    · simpa [dgs] using v
    · simp at h
  | c :: cs, s, v => by
    by_cases h : isDec (s ++ [c]) 200 = true
    · have hd : dgs s (c :: cs) = dgs (s ++ [c]) cs + 1 := by
        show (if isDec (s ++ [c]) 200 = true then _ else _) = _
        rw [if_pos h]
      have hc : c ≠ 58 := by
        obtain ⟨k, _, e⟩ := isDec_iff.mp h
        have := numL_all k c (by rw [← e]; simp)
        omega
      have v' : Vd (s ++ [c]) none := .inr (isDec_iff.mp h)
      obtain ⟨i1, i2, i3⟩ := lr_dgs cs v'
      have es : stp s none c = some (none, s ++ [c], none) := by
        show (if c = 58 ∧ s ≠ [] then _ else if isDec (s ++ [c]) 200 = true then _ else _) = _
        rw [if_neg (fun z => hc z.1), if_pos h]
      have el : lr s none (c :: cs) = (lr (s ++ [c]) none cs).pre [] 1 := by
        simp only [lr, es]
        rfl
      have ea : s ++ [c] ++ cs.take (dgs (s ++ [c]) cs) = s ++ (c :: cs).take (dgs (s ++ [c]) cs + 1) := by simp
      rw [hd, el, i1, Out.pre_pre, ea]
      rw [ea] at i2 i3
      refine ⟨?_, i2, fun d ds hq => i3 d ds (by simpa using hq)⟩
      rw [List.drop_succ_cons, Nat.add_comm]
      rfl
    · have hd : dgs s (c :: cs) = 0 := by
        show (if isDec (s ++ [c]) 200 = true then _ else _) = _
        rw [if_neg h]
      rw [hd]
      refine ⟨by simp [Out.pre_nil], by simpa using v, fun d ds hq => ?_⟩
      simp at hq
      obtain ⟨rfl, rfl⟩ := hq
      simpa using h
/-- how many signs ahead of the first one that no text has -/
def pls : List Nat → Nat
  | [] => 0
  | c :: cs => if plainC c = true then pls cs + 1 else 0
theorem pls_le : ∀ l : List Nat, pls l ≤ l.length
  | [] => Nat.le_refl _
  | c :: cs => by
    unfold pls
    split
    · have := pls_le cs
      simp
      exact this
    · exact Nat.zero_le _
theorem pls_all {l : List Nat} (h : plainL l = true) : pls l = l.length := by
  induction l with
  | nil => rfl
  | cons c cs ih =>
    have h' : plainC c = true ∧ plainL cs = true := by simpa [plainL] using h
    show (if plainC c = true then pls cs + 1 else 0) = _
    rw [if_pos h'.1, ih h'.2]
    rfl
theorem pls_lt {l : List Nat} (h : plainL l = false) : pls l < l.length ∧ ∃ c, l[pls l]? = some c ∧ plainC c = false := by
  induction l with
  | nil => cases h
  | cons c cs ih =>
    by_cases hc : plainC c = true
    · have h' : plainL cs = false := by
        have z : (plainC c && plainL cs) = false := h
        rw [hc] at z
        exact z
      obtain ⟨a, d, b1, b2⟩ := ih h'
      have e : pls (c :: cs) = pls cs + 1 := by
        show (if plainC c = true then pls cs + 1 else 0) = _
        rw [if_pos hc]
      rw [e]
      exact ⟨by simp; exact a, d, by simpa using b1, b2⟩
    · have e : pls (c :: cs) = 0 := by
        show (if plainC c = true then pls cs + 1 else 0) = _
        rw [if_neg hc]
      rw [e]
      exact ⟨by simp, c, by simp, by simpa using hc⟩
theorem pls_plain : ∀ l : List Nat, plainL (l.take (pls l)) = true
  | [] => rfl
  | c :: cs => by
    by_cases hc : plainC c = true
    · have e : pls (c :: cs) = pls cs + 1 := by
        show (if plainC c = true then pls cs + 1 else 0) = _
        rw [if_pos hc]
      rw [e, List.take_succ_cons]
      show (plainC c && plainL (cs.take (pls cs))) = true
      rw [hc, pls_plain cs]
      rfl
    · have e : pls (c :: cs) = 0 := by
        show (if plainC c = true then pls cs + 1 else 0) = _
        rw [if_neg hc]
      rw [e]
      rfl
/-- the signs of a text -/
theorem lr_text : ∀ (a : List Nat) (l : List Nat) {s t : List Nat}, plainL a = true → t.length + a.length ≤ digitsVal s → lr s (some t) (a ++ l) = (lr s (some (t ++ a)) l).pre [] a.length
  | [], l, s, t, _, _ => by simp [Out.pre_nil]
  | c :: cs, l, s, t, hp, hl => by
    have hp' : plainC c = true ∧ plainL cs = true := by simpa [plainL] using hp
    simp only [List.length_cons] at hl
    have es : stp s (some t) c = some (none, s, some (t ++ [c])) := by
      show (if t.length < digitsVal s then _ else _) = _
      rw [if_pos (by omega), if_pos hp'.1]
    have el : lr s (some t) (c :: (cs ++ l)) = (lr s (some (t ++ [c])) (cs ++ l)).pre [] 1 := by
      simp only [lr, es]
      rfl
    show lr s (some t) (c :: (cs ++ l)) = _
    rw [el, lr_text cs l hp'.2 (by simp; omega), Out.pre_pre]
    simp [Nat.add_comm]
/-- what next_frame tells of the signs from its start on -/
inductive Nf where
  | part (at_ : Nat) | wrong (at_ : Nat) | whole (t : List Nat) (at_ : Nat)
def nf (l : List Nat) : Nf :=
  let k := dgs [] l
  if k = l.length then .part k else
  if k = 0 ∨ l[k]? ≠ some 58 then .wrong k else
  let n := digitsVal (l.take k)
  let part := (l.drop (k + 1)).take n
  let e := k + 1 + pls part
  if e = l.length then .part e else
  if l[e]? ≠ some 44 then .wrong e else .whole part (k + 1 + n + 1)
theorem nf_lr (l : List Nat) : match nf l with
    | .part _ => ∃ r, lr [] none l = .read [] r ∧ r = l
    | .wrong k => lr [] none l = .wrong [] k ∧ k < l.length
    | .whole t k => lr [] none l = (lr [] none (l.drop k)).pre [t] k ∧ k ≤ l.length ∧ 0 < k := by
  obtain ⟨h1, h2, h3⟩ := lr_dgs l (s := []) (.inl rfl)
  simp only [List.nil_append] at h1 h2 h3
  have hk := dgs_le l []
  generalize hkk : dgs [] l = k at h1 h2 h3 hk
  unfold nf
  rw [hkk]
  by_cases e1 : k = l.length
  · simp only [e1, if_true]
    rw [h1, e1, List.take_length, List.drop_length]
    exact ⟨l, by simp [lr, glue, Out.pre], rfl⟩
  · simp only [if_neg e1]
    have hlt : k < l.length := by omega
    obtain ⟨c, hc⟩ : ∃ c, l[k]? = some c := ⟨l[k], by simp [hlt]⟩
    have hd : l.drop k = c :: l.drop (k + 1) := by
      rw [List.drop_eq_getElem_cons hlt]
      congr 1
      rw [List.getElem?_eq_getElem hlt] at hc
      exact Option.some.inj hc
    have nd := h3 c _ hd
    by_cases e2 : k = 0 ∨ l[k]? ≠ some 58
    · simp only [if_pos e2]
      refine ⟨?_, hlt⟩
      rw [h1, hd]
      have es : stp (l.take k) none c = none := by
        show (if c = 58 ∧ l.take k ≠ [] then _ else if isDec (l.take k ++ [c]) 200 = true then _ else none) = _
        rw [if_neg, if_neg (by rw [nd]; decide)]
        rintro ⟨rfl, hn⟩
        rcases e2 with rfl | e2
        · exact hn rfl
        · exact e2 hc
      simp only [lr, es]
      simp [Out.pre]
    · simp only [if_neg e2]
      have hk0 : k ≠ 0 := fun z => e2 (.inl z)
      have hc58 : c = 58 := by
        by_cases q : c = 58
        · exact q
        · exact absurd (.inr (by rw [hc]; simpa using q)) e2
      subst hc58
      have hne : l.take k ≠ [] := by
        intro z
        have := congrArg List.length z
        rw [List.length_take, List.length_nil] at this
        omega
      have es : stp (l.take k) none 58 = some (none, l.take k, some []) := by
        show (if 58 = 58 ∧ l.take k ≠ [] then _ else _) = _
        rw [if_pos ⟨rfl, hne⟩]
      have h4 : lr [] none l = (lr (l.take k) (some []) (l.drop (k + 1))).pre [] (k + 1) := by
        rw [h1, hd]
        simp only [lr, es]
        rw [Out.pre_pre]
        rfl
      generalize hn : digitsVal (l.take k) = n
      generalize hm : l.drop (k + 1) = m at h4
      have hml : m.length = l.length - (k + 1) := by rw [← hm, List.length_drop]
      generalize hp : m.take n = part
      have hpm : m = part ++ m.drop n := by rw [← hp, List.take_append_drop]
      have hpl : part.length ≤ n := by rw [← hp, List.length_take]; omega
      have hb := pls_le part
      have hsp : m = part.take (pls part) ++ m.drop (pls part) := by
        have e : part.take (pls part) = m.take (pls part) := by
          rw [← hp, List.take_take, Nat.min_eq_left (by rw [hp]; omega)]
        rw [e, List.take_append_drop]
      have h5 : lr [] none l = (lr (l.take k) (some (part.take (pls part))) (m.drop (pls part))).pre [] (k + 1 + pls part) := by
        rw [h4]
        conv => lhs; rw [hsp]
        rw [lr_text _ _ (pls_plain part) (by rw [hn, List.length_take]; simp; omega), Out.pre_pre, List.length_take, Nat.min_eq_left hb]
        simp
      have hpm2 : part.length ≤ m.length := by rw [← hp, List.length_take]; omega
      by_cases e3 : k + 1 + pls part = l.length
      · simp only [if_pos e3]
        refine ⟨l, ?_, rfl⟩
        have hd0 : m.drop (pls part) = [] := List.drop_eq_nil_of_le (by omega)
        have ht0 : part.take (pls part) = m := by
          rw [hd0, List.append_nil] at hsp
          exact hsp.symm
        rw [h5, hd0, ht0]
        simp only [lr, glue, Out.pre, List.append_nil]
        rw [← hm]
        congr 1
        rw [← hd, List.take_append_drop]
      · simp only [if_neg e3]
        have hlt3 : k + 1 + pls part < l.length := by omega
        have hget : l[k + 1 + pls part]? = m[pls part]? := by rw [← hm, List.getElem?_drop]
        obtain ⟨d, hdd⟩ : ∃ d, m[pls part]? = some d := ⟨m[pls part]'(by omega), by rw [List.getElem?_eq_getElem (by omega)]⟩
        have hmd : m.drop (pls part) = d :: m.drop (pls part + 1) := by
          rw [List.drop_eq_getElem_cons (by omega)]
          congr 1
          rw [List.getElem?_eq_getElem (by omega)] at hdd
          exact Option.some.inj hdd
        rw [hget, hdd]
        have hcase : (pls part = n ∧ part.length = n) ∨ (pls part < n ∧ plainC d = false) := by
          cases hpp : plainL part with
          | true =>
            have e := pls_all hpp
            left
            have : part.length = n := by
              rw [e] at hlt3
              rw [← hp, List.length_take] at hlt3 ⊢
              omega
            omega
          | false =>
            obtain ⟨a, c', b1, b2⟩ := pls_lt hpp
            right
            refine ⟨by omega, ?_⟩
            have : part[pls part]? = m[pls part]? := by
              conv => rhs; rw [hpm]
              rw [List.getElem?_append_left a]
            rw [this, hdd] at b1
            rw [Option.some.inj b1]
            exact b2
        have htl : (part.take (pls part)).length = pls part := by rw [List.length_take, Nat.min_eq_left hb]
        by_cases e4 : d = 44
        · subst e4
          rw [if_neg (by simp)]
          rcases hcase with ⟨q1, q2⟩ | ⟨q1, q2⟩
          · refine ⟨?_, by omega, by omega⟩
            have et : part.take (pls part) = part := List.take_of_length_le (by omega)
            have es2 : stp (l.take k) (some part) 44 = some (some part, [], none) := by
              show (if part.length < digitsVal (l.take k) then _ else _) = _
              rw [if_neg (by rw [hn]; omega)]
              rfl
            have ed : m.drop (pls part + 1) = l.drop (k + 1 + n + 1) := by
              rw [← hm, List.drop_drop]
              congr 1
              omega
            rw [h5, et, hmd]
            simp only [lr, es2]
            rw [Out.pre_pre, ed]
            simp only [Option.toList, List.nil_append]
            congr 1
            omega
          · exact absurd q2 (by decide)
        · rw [if_pos (by simpa using e4)]
          refine ⟨?_, hlt3⟩
          have es2 : stp (l.take k) (some (part.take (pls part))) d = none := by
            show (if (part.take (pls part)).length < digitsVal (l.take k) then _ else if d = 44 then _ else none) = _
            rcases hcase with ⟨q1, q2⟩ | ⟨q1, q2⟩
            · rw [if_neg (by rw [hn, htl]; omega), if_neg e4]
            · rw [if_pos (by rw [hn, htl]; omega), if_neg (by rw [q2]; decide)]
          rw [h5, hmd]
          simp only [lr, es2]
          simp [Out.pre]
end Ag

end
/-! ## Prog -/
section
set_option linter.all false
set_option maxRecDepth 100000
namespace Ag
open PySem PySem.Spec PyProof.Rows L2
open SX (S S_len S_cat S_inj)
/-! ### the text by places -/
def top (i : Nat) : Stmt := PySem.Challenge.pw_answergate_k12_whole_views_under_any_new.main.body.getD i (.Pass ⟨0, 0, 0, 0⟩)
abbrev s_is_integer : Stmt := top 3
abbrev N_is_integer : List Str := ["thing"]
theorem sc_is_integer : FnScope N_is_integer ["thing"] (defScope s_is_integer) := ⟨rfl, rfl, rfl, by decide +kernel, rfl, by decide +kernel, by decide +kernel⟩
abbrev s_is_between : Stmt := top 4
abbrev N_is_between : List Str := ["thing", "least", "most"]
theorem sc_is_between : FnScope N_is_between ["thing", "least", "most"] (defScope s_is_between) := ⟨rfl, rfl, rfl, by decide +kernel, rfl, by decide +kernel, by decide +kernel⟩
abbrev s_is_number : Stmt := top 5
abbrev N_is_number : List Str := ["thing"]
theorem sc_is_number : FnScope N_is_number ["thing"] (defScope s_is_number) := ⟨rfl, rfl, rfl, by decide +kernel, rfl, by decide +kernel, by decide +kernel⟩
abbrev s_is_plain : Stmt := top 6
abbrev N_is_plain : List Str := ["string"]
theorem sc_is_plain : FnScope N_is_plain ["string"] (defScope s_is_plain) := ⟨rfl, rfl, rfl, by decide +kernel, rfl, by decide +kernel, by decide +kernel⟩
abbrev s_is_word : Stmt := top 7
abbrev N_is_word : List Str := ["thing"]
theorem sc_is_word : FnScope N_is_word ["thing"] (defScope s_is_word) := ⟨rfl, rfl, rfl, by decide +kernel, rfl, by decide +kernel, by decide +kernel⟩
abbrev s_are_counted : Stmt := top 8
abbrev N_are_counted : List Str := ["thing", "most", "number"]
theorem sc_are_counted : FnScope N_are_counted ["thing", "most"] (defScope s_are_counted) := ⟨rfl, rfl, rfl, by decide +kernel, rfl, by decide +kernel, by decide +kernel⟩
abbrev s_is_body : Stmt := top 21
abbrev N_is_body : List Str := ["thing"]
theorem sc_is_body : FnScope N_is_body ["thing"] (defScope s_is_body) := ⟨rfl, rfl, rfl, by decide +kernel, rfl, by decide +kernel, by decide +kernel⟩
abbrev s_is_item : Stmt := top 22
abbrev N_is_item : List Str := ["kind", "thing"]
theorem sc_is_item : FnScope N_is_item ["kind", "thing"] (defScope s_is_item) := ⟨rfl, rfl, rfl, by decide +kernel, rfl, by decide +kernel, by decide +kernel⟩
abbrev s_is_message : Stmt := top 23
abbrev N_is_message : List Str := ["thing", "word", "items", "kinds", "kind", "item"]
theorem sc_is_message : FnScope N_is_message ["thing"] (defScope s_is_message) := ⟨rfl, rfl, rfl, by decide +kernel, rfl, by decide +kernel, by decide +kernel⟩
abbrev s_is_view : Stmt := top 26
abbrev N_is_view : List Str := ["thing", "house", "boot", "bodies", "answers", "away", "upto", "state", "ends", "end", "body"]
theorem sc_is_view : FnScope N_is_view ["thing"] (defScope s_is_view) := ⟨rfl, rfl, rfl, by decide +kernel, rfl, by decide +kernel, by decide +kernel⟩
abbrev s_view_new : Stmt := top 27
abbrev N_view_new : List Str := ["house"]
theorem sc_view_new : FnScope N_view_new ["house"] (defScope s_view_new) := ⟨rfl, rfl, rfl, by decide +kernel, rfl, by decide +kernel, by decide +kernel⟩
abbrev s_asked : Stmt := top 28
abbrev N_asked : List Str := ["view", "body", "house", "boot", "bodies", "answers", "away", "upto", "state"]
theorem sc_asked : FnScope N_asked ["view", "body"] (defScope s_asked) := ⟨rfl, rfl, rfl, by decide +kernel, rfl, by decide +kernel, by decide +kernel⟩
abbrev s_heard : Stmt := top 29
abbrev N_heard : List Str := ["view", "message", "house", "_", "state", "news"]
theorem sc_heard : FnScope N_heard ["view", "message"] (defScope s_heard) := ⟨rfl, rfl, rfl, by decide +kernel, rfl, by decide +kernel, by decide +kernel⟩
abbrev s_with_message : Stmt := top 30
abbrev N_with_message : List Str := ["view", "message", "house", "boot", "bodies", "answers", "away", "upto", "state", "word", "number"]
theorem sc_with_message : FnScope N_with_message ["view", "message"] (defScope s_with_message) := ⟨rfl, rfl, rfl, by decide +kernel, rfl, by decide +kernel, by decide +kernel⟩
abbrev s_told_upto : Stmt := top 31
abbrev N_told_upto : List Str := ["view", "number", "house", "boot", "bodies", "answers", "away", "upto", "state", "news"]
theorem sc_told_upto : FnScope N_told_upto ["view", "number"] (defScope s_told_upto) := ⟨rfl, rfl, rfl, by decide +kernel, rfl, by decide +kernel, by decide +kernel⟩
abbrev s_broken : Stmt := top 32
abbrev N_broken : List Str := ["view", "house", "boot", "bodies", "answers", "away", "upto", "_"]
theorem sc_broken : FnScope N_broken ["view"] (defScope s_broken) := ⟨rfl, rfl, rfl, by decide +kernel, rfl, by decide +kernel, by decide +kernel⟩
abbrev s_bounds : Stmt := top 33
abbrev N_bounds : List Str := ["view", "_", "bodies", "answers", "away", "upto", "ends", "end"]
theorem sc_bounds : FnScope N_bounds ["view"] (defScope s_bounds) := ⟨rfl, rfl, rfl, by decide +kernel, rfl, by decide +kernel, by decide +kernel⟩
abbrev s_fate : Stmt := top 34
abbrev N_fate : List Str := ["view", "number", "low", "high"]
theorem sc_fate : FnScope N_fate ["view", "number"] (defScope s_fate) := ⟨rfl, rfl, rfl, by decide +kernel, rfl, by decide +kernel, by decide +kernel⟩
abbrev s__law_dealt : Stmt := top 36
abbrev N__law_dealt : List Str := ["_law_script", "_law_mixed", "_law_cell"]
theorem sc__law_dealt : FnScope N__law_dealt ["_law_script"] (defScope s__law_dealt) := ⟨rfl, rfl, rfl, by decide +kernel, rfl, by decide +kernel, by decide +kernel⟩
abbrev s__law_draw : Stmt := top 37
abbrev N__law_draw : List Str := ["_law_deck", "_law_many", "_law_mark", "_law_cell"]
theorem sc__law_draw : FnScope N__law_draw ["_law_deck", "_law_many"] (defScope s__law_draw) := ⟨rfl, rfl, rfl, by decide +kernel, rfl, by decide +kernel, by decide +kernel⟩
abbrev s__law_pick : Stmt := top 38
abbrev N__law_pick : List Str := ["_law_deck", "_law_some"]
theorem sc__law_pick : FnScope N__law_pick ["_law_deck", "_law_some"] (defScope s__law_pick) := ⟨rfl, rfl, rfl, by decide +kernel, rfl, by decide +kernel, by decide +kernel⟩
abbrev s__law_is_whole : Stmt := top 39
abbrev N__law_is_whole : List Str := ["_law_thing", "_law_low", "_law_high"]
theorem sc__law_is_whole : FnScope N__law_is_whole ["_law_thing", "_law_low", "_law_high"] (defScope s__law_is_whole) := ⟨rfl, rfl, rfl, by decide +kernel, rfl, by decide +kernel, by decide +kernel⟩
abbrev s__law_is_word : Stmt := top 40
abbrev N__law_is_word : List Str := ["_law_thing", "_law_sign"]
theorem sc__law_is_word : FnScope N__law_is_word ["_law_thing"] (defScope s__law_is_word) := ⟨rfl, rfl, rfl, by decide +kernel, rfl, by decide +kernel, by decide +kernel⟩
abbrev s__law_is_body : Stmt := top 41
abbrev N__law_is_body : List Str := ["_law_thing", "_law_sign"]
theorem sc__law_is_body : FnScope N__law_is_body ["_law_thing"] (defScope s__law_is_body) := ⟨rfl, rfl, rfl, by decide +kernel, rfl, by decide +kernel, by decide +kernel⟩
abbrev s__law_are_numbers : Stmt := top 42
abbrev N__law_are_numbers : List Str := ["_law_thing", "_law_high", "_law_part"]
theorem sc__law_are_numbers : FnScope N__law_are_numbers ["_law_thing", "_law_high"] (defScope s__law_are_numbers) := ⟨rfl, rfl, rfl, by decide +kernel, rfl, by decide +kernel, by decide +kernel⟩
abbrev s__law_is_seen : Stmt := top 43
abbrev N__law_is_seen : List Str := ["_law_boot", "_law_many", "_law_replied", "_law_away", "_law_upto", "_law_ends", "_law_end"]
theorem sc__law_is_seen : FnScope N__law_is_seen ["_law_boot", "_law_many", "_law_replied", "_law_away", "_law_upto"] (defScope s__law_is_seen) := ⟨rfl, rfl, rfl, by decide +kernel, rfl, by decide +kernel, by decide +kernel⟩
abbrev s__law_is_view : Stmt := top 44
abbrev N__law_is_view : List Str := ["_law_thing", "_law_body_here"]
theorem sc__law_is_view : FnScope N__law_is_view ["_law_thing"] (defScope s__law_is_view) := ⟨rfl, rfl, rfl, by decide +kernel, rfl, by decide +kernel, by decide +kernel⟩
abbrev s__law_body : Stmt := top 45
abbrev N__law_body : List Str := ["_law_deck", "_law_way", "_law_sign"]
theorem sc__law_body : FnScope N__law_body ["_law_deck"] (defScope s__law_body) := ⟨rfl, rfl, rfl, by decide +kernel, rfl, by decide +kernel, by decide +kernel⟩
abbrev s__law_word : Stmt := top 46
abbrev N__law_word : List Str := ["_law_deck", "_law_some", "_law_sign"]
theorem sc__law_word : FnScope N__law_word ["_law_deck"] (defScope s__law_word) := ⟨rfl, rfl, rfl, by decide +kernel, rfl, by decide +kernel, by decide +kernel⟩
abbrev s__law_odd : Stmt := top 47
abbrev N__law_odd : List Str := ["_law_deck", "_law_some"]
theorem sc__law_odd : FnScope N__law_odd ["_law_deck"] (defScope s__law_odd) := ⟨rfl, rfl, rfl, by decide +kernel, rfl, by decide +kernel, by decide +kernel⟩
abbrev s__law_low_high : Stmt := top 48
abbrev N__law_low_high : List Str := ["_law_view", "_law_ends", "_law_end"]
theorem sc__law_low_high : FnScope N__law_low_high ["_law_view"] (defScope s__law_low_high) := ⟨rfl, rfl, rfl, by decide +kernel, rfl, by decide +kernel, by decide +kernel⟩
abbrev s__law_fate : Stmt := top 49
abbrev N__law_fate : List Str := ["_law_view", "_law_n", "_law_low", "_law_high"]
theorem sc__law_fate : FnScope N__law_fate ["_law_view", "_law_n"] (defScope s__law_fate) := ⟨rfl, rfl, rfl, by decide +kernel, rfl, by decide +kernel, by decide +kernel⟩
abbrev s__law_tried : Stmt := top 50
abbrev N__law_tried : List Str := ["_law_call", "_law_told", "e", "_law_words", "_law_word_here", "_law_is_it"]
theorem sc__law_tried : FnScope N__law_tried ["_law_call"] (defScope s__law_tried) := ⟨rfl, rfl, rfl, by decide +kernel, rfl, by decide +kernel, by decide +kernel⟩
abbrev s__law_is_news : Stmt := top 51
abbrev N__law_is_news : List Str := ["_law_thing"]
theorem sc__law_is_news : FnScope N__law_is_news ["_law_thing"] (defScope s__law_is_news) := ⟨rfl, rfl, rfl, by decide +kernel, rfl, by decide +kernel, by decide +kernel⟩
abbrev s__law_news : Stmt := top 52
abbrev N__law_news : List Str := ["_law_view", "_law_thing", "_law_name", "_law_boot", "_law_bodies", "_law_answered", "_law_away", "_law_upto", "_law_state", "_law_some", "_law_found"]
theorem sc__law_news : FnScope N__law_news ["_law_view", "_law_thing"] (defScope s__law_news) := ⟨rfl, rfl, rfl, by decide +kernel, rfl, by decide +kernel, by decide +kernel⟩
abbrev s__law_due : Stmt := top 53
abbrev N__law_due : List Str := ["_law_view", "_law_way", "_law_thing", "_law_name", "_law_boot", "_law_bodies", "_law_answered", "_law_away", "_law_upto", "_law_state", "_law_found"]
theorem sc__law_due : FnScope N__law_due ["_law_view", "_law_way", "_law_thing"] (defScope s__law_due) := ⟨rfl, rfl, rfl, by decide +kernel, rfl, by decide +kernel, by decide +kernel⟩
abbrev s__law_drawn : Stmt := top 54
abbrev N__law_drawn : List Str := ["_law_deck", "_law_view", "_law_way", "_law_many", "_law_least", "_law_near", "_law_mark", "_law_some", "_law_end"]
theorem sc__law_drawn : FnScope N__law_drawn ["_law_deck", "_law_view", "_law_way"] (defScope s__law_drawn) := ⟨rfl, rfl, rfl, by decide +kernel, rfl, by decide +kernel, by decide +kernel⟩
abbrev s__law_is_told : Stmt := top 55
abbrev N__law_is_told : List Str := ["_law_view", "_law_told", "_law_n"]
theorem sc__law_is_told : FnScope N__law_is_told ["_law_view", "_law_told"] (defScope s__law_is_told) := ⟨rfl, rfl, rfl, by decide +kernel, rfl, by decide +kernel, by decide +kernel⟩
abbrev s_law : Stmt := top 56
abbrev N_law : List Str := ["_law_script", "_law_deck", "_law_names", "_law_views", "_law_told", "_law_turn", "_law_at", "_law_mark", "_law_way", "_law_thing", "_law_view", "_law_due_here", "_law_found", "_law_name"]
theorem sc_law : FnScope N_law ["_law_script"] (defScope s_law) := ⟨rfl, rfl, rfl, by decide +kernel, rfl, by decide +kernel, by decide +kernel⟩
abbrev s_BadMessage : Stmt := inClass (top 11) 0
theorem sc_BadMessage : FnScope ["self", "thing"] ["self", "thing"] (defScope s_BadMessage) := ⟨rfl, rfl, rfl, by decide +kernel, rfl, by decide +kernel, by decide +kernel⟩
abbrev s_BadName : Stmt := inClass (top 12) 0
theorem sc_BadName : FnScope ["self", "thing"] ["self", "thing"] (defScope s_BadName) := ⟨rfl, rfl, rfl, by decide +kernel, rfl, by decide +kernel, by decide +kernel⟩
abbrev s_BadNumber : Stmt := inClass (top 13) 0
theorem sc_BadNumber : FnScope ["self", "thing"] ["self", "thing"] (defScope s_BadNumber) := ⟨rfl, rfl, rfl, by decide +kernel, rfl, by decide +kernel, by decide +kernel⟩
abbrev s_Broken : Stmt := inClass (top 14) 0
theorem sc_Broken : FnScope ["self", "thing"] ["self", "thing"] (defScope s_Broken) := ⟨rfl, rfl, rfl, by decide +kernel, rfl, by decide +kernel, by decide +kernel⟩
abbrev s_BadView : Stmt := inClass (top 15) 0
theorem sc_BadView : FnScope ["self", "thing"] ["self", "thing"] (defScope s_BadView) := ⟨rfl, rfl, rfl, by decide +kernel, rfl, by decide +kernel, by decide +kernel⟩
abbrev s_BadBody : Stmt := inClass (top 16) 0
theorem sc_BadBody : FnScope ["self", "thing"] ["self", "thing"] (defScope s_BadBody) := ⟨rfl, rfl, rfl, by decide +kernel, rfl, by decide +kernel, by decide +kernel⟩
abbrev s_BadNews : Stmt := inClass (top 17) 0
theorem sc_BadNews : FnScope ["self", "thing"] ["self", "thing"] (defScope s_BadNews) := ⟨rfl, rfl, rfl, by decide +kernel, rfl, by decide +kernel, by decide +kernel⟩
structure Fn (K : PySem.W.Frag) (mg : Str → Option Value) (x : Str) (st : Stmt) (ps : List Str) (f : Addr) (fd : FuncData) : Prop where
  F : Fun K x x st f fd
  b : Binds K fd ps []
  g : mg x = some (.ref f)
structure Blt (mg : Str → Option Value) : Prop where
  n_len : mg "len" = none
  n_str : mg "str" = none
  n_int : mg "int" = none
  n_isinstance : mg "isinstance" = none
  n_range : mg "range" = none
  n_tuple : mg "tuple" = none
  n_list : mg "list" = none
  n_max : mg "max" = none
  n_min : mg "min" = none
  n_sorted : mg "sorted" = none
  n_repr : mg "repr" = none
  n_bool : mg "bool" = none
  n_all : mg "all" = none
  n_set : mg "set" = none
  n_ord : mg "ord" = none
  n_zip : mg "zip" = none
structure Con (mg : Str → Option Value) (tn tw tb : Tok) : Prop extends Blt mg where
  g_NUMBER_MOST : mg "NUMBER_MOST" = some (.int 1000000000 tn)
  g_WORD_MOST : mg "WORD_MOST" = some (.int 10 tw)
  g_BODY_MOST : mg "BODY_MOST" = some (.int 150 tb)
end Ag

end
/-! ## PT -/
section
set_option linter.all false
set_option maxRecDepth 100000
namespace Ag
open PySem PySem.Spec PyProof.Rows L2
open SX (S S_len S_cat S_inj)
/-! ### texts -/
theorem sz {n : Nat} (h : n ≤ 16000000) : n ≤ sizeLine := by rw [sizeLine_eq]; omega
theorem same_new {H : Hp} {p : Addr} {o : HO} (h : H p = none) : Same H (upd H p o) := fun b x e => by
  rw [upd_ne (ne_of_none e h)]
  exact e
theorem ascii_S (l : List Nat) : Txt.isascii (S l) = l.all (· < 128) := by
  show (S l).cps.all _ = _
  rw [← Array.all_toList]
theorem printable_S (l : List Nat) : Txt.isprintable (S l) = l.all Unicode.isPrintable := by
  show (S l).cps.all _ = _
  rw [← Array.all_toList]
theorem print128 : ∀ c < 128, Unicode.isPrintable c = plainC c := by decide +kernel
theorem plain_of (l : List Nat) : (l.all (· < 128) && l.all Unicode.isPrintable) = plainL l := by
  induction l with
  | nil => rfl
  | cons c cs ih =>
    show ((decide (c < 128) && cs.all _) && (Unicode.isPrintable c && cs.all _)) = (plainC c && plainL cs)
    rw [← ih]
    by_cases h : c < 128
    · rw [print128 c h]
      simp only [h, decide_true, Bool.true_and]
      cases plainC c <;> simp
    · have e : plainC c = false := by
        unfold plainC
        simp
        omega
      rw [e]
      simp [h]
section
variable {P : Program} {w : World} {K : PySem.W.Frag} {mg : Str → Option Value} {base : Heap} {tm : Tok}
def spPlain : Sp := fun vs H Q _ => ∃ l : List Nat, vs = [.str (S l)] ∧ Q (.bl (plainL l)) H
theorem ok_is_plain {f : Addr} {fd : FuncData} (F : Fn K mg "is_plain" s_is_plain ["string"] f fd) : FnOk P w K mg base CX0 1 f fd ["string"] spPlain := by
  refine F.F.ok sc_is_plain (fun vs H Q E h => ?_) (fun cdv A outer s H vs Q E hr h => ?_)
  · obtain ⟨l, rfl, _⟩ := h
    rfl
  · obtain ⟨l, rfl, q⟩ := h
    refine ⟨_, (pss_one (ps_ret (pe_and (pe_m0 PySem.F.slot_str_isascii PySem.F.type_str_isascii mt_isascii (pv 0)) (pe_one (pe_m0 PySem.F.slot_str_isprintable PySem.F.type_str_isprintable mt_isprintable (pv 0)))))), ?_⟩
    refine ⟨.str (S l), rfl, ⟨_, rfl⟩, S l, rfl, rfl, trivial, _, rfl, ?_⟩
    rw [← plain_of] at q
    rw [ascii_S]
    cases h : l.all (· < 128) with
    | false =>
      rw [h] at q
      exact q
    | true =>
      refine iteT ?_
      refine ⟨.str (S l), rfl, ⟨_, rfl⟩, S l, rfl, rfl, trivial, ?_⟩
      rw [printable_S]
      rw [h] at q
      exact q
end
end Ag

end
/-! ## D0 -/
section
set_option linter.all false
set_option maxRecDepth 100000
namespace Ag
open PySem PySem.Spec PyProof.Rows L2
open SX (S S_len S_cat S_inj)
/-! ### data of any depth, dicts too, away from the deck -/
def At (p c : Addr) (H : Hp) (a : Addr) (o : HO) : Prop := a ≠ p ∧ a ≠ c ∧ H a = some o
def kD : Key → PyData
  | .inl i => .int i
  | .inr x => .str x
mutual
inductive Dg (p c : Addr) (H : Hp) : V → PyData → Prop
  | non : Dg p c H .non .none
  | bl (b : Bool) : Dg p c H (.bl b) (.bool b)
  | int (i : Int) : Dg p c H (.int i) (.int i)
  | str (x : Str) : Dg p c H (.str x) (.str x)
  | lst {a : Addr} {xs : List V} {ds : List PyData} : At p c H a (.lst xs) → DgA p c H xs ds → Dg p c H (.ref a) (.list ds)
  | tup {a : Addr} {xs : List V} {ds : List PyData} : At p c H a (.tup xs) → DgA p c H xs ds → Dg p c H (.ref a) (.tuple ds)
  | dic {a : Addr} {kvs : List (Key × V)} {ds : List (PyData × PyData)} : At p c H a (.dK kvs) → DgK p c H kvs ds → Dg p c H (.ref a) (.dict ds)
inductive DgA (p c : Addr) (H : Hp) : List V → List PyData → Prop
  | nil : DgA p c H [] []
  | cons {v : V} {vs : List V} {d : PyData} {ds : List PyData} : Dg p c H v d → DgA p c H vs ds → DgA p c H (v :: vs) (d :: ds)
inductive DgK (p c : Addr) (H : Hp) : List (Key × V) → List (PyData × PyData) → Prop
  | nil : DgK p c H [] []
  | cons {k : Key} {v : V} {kvs : List (Key × V)} {d : PyData} {ds : List (PyData × PyData)} : Dg p c H v d → DgK p c H kvs ds → DgK p c H ((k, v) :: kvs) ((kD k, d) :: ds)
end
/-- what data leans on stays -/
def Kp (p c : Addr) (H H' : Hp) : Prop := ∀ b o, b ≠ p → b ≠ c → H b = some o → H' b = some o
theorem Kp.refl {p c : Addr} {H : Hp} : Kp p c H H := fun _ _ _ _ e => e
theorem Kp.trans {p c : Addr} {H H1 H2 : Hp} (a : Kp p c H H1) (b : Kp p c H1 H2) : Kp p c H H2 := fun x o h1 h2 e => b x o h1 h2 (a x o h1 h2 e)
theorem Kp.same {p c : Addr} {H H' : Hp} (s : Same H H') : Kp p c H H' := fun b o _ _ e => s b o e
theorem At.kp {p c a : Addr} {H H' : Hp} {o : HO} (h : At p c H a o) (g : Kp p c H H') : At p c H' a o := ⟨h.1, h.2.1, g a o h.1 h.2.1 h.2.2⟩
mutual
theorem Dg.kp {p c : Addr} {H H' : Hp} (g : Kp p c H H') : ∀ (d : PyData) (v : V), Dg p c H v d → Dg p c H' v d
  | .none, _, h => by cases h; exact .non
  | .bool _, _, h => by cases h; exact .bl _
  | .int _, _, h => by cases h; exact .int _
  | .str _, _, h => by cases h; exact .str _
  | .list ds, _, h => by
    cases h with
    | lst a b => exact .lst (a.kp g) (DgA.kp g ds _ b)
  | .tuple ds, _, h => by
    cases h with
    | tup a b => exact .tup (a.kp g) (DgA.kp g ds _ b)
  | .dict ds, _, h => by
    cases h with
    | dic a b => exact .dic (a.kp g) (DgK.kp g ds _ b)
theorem DgA.kp {p c : Addr} {H H' : Hp} (g : Kp p c H H') : ∀ (ds : List PyData) (vs : List V), DgA p c H vs ds → DgA p c H' vs ds
  | [], _, h => by cases h; exact .nil
  | d :: ds, _, h => by
    cases h with
    | cons a b => exact .cons (Dg.kp g d _ a) (DgA.kp g ds _ b)
theorem DgK.kp {p c : Addr} {H H' : Hp} (g : Kp p c H H') : ∀ (ds : List (PyData × PyData)) (vs : List (Key × V)), DgK p c H vs ds → DgK p c H' vs ds
  | [], _, h => by cases h; exact .nil
  | (_, d) :: ds, _, h => by
    cases h with
    | cons a b => exact .cons (Dg.kp g d _ a) (DgK.kp g ds _ b)
end
theorem Dg.to {p c : Addr} {H H' : Hp} {v : V} {d : PyData} (h : Dg p c H v d) (g : Kp p c H H') : Dg p c H' v d := Dg.kp g d v h
theorem DgA.to {p c : Addr} {H H' : Hp} {v : List V} {d : List PyData} (h : DgA p c H v d) (g : Kp p c H H') : DgA p c H' v d := DgA.kp g d v h
theorem DgA.len {p c : Addr} {H : Hp} : ∀ {vs : List V} {ds : List PyData}, DgA p c H vs ds → vs.length = ds.length
  | [], [], _ => rfl
  | _ :: _, _ :: _, .cons _ t => by rw [List.length_cons, List.length_cons, DgA.len t]
theorem DgA.at_ {p c : Addr} {H : Hp} : ∀ {vs : List V} {ds : List PyData} {i : Nat} {v : V}, DgA p c H vs ds → vs[i]? = some v → ∃ d, ds[i]? = some d ∧ Dg p c H v d
  | _ :: _, _ :: _, 0, _, .cons h _, e => by
    simp at e
    subst e
    exact ⟨_, rfl, h⟩
  | _ :: _, _ :: _, i + 1, _, .cons _ t, e => DgA.at_ (i := i) t (by simpa using e)
  | [], [], _, _, _, e => by simp at e
theorem DgA.app {p c : Addr} {H : Hp} : ∀ {vs ws : List V} {ds es : List PyData}, DgA p c H vs ds → DgA p c H ws es → DgA p c H (vs ++ ws) (ds ++ es)
  | [], _, [], _, _, h => h
  | _ :: _, _, _ :: _, _, .cons a b, h => .cons a (DgA.app b h)
theorem DgA.take {p c : Addr} {H : Hp} : ∀ {vs : List V} {ds : List PyData} (n : Nat), DgA p c H vs ds → DgA p c H (vs.take n) (ds.take n)
  | [], [], _, _ => by simpa using DgA.nil
  | _ :: _, _ :: _, 0, _ => by simpa using DgA.nil
  | _ :: _, _ :: _, n + 1, .cons a b => .cons a (DgA.take n b)
theorem DgA.drop {p c : Addr} {H : Hp} : ∀ {vs : List V} {ds : List PyData} (n : Nat), DgA p c H vs ds → DgA p c H (vs.drop n) (ds.drop n)
  | [], [], _, _ => by simpa using DgA.nil
  | _ :: _, _ :: _, 0, h => h
  | _ :: _, _ :: _, n + 1, .cons _ b => DgA.drop n b
theorem DgA.rev {p c : Addr} {H : Hp} : ∀ {vs : List V} {ds : List PyData}, DgA p c H vs ds → DgA p c H vs.reverse ds.reverse
  | [], [], _ => .nil
  | _ :: _, _ :: _, .cons a b => by
    rw [List.reverse_cons, List.reverse_cons]
    exact (DgA.rev b).app (.cons a .nil)
/-! ### the machine reads it -/
mutual
/-- no list at any depth -/
def noL : PyData → Bool
  | .none => true
  | .bool _ => true
  | .int _ => true
  | .str _ => true
  | .list _ => false
  | .tuple xs => noLA xs
  | .dict kvs => noLK kvs
def noLA : List PyData → Bool
  | [] => true
  | x :: xs => noL x && noLA xs
def noLK : List (PyData × PyData) → Bool
  | [] => true
  | (_, v) :: r => noL v && noLK r
end
section
variable {X : Cx} {pins : List (Addr × Obj)} {σ : L2.St} {H : Hp} {s : Shared} {p c : Addr}
theorem key_reads {P : Program} {w : World} {h : Heap} {k : Key} {v : Value} (e : (mixKind P w).is k v = true) : Reads h v (kD k) [] := by
  rcases keyIs_shape e with ⟨i, t, rfl, rfl⟩ | ⟨x, t, rfl, rfl⟩
  · exact .int i t
  · exact .str x t
mutual
theorem Dg.reads (I : Inv X pins σ H s) : ∀ (d : PyData) (v : V) (u : Value), Dg p c H v d → RelV v u → ∃ as, Reads s.heap u d as ∧ (noL d = true → sysModules ∉ as)
  | .none, _, _, h, r => by
    cases h
    cases r
    exact ⟨_, .none, by simp⟩
  | .bool b, _, _, h, r => by
    cases h
    cases r
    exact ⟨_, .bool b, by simp⟩
  | .int i, _, _, h, r => by
    cases h
    obtain ⟨t, rfl⟩ := r
    exact ⟨_, .int i t, by simp⟩
  | .str x, _, _, h, r => by
    cases h
    obtain ⟨t, rfl⟩ := r
    exact ⟨_, .str x t, by simp⟩
  | .list ds, _, _, h, r => by
    cases h with
    | lst ha hd =>
      cases r
      obtain ⟨its, rv, ⟨o, n, ho, hc, _, hdt⟩, _⟩ := I.list (SqL.of ha.2.2)
      obtain ⟨as, hr, hn⟩ := DgA.reads I ds _ its hd rv
      exact ⟨_, .list ho hc hdt hr, fun z => by simp [noL] at z⟩
  | .tuple ds, _, _, h, r => by
    cases h with
    | tup ha hd =>
      cases r
      obtain ⟨its, rv, ⟨o, ho, hc, n, hdt⟩, _⟩ := I.tuple (SqT.of ha.2.2)
      obtain ⟨as, hr, hn⟩ := DgA.reads I ds _ its hd rv
      exact ⟨_, .tuple ho hc hdt hr, fun z => hn (by simpa [noL] using z)⟩
  | .dict ds, _, _, h, r => by
    cases h with
    | dic ha hd =>
      cases r
      obtain ⟨_, hsys, vs, kv, o, es, ep, ho, hex, hdt, _, hps, _⟩ := I.hok _ _ ha.2.2
      obtain ⟨as, bs, r1, r2, n1, n2⟩ := DgK.reads I ds _ vs es.toList hd kv hps
      refine ⟨_, .dict ho hex.1 hdt r1 r2, ?_⟩
      intro hl z
      rcases List.mem_append.mp z with z | z
      · rcases List.mem_cons.mp z with z | z
        · rw [← z] at hsys
          simp at hsys
        · exact n1 z
      · exact n2 (by simpa [noL] using hl) z
theorem DgA.reads (I : Inv X pins σ H s) : ∀ (ds : List PyData) (vs : List V) (us : List Value), DgA p c H vs ds → Vals vs us → ∃ as, ReadsAll s.heap us ds as ∧ (noLA ds = true → sysModules ∉ as)
  | [], _, _, h, r => by
    cases h
    cases r
    exact ⟨_, .nil, by simp⟩
  | d :: ds, _, _, h, r => by
    cases h with
    | cons h1 h2 =>
      cases r with
      | cons r1 r2 =>
        obtain ⟨as, q1, n1⟩ := Dg.reads I d _ _ h1 r1
        obtain ⟨bs, q2, n2⟩ := DgA.reads I ds _ _ h2 r2
        have hh : ∀ z : noLA (d :: ds) = true, noL d = true ∧ noLA ds = true := fun z => by simpa [noLA] using z
        exact ⟨_, .cons q1 q2, fun z y => (List.mem_append.mp y).elim (n1 (hh z).1) (n2 (hh z).2)⟩
theorem DgK.reads (I : Inv X pins σ H s) : ∀ (ds : List (PyData × PyData)) (kvs : List (Key × V)) (vs : List (Key × Value)) (es : List DictEntry), DgK p c H kvs ds → KV kvs vs → Pairs (mixKind X.prog X.w) es vs →
    ∃ as bs, ReadsAll s.heap (es.map (·.key)) (ds.map (·.1)) as ∧ ReadsAll s.heap (es.map (·.val)) (ds.map (·.2)) bs ∧ sysModules ∉ as ∧ (noLK ds = true → sysModules ∉ bs)
  | [], _, _, _, h, r, q => by
    cases h
    cases r
    cases q
    exact ⟨_, _, .nil, .nil, by simp, by simp⟩
  | (k, d) :: ds, _, _, _, h, r, q => by
    cases h with
    | cons h1 h2 =>
      cases r with
      | cons r1 r2 =>
        cases q with
        | cons q1 q2 q3 =>
          obtain ⟨e1, e2⟩ := r1
          obtain ⟨as, bs, a1, a2, n1, n2⟩ := DgK.reads I ds _ _ _ h2 r2 q3
          obtain ⟨cs, b1, n3⟩ := Dg.reads I d _ _ h1 e2
          rw [← e1] at q1
          rw [← q2] at b1
          exact ⟨_, _, .cons (key_reads q1) a1, .cons b1 a2, by simpa using n1, fun z y => (List.mem_append.mp y).elim (n3 (by simp [noLK] at z; exact z.1)) (n2 (by simp [noLK] at z; exact z.2))⟩
end
/-- repr of data -/
theorem call_repr_any (hu : X.A.units + 66 < cLine) (hG : X.A.guards = some []) : CallR X (.builtin "repr") (fun xs H Q => ∃ x d p c, xs = [x] ∧ Dg p c H x d ∧ d.showable = true ∧ (d.hasDict = true → noL d = true) ∧ d.depth ≤ 64 ∧ d.shown.length ≤ sizeLine ∧ Q (.str d.shown) H) := by
  intro pins s σ H vs us Q I r h
  obtain ⟨x, d, p, c, rfl, hd, h1, hk, h3, h4, q⟩ := h
  obtain ⟨u, rfl, ru⟩ := vals1 r
  cases x with
  | ref a =>
    obtain ⟨as, rd, na⟩ := Dg.reads I d (.ref a) u hd ru
    obtain rfl : u = Value.ref a := ru
    exact repr_of_reads' rd h1 (fun z => na (hk z)) hG (by omega) (fun _ _ e => e) (fun h' u tk kp => ⟨.str d.shown, H, I.kept kp, ⟨_, rfl⟩, q⟩) h4
  | non =>
    cases hd
    obtain rfl : u = Value.none := ru
    exact PySem.P.repr_of_none ⟨.str _, H, I.tok _, ⟨_, rfl⟩, by rw [PyData.shown_none] at q; exact q⟩
  | bl b =>
    cases hd
    obtain rfl : u = Value.bool b := ru
    exact PySem.P.repr_of_bool ⟨.str _, H, I.tok _, ⟨_, rfl⟩, by rw [PyData.shown_bool] at q; exact q⟩
  | int i =>
    cases hd
    obtain ⟨t, rfl⟩ := ru
    exact PySem.P.repr_of_int (by simpa [PyData.showable] using h1) ⟨.str _, H, I.tok _, ⟨_, rfl⟩, by rw [PyData.shown_int] at q; exact q⟩
  | str z =>
    cases hd
    obtain ⟨t, rfl⟩ := ru
    rw [PyData.shown_str] at q h4
    exact PySem.P.repr_of_str ⟨.str _, H, I.tok _, ⟨_, rfl⟩, q⟩ h4
  | byt b => cases hd
  | flt b => cases hd
  | ty n => cases hd
/-- the type of data -/
def tyD : PyData → String
  | .none => "NoneType"
  | .bool _ => "bool"
  | .int _ => "int"
  | .str _ => "str"
  | .list _ => "list"
  | .tuple _ => "tuple"
  | .dict _ => "dict"
theorem Dg.tyx {K : PySem.W.Frag} {v : V} {d : PyData} (h : Dg p c H v d) : TyX K H v (.type (tyD d)) := by
  cases h with
  | non => exact .base .non
  | bl b => exact .base (.bl b)
  | int i => exact .base (.int i)
  | str x => exact .base (.str x)
  | lst a _ => exact .base (.lst a.2.2)
  | tup a _ => exact .base (.tup a.2.2)
  | dic a _ => exact .base (.dK a.2.2)
def isI : PyData → Bool
  | .int _ => true
  | .bool _ => true
  | _ => false
def isB : PyData → Bool
  | .bool _ => true
  | _ => false
def isS : PyData → Bool
  | .str _ => true
  | _ => false
def isT : PyData → Bool
  | .tuple _ => true
  | _ => false
section
variable {K : PySem.W.Frag}
theorem isi_I (d : PyData) : PySem.W.kitOne K (.type (tyD d)) (.type "int") = some (isI d) := by
  cases d <;> exact kit_ty (by simp only [tyD, isI]; decide +kernel)
theorem isi_B (d : PyData) : PySem.W.kitOne K (.type (tyD d)) (.type "bool") = some (isB d) := by
  cases d <;> exact kit_ty (by simp only [tyD, isB]; decide +kernel)
theorem isi_S (d : PyData) : PySem.W.kitOne K (.type (tyD d)) (.type "str") = some (isS d) := by
  cases d <;> exact kit_ty (by simp only [tyD, isS]; decide +kernel)
theorem isi_T (d : PyData) : PySem.W.kitOne K (.type (tyD d)) (.type "tuple") = some (isT d) := by
  cases d <;> exact kit_ty (by simp only [tyD, isT]; decide +kernel)
end
end
end Ag

end
/-! ## D1 -/
section
set_option linter.all false
set_option maxRecDepth 100000
namespace Ag
open PySem PySem.Spec PyProof.Rows L2
open AutoSeq1 (wpAny_loadPart')
open MeetsSeq SeqAt
/-! ### a dict is no text and no tuple -/
theorem dctS (z : Addr) (es : Array DictEntry) (e1 : Nat) (q : Option Addr) (sl : Array (Option Value)) (b : Str) (k : Tok) :
    Meets (Builtin.«dict.__eq__» ⟨[.ref z, .str b k], []⟩) (fun _ R s => s.heap.get? z = some { cls := .type "dict", dict := q, data := .dict es e1, slots := sl } ∧ R (.ok (.ret .notImplemented)) s) :=
  .of_wp fun pr w A R s y => by
    obtain ⟨hp, g, dr, tk, os⟩ := s
    obtain ⟨hz, y⟩ := y
    have f1 := F.sub_str_dict
    wp_walk using wpAny_loadPart' hz, wpAny_load hz
    exact ⟨_, rfl, y⟩
theorem strD (b : Str) (k : Tok) (z : Addr) (es : Array DictEntry) (e1 : Nat) (q : Option Addr) (sl : Array (Option Value)) :
    Meets (Builtin.«str.__eq__» ⟨[.str b k, .ref z], []⟩) (fun _ R s => s.heap.get? z = some { cls := .type "dict", dict := q, data := .dict es e1, slots := sl } ∧ R (.ok (.ret .notImplemented)) s) :=
  .of_wp fun pr w A R s y => by
    obtain ⟨hp, g, dr, tk, os⟩ := s
    obtain ⟨hz, y⟩ := y
    wp_walk using wpAny_loadPart' hz, wpAny_load hz
    exact ⟨_, rfl, y⟩
theorem dctT (z t : Addr) (es : Array DictEntry) (e1 : Nat) (q q2 : Option Addr) (sl sl2 : Array (Option Value)) (its : Array Value) (n : Nat) :
    Meets (Builtin.«dict.__eq__» ⟨[.ref z, .ref t], []⟩) (fun _ R s => s.heap.get? z = some { cls := .type "dict", dict := q, data := .dict es e1, slots := sl } ∧ s.heap.get? t = some { cls := .type "tuple", dict := q2, data := .seq its n, slots := sl2 } ∧ R (.ok (.ret .notImplemented)) s) :=
  .of_wp fun pr w A R s y => by
    obtain ⟨hp, g, dr, tk, os⟩ := s
    obtain ⟨hz, ht, y⟩ := y
    have f1 := F.sub_tuple_dict
    wp_walk using wpAny_loadPart' hz, wpAny_load hz, wpAny_loadPart' ht, wpAny_load ht
    exact ⟨_, rfl, y⟩
theorem tupD (t z : Addr) (es : Array DictEntry) (e1 : Nat) (q q2 : Option Addr) (sl sl2 : Array (Option Value)) (its : Array Value) (n : Nat) :
    Meets (Builtin.«tuple.__eq__» ⟨[.ref t, .ref z], []⟩) (fun _ R s => s.heap.get? z = some { cls := .type "dict", dict := q, data := .dict es e1, slots := sl } ∧ s.heap.get? t = some { cls := .type "tuple", dict := q2, data := .seq its n, slots := sl2 } ∧ R (.ok (.ret .notImplemented)) s) :=
  .of_wp fun pr w A R s y => by
    obtain ⟨hp, g, dr, tk, os⟩ := s
    obtain ⟨hz, ht, y⟩ := y
    have f1 := F.sub_dict_tuple
    wp_walk using wpAny_loadPart' hz, wpAny_load hz, wpAny_loadPart' ht, wpAny_load ht
    exact ⟨_, rfl, y⟩
section
variable {A : Around} {s : Shared}
theorem eq_strD {z : Addr} {o : Obj} {es : Array DictEntry} {e1 : Nat} (b : Str) (k : Tok) (ho : s.heap.get? z = some o) (hc : o.cls = .type "dict") (hd : o.data = .dict es e1) (hu : A.units < cLine) : EqAt A s (.str b k) (.ref z) false := by
  intro pr w E Q y
  obtain ⟨cls, q, data, sl⟩ := o
  simp only at hc hd
  subst hc hd
  unfold eqBool
  refine wpAny_holding (wpAny_ite_split (fun hab => absurd (eq_of_beq hab) nofun) fun _ => ?_)
  refine wpAny_bind ?_
  refine rc_eq_decline_or (k := false) (typeIs_str s b k) ⟨_, ho, rfl⟩ (by decide) F.sub_dict_str F.slot_str_eq F.slot_dict_eq_refl ?_ ?_ ?_ (.inr hu) (wpAny_truthy_bool y)
  · exact fun _ hq => call_meets F.slot_str_eq (typeIs_str s b k) F.entry_str_eq (F.args_str_eq_2 _ _) (strD b k z es e1 q sl) ⟨ho, hq⟩
  · exact fun _ hq => call_meets F.slot_dict_eq_refl ⟨_, ho, rfl⟩ F.entry_dict_eq (F.args_dict_eq_2 _ _) (dctS z es e1 q sl b k) ⟨ho, hq⟩
  · exact fun _ hq => wpAny_of_eq (rfl : isSame (.str b k) (.ref z) = pure false) hq
theorem ne_dt {z t : Addr} {o u : Obj} (ho : s.heap.get? z = some o) (hc : o.cls = .type "dict") (hu : s.heap.get? t = some u) (hc2 : u.cls = .type "tuple") : z ≠ t := by
  rintro rfl
  rw [ho] at hu
  cases hu
  rw [hc] at hc2
  exact absurd (Value.type.inj hc2) (by decide)
theorem rc_dictT {z t : Addr} {o : Obj} {es : Array DictEntry} {e1 : Nat} {its : Array Value} (ho : s.heap.get? z = some o) (hc : o.cls = .type "dict") (hd : o.data = .dict es e1) (ht : s.heap.IsTuple t its) (hu : A.units < cLine) :
    RcAt A s (.ref z) (.ref t) false := by
  intro pr w E Q y
  obtain ⟨u, hu1, hc2, n, hd2⟩ := ht
  have ne := ne_dt ho hc hu1 hc2
  obtain ⟨cls, q, data, sl⟩ := o
  obtain ⟨cls2, q2, data2, sl2⟩ := u
  simp only at hc hd hc2 hd2
  subst hc hd hc2 hd2
  refine rc_eq_decline_or (k := false) ⟨_, ho, rfl⟩ ⟨_, hu1, rfl⟩ (by decide) F.sub_tuple_dict F.slot_dict_eq F.slot_tuple_eq_refl ?_ ?_ ?_ (.inr hu) y
  · exact fun _ hq => call_meets F.slot_dict_eq ⟨_, ho, rfl⟩ F.entry_dict_eq (F.args_dict_eq_2 _ _) (dctT z t es e1 q q2 sl sl2 its n) ⟨ho, hu1, hq⟩
  · exact fun _ hq => call_meets F.slot_tuple_eq_refl ⟨_, hu1, rfl⟩ F.entry_tuple_eq (F.args_tuple_eq_2 _ _) (tupD t z es e1 q q2 sl sl2 its n) ⟨ho, hu1, hq⟩
  · intro Q' hq
    show wpAny _ _ (if (z == t) = true then pure true else _) _ _ _
    rw [if_neg (by simpa using ne)]
    refine wpAny_bind (wpAny_load ho (wpAny_bind (wpAny_load hu1 ?_)))
    split
    · rename_i h1 h2 _ _
      simp at h1
    · exact wpAny_pure hq
end
end Ag

end
/-! ## Kit -/
section
set_option linter.all false
set_option maxRecDepth 100000
namespace Ag
open PySem PySem.Spec PyProof.Rows L2
open SX (S S_len S_cat S_inj)
section
variable {J : It} {n : Nat} {G : Hp → Prop} {Y : Nat → Hp → V → Hp → Prop}
/-- a comprehension without tests: R stays, each item is as v says of its place -/
theorem lc_all (w : Walk J n G Y) {g : TG} {te : TE} {vs : List Nat} {σ : L2.St} {H1 : Hp} {D : Addr} {Qd : Hp → Prop} (R : Hp → Prop) (v : Nat → V → Prop) (hn : n ≤ 16000000) (r0 : R H1) (rD : ∀ H o, R H → R (upd H D o)) (hG : ∀ H, R H → G H)
    (hs : ∀ i x H H' xs (k : VK), i < n → R H → H D = some (.lst xs) → Y i H x H' → (∀ y H4, v i y → R H4 → H4 D = some (.lst xs) → k y H4) → g x (wipe σ vs) H' fun σ2 H2 => wipe σ2 vs = wipe σ vs ∧ te σ2 H2 k)
    (hd : ∀ H xs, xs.length = n → (∀ i y, xs[i]? = some y → v i y) → R H → H D = some (.lst xs) → Qd H) :
    ∃ W : Nat → Nat → Hp → Prop, (∃ m, W 0 m (upd H1 D (.lst []))) ∧ ∀ i m H, W i m H →
      (J.stop i H ∧ Qd H) ∨ (J.go i H ∧ ∃ Nx : Hp → Prop, (∀ H', Nx H' → ∃ m', m' < m ∧ W (i + 1) m' H') ∧ ∀ x H', J.yld i H x H' → g x (wipe σ vs) H' fun σ2 H2 => wipe σ2 vs = wipe σ vs ∧ tYes σ2 H2 fun b H3 =>
        if b = true then te σ2 H3 fun y H4 => ∃ acc, H4 D = some (.lst acc) ∧ acc.length < sizeLine ∧ Nx (upd H4 D (.lst (acc ++ [y]))) else Nx H3) := by
  refine lc_it (g := g) (tt := tYes) (te := te) (vs := vs) (σ := σ) w (fun i H => ∃ xs : List V, xs.length = i ∧ (∀ j y, xs[j]? = some y → v j y) ∧ R H ∧ H D = some (.lst xs)) ⟨[], rfl, fun j y h => by simp at h, rD _ _ r0, upd_same⟩ (fun i H hi p => ?_) (fun i x H H' hi p hy => ?_) (fun H p => ?_)
  · obtain ⟨xs, _, _, r, _⟩ := p
    exact hG H r
  · obtain ⟨xs, hl, hv, r, hD⟩ := p
    refine hs i x H H' xs _ hi r hD hy ?_
    rintro y H4 hvy r4 h4
    refine ⟨xs, h4, ?_, xs ++ [y], by simp [hl], fun j z hz => ?_, rD _ _ r4, upd_same⟩
    · rw [sizeLine_eq]; omega
    · rw [List.getElem?_append] at hz
      split at hz
      · exact hv j z hz
      · rename_i hj
        have e : j - xs.length = 0 := by
          cases hq : j - xs.length with
          | zero => rfl
          | succ k => rw [hq] at hz; simp at hz
        rw [e] at hz
        simp at hz
        subst hz
        have : j = i := by omega
        subst this
        exact hvy
  · obtain ⟨xs, hl, hv, r, hD⟩ := p
    exact hd H xs hl hv r hD
end
/-! ### cuts of texts -/
theorem sIx_at {n d a : Nat} (h : a ≤ n) : HT.sIx n d (some (a : Int)) = a := by rw [HT.sIx_nat, Nat.min_eq_left h]
theorem cut_S {l : List Nat} {a b : Nat} (ha : a ≤ l.length) : cutS (S l) (some (a : Int)) (some (b : Int)) = S ((l.drop a).take (b - a)) := by
  unfold cutS
  rw [S_len, sIx_at ha, HT.sIx_nat]
  congr 1
  congr 1
  by_cases hb : b ≤ l.length
  · rw [Nat.min_eq_left hb]
  · rw [Nat.min_eq_right (by omega), List.take_of_length_le (by rw [List.length_drop]; exact Nat.le_refl _), List.take_of_length_le (by rw [List.length_drop]; omega)]
theorem cut_from {l : List Nat} {a : Nat} (ha : a ≤ l.length) : cutS (S l) (some (a : Int)) none = S (l.drop a) := by
  unfold cutS
  rw [S_len, sIx_at ha, HT.sIx_none]
  congr 1
  congr 1
  rw [List.take_of_length_le (by rw [List.length_drop]; exact Nat.le_refl _)]
theorem cut_to {l : List Nat} {b : Nat} : cutS (S l) none (some (b : Int)) = S (l.take b) := by
  unfold cutS
  rw [S_len, HT.sIx_none, HT.sIx_nat, List.drop_zero, Nat.sub_zero]
  congr 1
  congr 1
  by_cases hb : b ≤ l.length
  · rw [Nat.min_eq_left hb]
  · rw [Nat.min_eq_right (by omega), List.take_of_length_le (Nat.le_refl _), List.take_of_length_le (by omega)]
end Ag

end
/-! ## D2 -/
section
set_option linter.all false
set_option maxRecDepth 100000
namespace Ag
open PySem PySem.Spec PyProof.Rows L2
open SX (S S_len S_cat S_inj)
open SeqAt
/-! ### comparisons of data -/
section
variable {X : Cx}
def rEqG : R2 := fun x y H Q => ∃ p c d e, Dg p c H x d ∧ Dg p c H y e ∧ SeqAt.shaped d = true ∧ SeqAt.shaped e = true ∧ Q (.bl (PyData.eqv d e)) H
def rNeG : R2 := fun x y H Q => ∃ p c d e, Dg p c H x d ∧ Dg p c H y e ∧ SeqAt.shaped d = true ∧ SeqAt.shaped e = true ∧ Q (.bl (!PyData.eqv d e)) H
theorem op_eqG (hu : X.A.units + 64 < cLine) : OpR X (compareOp .Eq) rEqG := by
  intro pins s σ H x y v u Q I rx ry h
  obtain ⟨p, c, d, e, hd, he, sd, se, q⟩ := h
  obtain ⟨as, r1, _⟩ := Dg.reads I d x v hd rx
  obtain ⟨bs, r2, _⟩ := Dg.reads I e y u he ry
  exact SeqAt.compareEq_shaped r1 r2 sd se hu ⟨.bl _, H, I, rfl, q⟩
theorem op_neG (hu : X.A.units + 64 < cLine) : OpR X (compareOp .NotEq) rNeG := by
  intro pins s σ H x y v u Q I rx ry h
  obtain ⟨p, c, d, e, hd, he, sd, se, q⟩ := h
  obtain ⟨as, r1, _⟩ := Dg.reads I d x v hd rx
  obtain ⟨bs, r2, _⟩ := Dg.reads I e y u he ry
  exact SeqAt.compareNe_shaped r1 r2 sd se hu ⟨.bl _, H, I, rfl, q⟩
/-- any data against the empty tuple -/
def isT0 : PyData → Bool
  | .tuple [] => true
  | _ => false
def ascS : PyData → Bool
  | .str x => PyData.strOk x
  | _ => true
def rEqT0 : R2 := fun x y H Q => ∃ p c d t, Dg p c H x d ∧ ascS d = true ∧ y = .ref t ∧ H t = some (.tup []) ∧ Q (.bl (isT0 d)) H
theorem op_eqT0 (hu : X.A.units + 64 < cLine) : OpR X (compareOp .Eq) rEqT0 := by
  intro pins s σ H x y v u Q I rx ry h
  obtain ⟨p, c, d, t, hd, ha, rfl, ht, q⟩ := h
  cases ry
  obtain ⟨its, rv, hT, _⟩ := I.tuple (SqT.of ht)
  cases rv
  have hz : Reads s.heap (.ref t) (.tuple []) [] := by
    obtain ⟨o, ho, hc, n, hdt⟩ := hT
    exact .tuple ho hc hdt .nil
  have flat : ∀ (d : PyData), Dg p c H x d → d.canLay0 = true → d.depth = 0 → PyData.eqv d (.tuple []) = false → Q (.bl false) H → wpAny (model X.prog X.w) X.A (compareOp .Eq v (.ref t)) (EP X pins σ Q) X.xe s := by
    intro d hd hl h0 he q
    obtain ⟨as, r1, _⟩ := Dg.reads I d x v hd rx
    refine SeqAt.compareEq_reads r1 hz hl rfl (by rw [h0, Nat.zero_min]; omega) ?_
    rw [he]
    exact ⟨.bl _, H, I, rfl, q⟩
  have hu0 : X.A.units < cLine := by omega
  cases d with
  | none => exact flat _ hd rfl rfl rfl q
  | bool b => exact flat _ hd rfl rfl rfl q
  | int i => exact flat _ hd rfl rfl rfl q
  | str z => exact flat _ hd ha rfl rfl q
  | list ds =>
    cases hd with
    | lst a b =>
      cases rx
      obtain ⟨its2, rv2, hL, _⟩ := I.list (SqL.of a.2.2)
      exact RcAt.list_tuple hL.isList hT hu0 _ _ _ _ ⟨.bl _, H, I, rfl, q⟩
  | dict ds =>
    cases hd with
    | dic a b =>
      cases rx
      obtain ⟨_, _, vs, _, o, es, ep, ho, hex, hdt, _⟩ := I.hok _ _ a.2.2
      exact rc_dictT ho hex.1 hdt hT hu0 _ _ _ _ ⟨.bl _, H, I, rfl, q⟩
  | tuple ds =>
    cases hd with
    | tup a b =>
      cases rx
      obtain ⟨its2, rv2, hT2, _⟩ := I.tuple (SqT.of a.2.2)
      refine RcAt.tuples (e := fun _ => false) hT2 hT hu0 (fun j _ h2 => by simp at h2) _ _ _ _ ?_
      have hl : its2.length = ds.length := by rw [← rv2.length]; exact b.len
      have e : (((List.range (min its2.toArray.size (#[] : Array Value).size)).all fun _ => false) && its2.toArray.size == (#[] : Array Value).size) = isT0 (.tuple ds) := by
        cases ds with
        | nil =>
          cases its2 with
          | nil => rfl
          | cons _ _ => simp at hl
        | cons _ _ =>
          cases its2 with
          | nil => simp at hl
          | cons _ _ => simp [isT0]
      refine ⟨.bl _, H, I, rfl, ?_⟩
      rw [e]
      exact q
/-- any data in a tuple of two texts -/
def eqSD (a : Str) : PyData → Bool
  | .str x => a == x
  | _ => false
def is2 (a b : Str) (d : PyData) : Bool := eqSD a d || eqSD b d
def eqVD (d : PyData) : Value → Bool
  | .str a _ => eqSD a d
  | _ => false
def rNotIn2 : R2 := fun x y H Q => ∃ p c d t a b, Dg p c H x d ∧ y = .ref t ∧ H t = some (.tup [.str a, .str b]) ∧ Q (.bl (!is2 a b d)) H
theorem eq_str_any {pins : List (Addr × Obj)} {σ : L2.St} {H : Hp} {s : Shared} {p c : Addr} (hu : X.A.units + 64 < cLine) (I : Inv X pins σ H s) {x : V} {v : Value} {d : PyData} (hd : Dg p c H x d) (rx : RelV x v) (a : Str) (k : Tok) :
    EqAt X.A.in1 s (.str a k) v (eqSD a d) := by
  have hu0 : X.A.in1.units < cLine := by show X.A.units + 1 < cLine; omega
  cases hd with
  | non => cases rx; exact EqAt.str_none a k
  | bl b => cases rx; exact EqAt.str_bool a k b
  | int i => obtain ⟨t, rfl⟩ := rx; exact EqAt.str_int a k i t
  | str z => obtain ⟨t, rfl⟩ := rx; exact EqAt.str_str a k z t
  | lst e _ =>
    cases rx
    obtain ⟨its2, rv2, hL, _⟩ := I.list (SqL.of e.2.2)
    exact EqAt.str_list a k hL.isList hu0
  | tup e _ =>
    cases rx
    obtain ⟨its2, rv2, hL, _⟩ := I.tuple (SqT.of e.2.2)
    exact EqAt.str_tuple a k hL hu0
  | dic e _ =>
    cases rx
    obtain ⟨_, _, vs, _, o, es, ep, ho, hex, hdt, _⟩ := I.hok _ _ e.2.2
    exact eq_strD a k ho hex.1 hdt hu0
theorem op_notIn2 (hu : X.A.units + 64 < cLine) : OpR X (compareOp .NotIn) rNotIn2 := by
  intro pins s σ H x y v u Q I rx ry h
  obtain ⟨p, c, d, t, a, b, hd, rfl, ht, q⟩ := h
  cases ry
  obtain ⟨its, rv, hT, _⟩ := I.tuple (SqT.of ht)
  cases rv with
  | cons ra rt =>
    cases rt with
    | cons rb rt =>
      cases rt
      obtain ⟨ta, rfl⟩ := ra
      obtain ⟨tb, rfl⟩ := rb
      refine notIn_tupleAt (eqVD d) hT (fun y hy => ?_) ⟨.bl _, H, I, rfl, ?_⟩
      · have hy : y = .str a ta ∨ y = .str b tb := by simpa using hy
        rcases hy with rfl | rfl
        · exact eq_str_any hu I hd rx a ta
        · exact eq_str_any hu I hd rx b tb
      · have e : ([Value.str a ta, Value.str b tb] : List Value).toArray.any (eqVD d) = is2 a b d := by
          rw [← Array.any_toList]
          simp [is2, eqVD]
        show Q (.bl (!Array.any _ _)) H
        rw [e]
        exact q
end
end Ag

end
/-! ## D3 -/
section
set_option linter.all false
set_option maxRecDepth 100000
namespace Ag
open PySem PySem.Spec PyProof.Rows L2
open SX (S S_len S_cat S_inj)
theorem numLen {k n : Nat} (hk : 1 ≤ k) (h : n < 10 ^ k) : (numL n).length ≤ k := TL.numL_len hk h
theorem toStrN (n : Nat) : (Str.ofString (toString ((n : Nat) : Int))) = S (numL n) := SX.num_S n
/-! ### good data: ascii texts, ints from -1 below 10 ** 40, short tuples; q: dicts and no lists, not q: lists and no dicts -/
def intOk (i : Int) : Bool := decide (-1 ≤ i) && decide (i < 10 ^ 40)
def strOkB (x : Str) : Bool := x.cps.toList.all (· < 128) && decide (x.cps.size ≤ 300)
mutual
def okV (q : Bool) : PyData → Bool
  | .none => true
  | .bool _ => true
  | .int i => intOk i
  | .str x => strOkB x
  | .list xs => !q && okVA q xs
  | .tuple xs => decide (xs.length ≤ 60) && okVA q xs
  | .dict kvs => q && okVK q kvs
def okVA (q : Bool) : List PyData → Bool
  | [] => true
  | x :: xs => okV q x && okVA q xs
def okVK (q : Bool) : List (PyData × PyData) → Bool
  | [] => true
  | (k, v) :: r => okV q k && okV q v && okVK q r
end
theorem int_good {i : Int} (h : intOk i = true) : i.natAbs.log2 < 1920 ∧ (PyData.int i).shown.length ≤ 60 := by
  simp only [intOk, Bool.and_eq_true, decide_eq_true_eq] at h
  obtain ⟨h1, h2⟩ := h
  rw [PyData.shown_int]
  by_cases h0 : 0 ≤ i
  · obtain ⟨n, rfl⟩ := Int.eq_ofNat_of_zero_le h0
    have hn : n < 10 ^ 40 := by omega
    refine ⟨?_, ?_⟩
    · rw [Int.natAbs_natCast]
      by_cases z : n = 0
      · subst z; decide
      · exact (Nat.log2_lt z).mpr (Nat.lt_of_lt_of_le hn (by decide +kernel))
    · rw [toStrN, S_len]
      have := numLen (k := 40) (by decide) hn
      omega
  · have : i = -1 := by omega
    subst this
    decide +kernel
theorem str_good {x : Str} (h : strOkB x = true) : PyData.strOk x = true ∧ (PyData.str x).leavesShort 60 = true := by
  simp only [strOkB, Bool.and_eq_true, List.all_eq_true, decide_eq_true_eq] at h
  refine ⟨?_, ?_⟩
  · unfold PyData.strOk
    rw [← Array.all_toList, List.all_eq_true]
    intro c hc
    have := h.1 c hc
    simp
    omega
  · simp only [PyData.leavesShort]
    rw [List.all_eq_true]
    intro c hc
    have := h.1 c hc
    simp
    omega
mutual
theorem okV_show {q : Bool} : ∀ d : PyData, okV q d = true → d.showable = true ∧ d.leavesShort 60 = true ∧ (q = true → noL d = true) ∧ (q = false → d.hasDict = false) ∧ (q = false → d.canLay0 = true)
  | .none, _ => by simp [PyData.showable, PyData.hasDict, noL, PyData.canLay0, PyData.leavesShort]
  | .bool _, _ => by simp [PyData.showable, PyData.hasDict, noL, PyData.canLay0, PyData.leavesShort]
  | .int i, h => by
    have := int_good (by simpa only [okV] using h)
    simp only [PyData.showable, PyData.hasDict, noL, PyData.canLay0, PyData.leavesShort, decide_eq_true_eq]
    exact ⟨this.1, this.2, fun _ => trivial, fun _ => trivial, fun _ => trivial⟩
  | .str x, h => by
    obtain ⟨h1, h2⟩ := str_good (by simpa only [okV] using h)
    exact ⟨by simp only [PyData.showable], h2, fun _ => by simp only [noL], fun _ => by simp only [PyData.hasDict], fun _ => by simp only [PyData.canLay0]; exact h1⟩
  | .list xs, h => by
    simp only [okV, Bool.and_eq_true, Bool.not_eq_true'] at h
    obtain ⟨h0, h⟩ := h
    subst h0
    obtain ⟨a, b, _, c, d⟩ := okVA_show xs h
    refine ⟨by simpa only [PyData.showable] using a, by simpa only [PyData.leavesShort] using b, fun z => absurd z (by decide), fun z => ?_, fun z => ?_⟩
    · simpa only [PyData.hasDict] using c z
    · simpa only [PyData.canLay0] using d z
  | .tuple xs, h => by
    simp only [okV, Bool.and_eq_true] at h
    have := okVA_show xs h.2
    simpa only [PyData.showable, PyData.hasDict, noL, PyData.canLay0, PyData.leavesShort] using this
  | .dict kvs, h => by
    simp only [okV, Bool.and_eq_true] at h
    obtain ⟨h0, h⟩ := h
    subst h0
    obtain ⟨a, b, c⟩ := okVK_show kvs h
    refine ⟨by simpa only [PyData.showable] using a, by simpa only [PyData.leavesShort] using b, fun z => ?_, fun z => absurd z (by decide), fun z => absurd z (by decide)⟩
    simpa only [noL] using c z
theorem okVA_show {q : Bool} : ∀ xs : List PyData, okVA q xs = true → PyData.showableAll xs = true ∧ PyData.leavesShortAll 60 xs = true ∧ (q = true → noLA xs = true) ∧ (q = false → PyData.hasDictAll xs = false) ∧ (q = false → PyData.canLayAll0 xs = true)
  | [], _ => by simp [PyData.showableAll, PyData.hasDictAll, noLA, PyData.canLayAll0, PyData.leavesShortAll]
  | x :: xs, h => by
    simp only [okVA, Bool.and_eq_true] at h
    obtain ⟨a1, a2, a3, a4, a5⟩ := okV_show x h.1
    obtain ⟨b1, b2, b3, b4, b5⟩ := okVA_show xs h.2
    simp only [PyData.showableAll, PyData.hasDictAll, noLA, PyData.canLayAll0, PyData.leavesShortAll, a1, a2, b1, b2]
    exact ⟨rfl, rfl, fun z => by rw [a3 z, b3 z]; rfl, fun z => by rw [a4 z, b4 z]; rfl, fun z => by rw [a5 z, b5 z]; rfl⟩
theorem okVK_show {q : Bool} : ∀ xs : List (PyData × PyData), okVK q xs = true → PyData.showableKv xs = true ∧ PyData.leavesShortKv 60 xs = true ∧ (q = true → noLK xs = true)
  | [], _ => by simp [PyData.showableKv, noLK, PyData.leavesShortKv]
  | (k, v) :: xs, h => by
    simp only [okVK, Bool.and_eq_true] at h
    obtain ⟨a1, a2, a3, a4, a5⟩ := okV_show k h.1.1
    obtain ⟨c1, c2, c3, c4, c5⟩ := okV_show v h.1.2
    obtain ⟨b1, b2, b3⟩ := okVK_show xs h.2
    simp only [PyData.showableKv, noLK, PyData.leavesShortKv, a1, a2, b1, b2, c1, c2]
    exact ⟨rfl, rfl, fun z => by rw [c3 z, b3 z]; rfl⟩
end
structure Gd (q : Bool) (d : PyData) (n b : Nat) : Prop where
  ok : okV q d = true
  dp : d.depth ≤ n
  bk : d.bulk ≤ b
structure GdA (q : Bool) (ds : List PyData) (n b : Nat) : Prop where
  ok : okVA q ds = true
  dp : PyData.depthAll ds ≤ n
  bk : PyData.bulkAll ds ≤ b
theorem Gd.mono {q : Bool} {d : PyData} {n m b c : Nat} (h : Gd q d n b) (hn : n ≤ m) (hb : b ≤ c) : Gd q d m c := ⟨h.ok, Nat.le_trans h.dp hn, Nat.le_trans h.bk hb⟩
theorem GdA.mono {q : Bool} {d : List PyData} {n m b c : Nat} (h : GdA q d n b) (hn : n ≤ m) (hb : b ≤ c) : GdA q d m c := ⟨h.ok, Nat.le_trans h.dp hn, Nat.le_trans h.bk hb⟩
theorem Gd.fit {q : Bool} {d : PyData} {n b : Nat} (h : Gd q d n b) (hn : n ≤ 60) (hb : b ≤ 100000) : d.showable = true ∧ (d.hasDict = true → noL d = true) ∧ d.depth ≤ 64 ∧ d.shown.length ≤ sizeLine := by
  obtain ⟨a1, a2, a3, a4, _⟩ := okV_show d h.ok
  refine ⟨a1, fun z => ?_, by have := h.dp; omega, ?_⟩
  · cases q with
    | true => exact a3 rfl
    | false => rw [a4 rfl] at z; cases z
  · have h1 := PyData.shown_le_bulk 60 (by decide) d a2
    have h2 : d.bulk ≤ 100000 := Nat.le_trans h.bk hb
    rw [sizeLine_eq]
    omega
theorem Gd.shaped {d : PyData} {n b : Nat} (h : Gd false d n b) (hn : n ≤ 60) : SeqAt.shaped d = true := by
  unfold SeqAt.shaped
  rw [(okV_show d h.ok).2.2.2.2 rfl, decide_eq_true (by have := h.dp; omega)]
  rfl
theorem Gd.asc {q : Bool} {d : PyData} {n b : Nat} (h : Gd q d n b) : ascS d = true := by
  cases d with
  | str x => exact (str_good (by simpa only [okV] using h.ok)).1
  | _ => rfl
theorem GdA.nil {q : Bool} {n b : Nat} : GdA q [] n b := ⟨by simp [okVA], by simp [PyData.depthAll], by simp [PyData.bulkAll]⟩
theorem GdA.cons {q : Bool} {d : PyData} {ds : List PyData} {n b b1 b2 : Nat} (h : Gd q d n b1) (k : GdA q ds n b2) (hb : b1 + b2 + 1 ≤ b) : GdA q (d :: ds) n b := by
  refine ⟨?_, ?_, ?_⟩
  · simp only [okVA, h.ok, k.ok]
    rfl
  · simp only [PyData.depthAll]
    have := h.dp
    have := k.dp
    omega
  · simp only [PyData.bulkAll]
    have := h.bk
    have := k.bk
    omega
theorem Gd.tup {q : Bool} {ds : List PyData} {n b : Nat} (h : GdA q ds n b) (hl : ds.length ≤ 60) : Gd q (.tuple ds) (n + 1) b := by
  refine ⟨?_, ?_, ?_⟩
  · simp only [okV, h.ok, decide_eq_true hl]
    rfl
  · simp only [PyData.depth]
    have := h.dp
    omega
  · simp only [PyData.bulk]
    exact h.bk
theorem Gd.lst {ds : List PyData} {n b : Nat} (h : GdA false ds n b) : Gd false (.list ds) (n + 1) b := by
  refine ⟨?_, ?_, ?_⟩
  · simp only [okV, h.ok]
    rfl
  · simp only [PyData.depth]
    have := h.dp
    omega
  · simp only [PyData.bulk]
    exact h.bk
theorem Gd.untup {q : Bool} {ds : List PyData} {n b : Nat} (h : Gd q (.tuple ds) n b) : GdA q ds (n - 1) b ∧ ds.length ≤ 60 := by
  have h1 := h.ok
  simp only [okV, Bool.and_eq_true, decide_eq_true_eq] at h1
  have h2 := h.dp
  simp only [PyData.depth] at h2
  have h3 := h.bk
  simp only [PyData.bulk] at h3
  exact ⟨⟨h1.2, by omega, h3⟩, h1.1⟩
theorem GdA.hd {q : Bool} {d : PyData} {ds : List PyData} {n b : Nat} (h : GdA q (d :: ds) n b) : Gd q d n b ∧ GdA q ds n b := by
  have h1 := h.ok
  simp only [okVA, Bool.and_eq_true] at h1
  have h2 := h.dp
  simp only [PyData.depthAll] at h2
  have h3 := h.bk
  simp only [PyData.bulkAll] at h3
  exact ⟨⟨h1.1, by omega, by omega⟩, ⟨h1.2, by omega, by omega⟩⟩
theorem GdA.mem {q : Bool} {n b : Nat} : ∀ {ds : List PyData}, GdA q ds n b → ∀ d ∈ ds, Gd q d n b
  | [], _, d, hd => by cases hd
  | x :: xs, h, d, hd => by
    rcases List.mem_cons.mp hd with rfl | hd
    · exact h.hd.1
    · exact GdA.mem h.hd.2 d hd
theorem bulk_app : ∀ (xs ys : List PyData), PyData.bulkAll (xs ++ ys) = PyData.bulkAll xs + PyData.bulkAll ys
  | [], ys => by simp [PyData.bulkAll]
  | x :: xs, ys => by
    rw [List.cons_append]
    simp only [PyData.bulkAll, bulk_app xs ys]
    omega
theorem GdA.app {q : Bool} {n b1 b2 b : Nat} : ∀ {xs ys : List PyData}, GdA q xs n b1 → GdA q ys n b2 → b1 + b2 ≤ b → GdA q (xs ++ ys) n b := by
  intro xs ys h k hb
  have hk := k.bk
  have hh := h.bk
  refine ⟨?_, ?_, by rw [bulk_app]; omega⟩
  · have h1 := h.ok
    clear h hh
    induction xs with
    | nil => exact k.ok
    | cons x xs ih =>
      simp only [okVA, Bool.and_eq_true] at h1
      rw [List.cons_append]
      simp only [okVA, h1.1, ih h1.2]
      rfl
  · have h1 := h.dp
    clear h hh
    induction xs with
    | nil => exact k.dp
    | cons x xs ih =>
      simp only [PyData.depthAll] at h1
      rw [List.cons_append]
      simp only [PyData.depthAll]
      have := ih (by omega)
      omega
theorem GdA.take {q : Bool} {n b : Nat} : ∀ {xs : List PyData} (m : Nat), GdA q xs n b → GdA q (xs.take m) n b := by
  intro xs m h
  have e := bulk_app (xs.take m) (xs.drop m)
  rw [List.take_append_drop] at e
  have hb := h.bk
  refine ⟨?_, ?_, by omega⟩
  · have h1 := h.ok
    clear h e hb
    induction xs generalizing m with
    | nil => simpa using h1
    | cons x xs ih =>
      cases m with
      | zero => simp [okVA]
      | succ m =>
        simp only [okVA, Bool.and_eq_true] at h1
        rw [List.take_succ_cons]
        simp only [okVA, h1.1, ih m h1.2]
        rfl
  · have h1 := h.dp
    clear h e hb
    induction xs generalizing m with
    | nil => simpa using h1
    | cons x xs ih =>
      cases m with
      | zero => simp [PyData.depthAll]
      | succ m =>
        simp only [PyData.depthAll] at h1
        rw [List.take_succ_cons]
        simp only [PyData.depthAll]
        have := ih m (by omega)
        omega
theorem GdA.drop {q : Bool} {n b : Nat} : ∀ {xs : List PyData} (m : Nat), GdA q xs n b → GdA q (xs.drop m) n b
  | _, 0, h => h
  | [], _ + 1, h => by simpa using h
  | _ :: xs, m + 1, h => by
    rw [List.drop_succ_cons]
    exact GdA.drop m h.hd.2
theorem GdA.rev {q : Bool} {n b : Nat} : ∀ {xs : List PyData}, GdA q xs n b → GdA q xs.reverse n b := by
  intro xs h
  have key : ∀ xs : List PyData, okVA q xs = true → PyData.depthAll xs ≤ n → GdA q xs.reverse n (PyData.bulkAll xs) := by
    intro xs
    induction xs with
    | nil => exact fun _ _ => .nil
    | cons x xs ih =>
      intro h1 h2
      simp only [okVA, Bool.and_eq_true] at h1
      simp only [PyData.depthAll] at h2
      rw [List.reverse_cons]
      simp only [PyData.bulkAll]
      exact (ih h1.2 (by omega)).app (b2 := x.bulk + 1) (.cons (b1 := x.bulk) (b2 := 0) ⟨h1.1, by omega, Nat.le_refl _⟩ .nil (by omega)) (by omega)
  exact (key xs h.ok h.dp).mono (Nat.le_refl _) h.bk
theorem Gd.non {q : Bool} {n b : Nat} : Gd q .none n b := ⟨by simp [okV], by simp [PyData.depth], by simp [PyData.bulk]⟩
theorem Gd.bl {q c : Bool} {n b : Nat} : Gd q (.bool c) n b := ⟨by simp [okV], by simp [PyData.depth], by simp [PyData.bulk]⟩
theorem Gd.int {q : Bool} {i : Int} {n b : Nat} (h : intOk i = true) : Gd q (.int i) n b := ⟨by simp [okV, h], by simp [PyData.depth], by simp [PyData.bulk]⟩
theorem Gd.str {q : Bool} {x : Str} {n b : Nat} (h : strOkB x = true) (hb : x.cps.size ≤ b) : Gd q (.str x) n b := ⟨by simp [okV, h], by simp [PyData.depth], by simp [PyData.bulk]; exact hb⟩
theorem S_toList (x : Str) : S x.cps.toList = x := rfl
theorem Gd.strL {q : Bool} {l : List Nat} {n b : Nat} (h : l.all (· < 128) = true) (h2 : l.length ≤ 300) (hb : l.length ≤ b) : Gd q (.str (S l)) n b := by
  refine .str ?_ (by rw [show (S l).cps.size = l.length from List.size_toArray ..]; exact hb)
  simp only [strOkB, Bool.and_eq_true, decide_eq_true_eq]
  exact ⟨h, by rw [show (S l).cps.size = l.length from List.size_toArray ..]; exact h2⟩
theorem Gd.strlen {q : Bool} {x : Str} {n b : Nat} (h : Gd q (.str x) n b) : x.cps.toList.all (· < 128) = true ∧ x.cps.toList.length ≤ 300 := by
  have := h.ok
  simp only [okV, strOkB, Bool.and_eq_true, decide_eq_true_eq] at this
  exact ⟨this.1, by rw [Array.length_toList]; exact this.2⟩
end Ag

end
/-! ## SetI -/
section
set_option linter.all false
set_option maxRecDepth 100000
namespace Ag
open PySem PySem.Spec PyProof.Rows L2
/-! ### set(xs) of a list or a tuple of ints, its length -/
section
variable {P : Program} {w : World} {A : Around} {E : Value → Shared → Prop} {s : Shared}
/-- a set's object as it is made -/
abbrev nilSet (w : World) : Obj := { cls := .type "set", dict := none, data := .set #[] 0 (.fresh 0 0 (!w.params.followText "set-order")) }
set_option maxHeartbeats 3200000 in
theorem set_lst {l : Addr} {its : Array Value} (ns : List Int) {Q : Value → Shared → Prop} (hh : A.handled = none) (hl : s.heap.IsList l its) (hit : IntsAre its.toList ns) (hb : ns.length + 1 < scanBound)
    (fin : ∀ (h' : Heap) (tk c : Nat), SetR w h' s.heap.objs.size (fun j => decide (j ∈ ns)) c → c ≤ ns.length → (∀ b o, s.heap.get? b = some o → h'.get? b = some o) → Q (.ref s.heap.objs.size) { s with heap := h', toks := tk }) :
    wpAny (model P w) A (call (.type "set") [.ref l]) Q E s := by
  have esz : its.size = ns.length := by
    have q := IntsAre.length hit
    rwa [Array.length_toList] at q
  obtain ⟨cc, tl, m0⟩ := F.called_set.mro
  have m1 := F.called_set.made
  have m2 := F.called_set.sub
  refine wpAny_call (codeAny_of_tree (show wpAny _ _ (callAny (.type "set") _) _ _ _ from wpAny_pure ⟨Code.quiet_builtin _ (by decide +kernel), codeAny_builtin F.entry_type_call ?_⟩))
  rw [Around.under_plain (weight_type_call_type "set" [.ref l] []) rfl]
  have m3 := F.called_set.notType
  have m4 := F.called_set.canCreate
  have m5 := F.typeCall_set_1 (.ref l)
  repeat (any_goals (first | assumption | wp_step))
  refine codeAny_mono (code_set_led1 (.ref l) (E := E) (Q₁ := fun ob s1 => ob = .ref s.heap.objs.size ∧ s1 = { s with heap := s.heap.push (nilSet w) }) ⟨rfl, rfl⟩) fun r s1 hr => ?_
  match r, hr with
  | .error e, hr => exact hr
  | .ok .next, hr => exact hr.elim
  | .ok .brk, hr => exact hr.elim
  | .ok .cont, hr => exact hr.elim
  | .ok (.ret ob), hr =>
    obtain ⟨rfl, rfl⟩ := hr
    have g1 : (s.heap.push (nilSet w)).get? s.heap.objs.size = some (nilSet w) := Heap.get?_push_size _ rfl
    have g2 : Shared.TypeIs { s with heap := s.heap.push (nilSet w) } (.ref s.heap.objs.size) "set" := ⟨_, g1, rfl⟩
    have m6 := F.called_set.init.lookup
    have m7 := F.called_set.init.bind (.ref s.heap.objs.size)
    repeat (any_goals (first | assumption | wp_step))
    refine codeAny_mono (codeAny_call_builtin (R := wants (fun r s2 => r = .none ∧ ∃ h' tk c, s2 = { s with heap := h', toks := tk } ∧ SetR w h' s.heap.objs.size (fun j => decide (j ∈ ns)) c ∧ c ≤ ns.length ∧
        (∀ b o, s.heap.get? b = some o → h'.get? b = some o)) E) F.called_set.init.plain F.entry_set_init (check_set_init_1 g2 ?_)) fun r2 s2 hr2 => ?_
    · obtain ⟨ol, e1, e2, nl, e3⟩ := hl
      obtain ⟨k1, k2, k3, k4⟩ := ol
      simp only at e2 e3
      subst e2 e3
      have g3 : (s.heap.push (nilSet w)).get? l = some { cls := .type "list", dict := k2, data := .seq its nl, slots := k4 } := Heap.get?_push_of_some _ e1
      have m8 := F.sub_list_set
      have m9 := F.sub_list_frozenset
      have ma : (Value.type "list" == Value.type "dict") = false := by decide
      have hl1 : (s.heap.push (nilSet w)).IsList l its := ⟨_, g3, rfl, nl, rfl⟩
      unfold Builtin.«set.__init__» noKeywords Builtin.Frozenset.updateFrom
      generalize hPI : pyIter = PI
      wp_walk
      subst hPI
      refine wpAny_pyIter_list hl1 (wpAny_bind (wpAny_runValue ?_))
      have lt := Heap.lt_size e1
      have hh3 : A.in1.in1.in1.handled = none := by simp [hh]
      have nI : l ≠ (s.heap.push (nilSet w)).objs.size := by
        rw [Heap.size_push]
        exact Nat.ne_of_lt (Nat.lt_succ_of_lt lt)
      have nS : s.heap.objs.size ∉ [(s.heap.push (nilSet w)).objs.size, l] := by
        rw [Heap.size_push]
        intro z
        rcases List.mem_cons.mp z with z | z
        · exact Nat.ne_of_lt (Nat.lt_succ_self _) z
        · exact Nat.ne_of_gt lt (List.mem_singleton.mp z)
      have vals : ∀ (i : Nat) (v : Value), its[i]? = some v → ∃ k t, ns[i]? = some k ∧ v = .int k t := fun i v hv => by
        have hi : i < ns.length := by rw [← esz]; exact (Array.getElem?_eq_some_iff.mp hv).1
        obtain ⟨t, e⟩ := IntsAre.int_at hit i v (by rw [Array.getElem?_toList]; exact hv)
        exact ⟨ns[i], t, List.getElem?_eq_getElem hi, by rw [e, List.getD_eq_getElem?_getD, List.getElem?_eq_getElem hi] <;> rfl⟩
      refine set_update_ints ((Walks.list hh3 _ l nI its).toS) s.heap.objs.size nS ns esz hb vals (its.size - 0) 0 _ (by omega) (Nat.zero_le _) ⟨⟨_, Heap.get?_push_size _ rfl, rfl, rfl⟩, (hl1.push _)⟩ ?_ ?_
      · exact ⟨0, Nat.le_refl 0, setR_new_at (Heap.get?_push_of_some _ g1)⟩
      · intro s' c' hm hc' hS'
        obtain ⟨h', q1, q2, tk', q3⟩ := s'
        obtain rfl : q1 = s.gens := hm.gens
        obtain rfl : q2 = s.drawn := hm.drawn
        obtain rfl : q3 = s.os := hm.os
        rw [esz] at hc'
        refine show wpAny _ _ _ _ _ _ from wpAny_pure (show wpAny _ _ (ret Value.none) _ _ _ from wpAny_pure ⟨rfl, h', tk', c', rfl, hS', hc', fun b o e => ?_⟩)
        have b0 : b < s.heap.objs.size := Heap.lt_size e
        refine hm.heap b o ?_ (Heap.get?_push_of_some _ (Heap.get?_push_of_some _ e))
        rw [Heap.size_push]
        intro z
        rcases List.mem_cons.mp z with z | z
        · exact Nat.ne_of_lt b0 z
        · exact Nat.ne_of_lt (Nat.lt_succ_of_lt b0) (List.mem_singleton.mp z)
    · match r2, hr2 with
      | .error e, hr2 => exact hr2
      | .ok .next, hr2 => exact hr2.elim
      | .ok .brk, hr2 => exact hr2.elim
      | .ok .cont, hr2 => exact hr2.elim
      | .ok (.ret r), hr2 =>
        obtain ⟨rfl, h', tk, c', rfl, a1, a2, a3⟩ := hr2
        repeat (any_goals (first | assumption | wp_step))
        exact fin _ _ _ a1 a2 a3
end
theorem setR_mem {w : World} {h : Heap} {a : Addr} {F : Int → Bool} {n : Nat} (R : SetR w h a F n) : ∃ L : List Int, L.Nodup ∧ (∀ k, k ∈ L ↔ F k = true) ∧ L.length = n := by
  obtain ⟨o, es, ep, t, _, _, _, _, nd, hk, _, _, hn, _⟩ := R
  exact ⟨es.toList.map keyOf, nd, fun k => (hk k).symm, by rw [List.length_map, Array.length_toList, hn]⟩
section
variable {X : Cx}
def rSetI (K : PySem.W.Frag) (w : World) : List V → Hp → VK → Prop := fun xs H Q => ∃ (l : Addr) (ns : List Int), xs = [.ref l] ∧ (SqL K H l (ns.map V.int) ∨ SqT K H l (ns.map V.int)) ∧ ns.length ≤ 1000 ∧
  ∀ (a : Addr) (L : List Int), H a = none → L.Nodup → (∀ k, k ∈ L ↔ k ∈ ns) → L.length ≤ ns.length → Q (.ref a) (upd H a (SetO w a (fun j => decide (j ∈ ns)) L.length))
theorem cr_setI (hc : X.calm = true) : CallR X (.type "set") (rSetI X.K X.w) := by
  intro pins s σ H xs us Q I r h
  obtain ⟨l, ns, rfl, hs, hz, q⟩ := h
  rw [Vals.ref1 r]
  have hz2 : ns.length + 1 < scanBound := by unfold scanBound; omega
  have done : ∀ (h' : Heap) (tk c : Nat), SetR X.w h' s.heap.objs.size (fun j => decide (j ∈ ns)) c → c ≤ ns.length → (∀ b o, s.heap.get? b = some o → h'.get? b = some o) → EP X pins σ Q (.ref s.heap.objs.size) { s with heap := h', toks := tk } := by
    intro h' tk c R hcn kp
    obtain ⟨L, nd, hm, hl⟩ := setR_mem R
    subst hl
    exact ⟨.ref _, _, I.laid (t' := tk) kp (Nat.le_refl _) (setO_new R), rfl, q _ L (I.hok.fresh (Nat.le_refl _)) nd (fun k => by rw [hm k, decide_eq_true_eq]) hcn⟩
  rcases hs with hs | hs
  · obtain ⟨its, rv, pl, _⟩ := I.list hs
    exact set_lst ns (I.ok.hd hc) pl.isList (by simpa using ints_of_vals rv) hz2 done
  · obtain ⟨its, rv, pl, _⟩ := I.tuple hs
    exact call_set_tupI ns (I.ok.hd hc) pl (by simpa using ints_of_vals rv) hz2 done
def rLenSet (w : World) : List V → Hp → VK → Prop := fun xs H Q => ∃ (a : Addr) (F : Int → Bool) (n : Nat), xs = [.ref a] ∧ H a = some (SetO w a F n) ∧ n ≤ 1000 ∧ Q (.int (n : Nat)) H
theorem cr_lenSet : CallR X (.builtin "len") (rLenSet X.w) := by
  intro pins s σ H xs us Q I r h
  obtain ⟨a, F, n, rfl, ha, hn, q⟩ := h
  rw [Vals.ref1 r]
  obtain ⟨o, es, ep, t, ho, hex, hd, _, _, _, _, hf, he, _⟩ := setO_get I ha
  exact call_len_set ho hex hd hf (by rw [he]; omega) ⟨.int n, H, I.tok _, ⟨_, by rw [he]⟩, q⟩
end
end Ag

end
/-! ## V1 -/
section
set_option linter.all false
set_option maxRecDepth 100000
namespace Ag
open PySem PySem.Spec PyProof.Rows L2
open SX (S S_len S_cat S_inj)
/-! ### what is asked of the parts of a view -/
def isIntB : PyData → Bool
  | .int _ => true
  | _ => false
def wholeB (lo hi : Int) : PyData → Bool
  | .int i => decide (lo ≤ i) && decide (i ≤ hi)
  | _ => false
def azC (c : Nat) : Bool := decide (97 ≤ c) && decide (c ≤ 122)
def wordL (l : List Nat) : Bool := (decide (1 ≤ l.length) && decide (l.length ≤ 10)) && l.all azC
def wordB : PyData → Bool
  | .str x => wordL x.cps.toList
  | _ => false
def bodyB : PyData → Bool
  | .str x => decide (x.cps.toList.length ≤ 150) && plainL x.cps.toList
  | _ => false
def asInt : PyData → Int
  | .int i => i
  | _ => 0
def ascI : List Int → Bool
  | [] => true
  | a :: l => l.all (fun b => decide (a < b)) && ascI l
def cntB (hi : Int) : PyData → Bool
  | .tuple xs => xs.all (wholeB 1 hi) && ascI (xs.map asInt)
  | _ => false
theorem ascI_iff : ∀ l : List Int, ascI l = true ↔ l.Pairwise (· < ·)
  | [] => by simp [ascI]
  | a :: l => by
    rw [ascI, Bool.and_eq_true, ascI_iff l, List.pairwise_cons, List.all_eq_true]
    simp
theorem asc_uniq : ∀ {l k : List Int}, l.Pairwise (· < ·) → k.Pairwise (· < ·) → (∀ x, x ∈ l ↔ x ∈ k) → l = k
  | [], [], _, _, _ => rfl
  | [], b :: k, _, _, h => absurd ((h b).mpr List.mem_cons_self) (by simp)
  | a :: l, [], _, _, h => absurd ((h a).mp List.mem_cons_self) (by simp)
  | a :: l, b :: k, hl, hk, h => by
    rw [List.pairwise_cons] at hl hk
    have hab : a = b := by
      have h1 := (h a).mp List.mem_cons_self
      have h2 := (h b).mpr List.mem_cons_self
      rcases List.mem_cons.mp h1 with e | e
      · exact e
      · rcases List.mem_cons.mp h2 with e2 | e2
        · exact e2.symm
        · have := hk.1 a e
          have := hl.1 b e2
          omega
    subst hab
    congr 1
    refine asc_uniq hl.2 hk.2 fun x => ⟨fun hx => ?_, fun hx => ?_⟩
    · rcases List.mem_cons.mp ((h x).mp (List.mem_cons_of_mem _ hx)) with e | e
      · have := hl.1 x hx
        omega
      · exact e
    · rcases List.mem_cons.mp ((h x).mpr (List.mem_cons_of_mem _ hx)) with e | e
      · have := hk.1 x hx
        omega
      · exact e
theorem alpha128 : ∀ c < 128, Unicode.isAlpha c = ((decide (65 ≤ c) && decide (c ≤ 90)) || azC c) := by decide +kernel
theorem lower128 : ∀ c < 128, Unicode.isLower c = azC c := by decide +kernel
theorem upper128 : ∀ c < 128, (Unicode.isUpper c || Unicode.isTitle c) = (decide (65 ≤ c) && decide (c ≤ 90)) := by decide +kernel
theorem word_of {l : List Nat} (ha : l.all (· < 128) = true) (hne : l ≠ []) : (Txt.isalpha (S l) && Txt.islower (S l)) = l.all azC := by
  have e1 : Txt.isalpha (S l) = l.all Unicode.isAlpha := by
    show (decide ((S l).length > 0) && (S l).cps.all _) = _
    rw [← Array.all_toList, S_len, decide_eq_true (by cases l; exact absurd rfl hne; simp), Bool.true_and]
  have e2 : Txt.islower (S l) = (l.any Unicode.isLower && !l.any fun c => Unicode.isUpper c || Unicode.isTitle c) := by
    show ((S l).cps.any _ && !(S l).cps.any _) = _
    rw [← Array.any_toList, ← Array.any_toList]
  have lt : ∀ c ∈ l, c < 128 := fun c hc => by simpa using List.all_eq_true.mp ha c hc
  rw [e1, e2, Bool.eq_iff_iff]
  simp only [Bool.and_eq_true, List.all_eq_true, List.any_eq_true, Bool.not_eq_true', List.any_eq_false]
  constructor
  · rintro ⟨h1, _, h3⟩ c hc
    have a1 := h1 c hc
    have a3 := h3 c hc
    rw [upper128 c (lt c hc)] at a3
    rw [alpha128 c (lt c hc), Bool.or_eq_true] at a1
    rcases a1 with a1 | a1
    · rw [a1] at a3
      exact absurd rfl a3
    · exact a1
  · intro h
    refine ⟨fun c hc => ?_, ?_, fun c hc => ?_⟩
    · rw [alpha128 c (lt c hc), h c hc, Bool.or_true]
    · cases l with
      | nil => exact absurd rfl hne
      | cons c l => exact ⟨c, List.mem_cons_self, by rw [lower128 c (lt c List.mem_cons_self)]; exact h c List.mem_cons_self⟩
    · rw [upper128 c (lt c hc)]
      have := h c hc
      simp only [azC, Bool.and_eq_true, decide_eq_true_eq] at this
      simp
      omega
theorem dpIntsG {K : PySem.W.Frag} {H : Hp} : ∀ cs : List Int, DpAll K H (cs.map V.int) (cs.map PyData.int)
  | [] => .nil
  | c :: cs => .cons (.int c) (dpIntsG cs)
theorem lay_ints : ∀ cs : List Int, PyData.canLayAll0 (cs.map PyData.int) = true
  | [] => by simp [PyData.canLayAll0]
  | c :: cs => by simp [PyData.canLayAll0, PyData.canLay0, lay_ints cs]
theorem depth_ints : ∀ cs : List Int, PyData.depthAll (cs.map PyData.int) = 0
  | [] => by simp [PyData.depthAll]
  | c :: cs => by simp [PyData.depthAll, PyData.depth, depth_ints cs]
theorem shaped_ints (cs : List Int) : SeqAt.shaped (.list (cs.map PyData.int)) = true := by
  simp [SeqAt.shaped, PyData.canLay0, PyData.depth, lay_ints, depth_ints]
theorem eqv_ints : ∀ a b : List Int, PyData.eqvAll (a.map PyData.int) (b.map PyData.int) = decide (a = b)
  | [], [] => by simp [PyData.eqvAll]
  | [], _ :: _ => by simp [PyData.eqvAll]
  | _ :: _, [] => by simp [PyData.eqvAll]
  | x :: a, y :: b => by
    simp only [List.map_cons, PyData.eqvAll, PyData.eqv, eqv_ints a b]
    rw [Bool.eq_iff_iff]
    simp
/-- a tuple's items that are all ints -/
theorem ints_of_D {p c : Addr} {H : Hp} {lo hi : Int} : ∀ {vs : List V} {ds : List PyData}, DgA p c H vs ds → ds.all (wholeB lo hi) = true → vs = (ds.map asInt).map V.int
  | [], [], _, _ => rfl
  | v :: vs, d :: ds, .cons h t, e => by
    rw [List.all_cons, Bool.and_eq_true] at e
    rw [List.map_cons, List.map_cons, ← ints_of_D t e.2]
    cases h with
    | int i => rfl
    | _ => exact absurd e.1 (by simp [wholeB])
section
variable {P : Program} {w : World} {K : PySem.W.Frag} {mg : Str → Option Value} {base : Heap} {tn tw tb : Tok}
def spInteger : Sp := fun vs H Q _ => ∃ p c v d, vs = [v] ∧ Dg p c H v d ∧ Q (.bl (isIntB d)) H
theorem ok_is_integer {f : Addr} {fd : FuncData} (F : Fn K mg "is_integer" s_is_integer ["thing"] f fd) (B : Con mg tn tw tb) : FnOk P w K mg base CX0 1 f fd ["thing"] spInteger := by
  refine F.F.ok sc_is_integer (fun vs H Q E h => ?_) (fun cdv A outer s H vs Q E hr h => ?_)
  · obtain ⟨p, c, x, d, rfl, _⟩ := h
    rfl
  · obtain ⟨p, c, x, d, rfl, hd, q⟩ := h
    refine ⟨_, (pss_one (ps_ret (pe_and (pe_callB call_isi (by rfl) B.n_isinstance (by decide +kernel) (pa_cons (pv 0) (pa_cons (pe_bltn (v := .ty "int") (by rfl) B.n_int (by decide +kernel) rfl) pa_nil))) (pe_one (pe_not (pe_callB call_isi (by rfl) B.n_isinstance (by decide +kernel) (pa_cons (pv 0) (pa_cons (pe_bltn (v := .ty "bool") (by rfl) B.n_bool (by decide +kernel) rfl) pa_nil)))))))), ?_⟩
    refine ⟨x, rfl, x, .ty "int", _, _, _, rfl, .ty "int", hd.tyx, isi_I d, _, rfl, ite2 (fun h => ?_) (fun h => ?_)⟩
    · refine ⟨_, rfl, x, .ty "bool", _, _, _, rfl, .ty "bool", hd.tyx, isi_B d, _, rfl, ?_⟩
      cases d <;> first | exact q | exact absurd h (by simp [isI])
    · cases d <;> first | exact q | exact absurd rfl h
def spBetween : Sp := fun vs H Q _ => ∃ p c v d, ∃ (lo hi : Int), vs = [v, .int lo, .int hi] ∧ Dg p c H v d ∧ Q (.bl (wholeB lo hi d)) H
theorem ok_is_between {f f1 : Addr} {fd fd1 : FuncData} (F : Fn K mg "is_between" s_is_between ["thing", "least", "most"] f fd) (B : Con mg tn tw tb) (F_is_integer : Fn K mg "is_integer" s_is_integer ["thing"] f1 fd1) : FnOk P w K mg base CX0 2 f fd ["thing", "least", "most"] spBetween := by
  have G_is_integer : FnOk P w K mg base CX0 1 f1 fd1 ["thing"] spInteger := ok_is_integer F_is_integer B
  refine F.F.ok sc_is_between (fun vs H Q E h => ?_) (fun cdv A outer s H vs Q E hr h => ?_)
  · obtain ⟨p, c, x, d, lo, hi, rfl, _⟩ := h
    rfl
  · obtain ⟨p, c, x, d, lo, hi, rfl, hd, q⟩ := h
    refine ⟨_, (pss_one (ps_ret (pe_and (pe_call G_is_integer (hr.mono (by decide)) (by rfl) F_is_integer.g F_is_integer.F.kp F_is_integer.b .nil pass0 (pa_cons (pv 0) pa_nil)) (pe_one (pe_chain op_le op_le (pv 1) (pv 0) (pv 2)))))), ?_⟩
    refine ⟨_, rfl, p, c, x, d, rfl, hd, _, rfl, ite2 (fun h => ?_) (fun h => ?_)⟩
    · cases hd with
      | int i =>
        refine ⟨_, rfl, _, rfl, _, _, rfl, rfl, _, rfl, ?_⟩
        simp only [wholeB] at q
        refine ite2 (fun h1 => ?_) (fun h1 => ?_)
        · rw [h1, Bool.true_and] at q
          exact ⟨_, rfl, _, _, rfl, rfl, q⟩
        · rw [Bool.eq_false_iff.mpr h1, Bool.false_and] at q
          exact q
      | _ => exact absurd h (by simp [isIntB])
    · cases d <;> first | exact q | exact absurd rfl h
def spNumber : Sp := fun vs H Q _ => ∃ p c v d, vs = [v] ∧ Dg p c H v d ∧ Q (.bl (wholeB 0 1000000000 d)) H
theorem ok_is_number {f f1 f2 : Addr} {fd fd1 fd2 : FuncData} (F : Fn K mg "is_number" s_is_number ["thing"] f fd) (B : Con mg tn tw tb) (F_is_integer : Fn K mg "is_integer" s_is_integer ["thing"] f1 fd1) (F_is_between : Fn K mg "is_between" s_is_between ["thing", "least", "most"] f2 fd2) : FnOk P w K mg base CX0 3 f fd ["thing"] spNumber := by
  have G_is_between : FnOk P w K mg base CX0 2 f2 fd2 ["thing", "least", "most"] spBetween := ok_is_between F_is_between B F_is_integer
  refine F.F.ok sc_is_number (fun vs H Q E h => ?_) (fun cdv A outer s H vs Q E hr h => ?_)
  · obtain ⟨p, c, x, d, rfl, _⟩ := h
    rfl
  · obtain ⟨p, c, x, d, rfl, hd, q⟩ := h
    refine ⟨_, (pss_one (ps_ret (pe_call G_is_between (hr.mono (by decide)) (by rfl) F_is_between.g F_is_between.F.kp F_is_between.b .nil pass0 (pa_cons (pv 0) (pa_cons pe_int (pa_cons (pe_glob (v := .int 1000000000) rfl B.g_NUMBER_MOST ⟨_, rfl⟩) pa_nil)))))), ?_⟩
    exact ⟨_, rfl, p, c, x, d, 0, 1000000000, rfl, hd, q⟩
def spWord : Sp := fun vs H Q _ => ∃ p c v d q n b, vs = [v] ∧ Dg p c H v d ∧ Gd q d n b ∧ Q (.bl (wordB d)) H
theorem ok_is_word {f : Addr} {fd : FuncData} (F : Fn K mg "is_word" s_is_word ["thing"] f fd) (B : Con mg tn tw tb) : FnOk P w K mg base CX0 1 f fd ["thing"] spWord := by
  refine F.F.ok sc_is_word (fun vs H Q E h => ?_) (fun cdv A outer s H vs Q E hr h => ?_)
  · obtain ⟨p, c, x, d, _, _, _, rfl, _⟩ := h
    rfl
  · obtain ⟨p, c, x, d, qq, n, b, rfl, hd, hg, q⟩ := h
    refine ⟨_, (pss_cons (ps_if (PW.pt (pw_or (pt_not (pt_val (pe_callB call_isi (by rfl) B.n_isinstance (by decide +kernel) (pa_cons (pv 0) (pa_cons (pe_bltn (v := .ty "str") (by rfl) B.n_str (by decide +kernel) rfl) pa_nil))))) (pw_or1 (pt_not (pt_chain op_le op_le pe_int (pe_callB call_len_str (by rfl) B.n_len PySem.boot_len (pa_cons (pv 0) pa_nil)) (pe_glob (v := .int 10) rfl B.g_WORD_MOST ⟨_, rfl⟩))))))
      (pss_one (ps_ret pe_bl))
      pss_nil)
      (pss_one (ps_ret (pe_and (pe_m0 PySem.F.slot_str_isascii PySem.F.type_str_isascii mt_isascii (pv 0)) (pe_and (pe_m0 PySem.F.slot_str_isalpha PySem.F.type_str_isalpha mt_isalpha (pv 0)) (pe_one (pe_m0 PySem.F.slot_str_islower PySem.F.type_str_islower mt_islower (pv 0)))))))), ?_⟩
    refine ⟨_, rfl, x, .ty "str", _, _, _, rfl, .ty "str", hd.tyx, isi_S d, _, rfl, ?_⟩
    cases hd with
    | str x =>
      obtain ⟨h1, h2⟩ := hg.strlen
      have hx : x = S x.cps.toList := rfl
      generalize x.cps.toList = l at h1 h2 hx q
      subst hx
      refine iteF ?_
      refine ⟨.str (S l), rfl, S l, rfl, sz (by rw [S_len]; omega), _, _, rfl, rfl, _, rfl, ?_⟩
      rw [S_len]
      have q : Q (.bl (wordL l)) H := q
      unfold wordL at q
      have e1 : decide ((1 : Int) ≤ (l.length : Int)) = decide (1 ≤ l.length) := by
        rw [Bool.eq_iff_iff, decide_eq_true_eq, decide_eq_true_eq]
        omega
      have e2 : decide ((l.length : Int) ≤ 10) = decide (l.length ≤ 10) := by
        rw [Bool.eq_iff_iff, decide_eq_true_eq, decide_eq_true_eq]
        omega
      rw [e1]
      cases h3 : decide (1 ≤ l.length) with
      | false =>
        rw [h3, Bool.false_and, Bool.false_and] at q
        exact iteF ⟨_, rfl, iteT q⟩
      | true =>
        rw [h3, Bool.true_and] at q
        refine iteT ?_
        refine ⟨_, _, rfl, rfl, _, rfl, ?_⟩
        rw [e2]
        cases h4 : decide (l.length ≤ 10) with
        | false =>
          rw [h4, Bool.false_and] at q
          exact iteT q
        | true =>
          rw [h4, Bool.true_and] at q
          refine iteF ?_
          have hne : l ≠ [] := by
            rintro rfl
            exact absurd h3 (by decide)
          rw [← word_of h1 hne] at q
          refine ⟨.str (S l), rfl, ⟨_, rfl⟩, S l, rfl, rfl, trivial, _, rfl, ?_⟩
          rw [ascii_S, h1]
          refine iteT ?_
          refine ⟨.str (S l), rfl, ⟨_, rfl⟩, S l, rfl, rfl, trivial, _, rfl, ?_⟩
          refine ite2 (fun h5 => ?_) (fun h5 => ?_)
          · rw [h5, Bool.true_and] at q
            exact ⟨.str (S l), rfl, ⟨_, rfl⟩, S l, rfl, rfl, trivial, q⟩
          · rw [Bool.eq_false_iff.mpr h5, Bool.false_and] at q
            exact q
    | _ => exact iteT (iteT q)
end
end Ag

end
/-! ## Kit4 -/
section
set_option linter.all false
set_option maxRecDepth 100000
namespace Ag
open PySem PySem.Spec PyProof.Rows L2
/-- a comprehension with a pure test and a pure value at each place, under which things may be made -/
theorem lc_sel {J : It} {n : Nat} {G : Hp → Prop} {Y : Nat → Hp → V → Hp → Prop} (w : Walk J n G Y) {g : TG} {tt : TT} {te : TE} {vs : List Nat} {σ : L2.St} {H1 : Hp} {D : Addr} {Qd : Hp → Prop}
    (t : Nat → Bool) (e : Nat → V) (hn : n ≤ 16000000) (hD : H1 D = none) (hG : ∀ H, Same H1 H → G H)
    (hs : ∀ i x H H' (k : VK) (k0 : Hp → Prop), i < n → Same H1 H → Y i H x H' → (t i = true → ∀ H4, Same H H4 → k (e i) H4) → (t i = false → ∀ H4, Same H H4 → k0 H4) →
      g x (wipe σ vs) H' fun σ2 H2 => wipe σ2 vs = wipe σ vs ∧ tt σ2 H2 fun b H3 => if b = true then te σ2 H3 k else k0 H3)
    (hd : ∀ H, Same H1 H → H D = some (.lst (((List.range n).filter t).map e)) → Qd H) :
    ∃ W : Nat → Nat → Hp → Prop, (∃ m, W 0 m (upd H1 D (.lst []))) ∧ ∀ i m H, W i m H →
      (J.stop i H ∧ Qd H) ∨ (J.go i H ∧ ∃ Nx : Hp → Prop, (∀ H', Nx H' → ∃ m', m' < m ∧ W (i + 1) m' H') ∧ ∀ x H', J.yld i H x H' → g x (wipe σ vs) H' fun σ2 H2 => wipe σ2 vs = wipe σ vs ∧ tt σ2 H2 fun b H3 =>
        if b = true then te σ2 H3 fun y H4 => ∃ acc, H4 D = some (.lst acc) ∧ acc.length < sizeLine ∧ Nx (upd H4 D (.lst (acc ++ [y]))) else Nx H3) := by
  have put : ∀ (H : Hp) (o : HO), Same H1 H → Same H1 (upd H D o) := fun H o s b u eb => by
    rw [upd_ne (ne_of_none eb hD)]
    exact s b u eb
  have step : ∀ i, (List.range (i + 1)).filter t = (List.range i).filter t ++ (if t i = true then [i] else []) := fun i => by
    rw [List.range_succ, List.filter_append]
    cases h : t i <;> simp [h]
  refine lc_it (g := g) (tt := tt) (te := te) (vs := vs) (σ := σ) w (fun i H => Same H1 H ∧ H D = some (.lst (((List.range i).filter t).map e))) ⟨put _ _ (Same.refl _), by simpa using upd_same⟩ (fun i H _ h => hG H h.1) (fun i x H H' hi h hy => ?_) (fun H h => hd H h.1 h.2)
  obtain ⟨s1, h1⟩ := h
  have hl : (((List.range i).filter t).map e).length ≤ i := by
    rw [List.length_map]
    exact Nat.le_trans (List.length_filter_le _ _) (by rw [List.length_range]; exact Nat.le_refl _)
  refine hs i x H H' _ _ hi s1 hy (fun ht H4 s4 => ?_) (fun ht H4 s4 => ?_)
  · refine ⟨_, s4 _ _ h1, by rw [sizeLine_eq]; omega, put _ _ (s1.trans s4), ?_⟩
    rw [upd_same, step, if_pos ht, List.map_append]
    rfl
  · refine ⟨s1.trans s4, ?_⟩
    rw [step, if_neg (by rw [ht]; decide), List.append_nil]
    exact s4 _ _ h1
/-- len of a list or a tuple, where a comprehension's block runs -/
def rLenK (K : PySem.W.Frag) : List V → Hp → VK → Prop := fun xs H Q => ∃ p ys, xs = [.ref p] ∧ (SqL K H p ys ∨ SqT K H p ys) ∧ Q (.int ys.length) H
theorem call_lenK {X : Cx} (K : PySem.W.Frag) (hK : X.K = K) : CallR X (.builtin "len") (rLenK K) := by
  subst hK
  exact call_len_seq
theorem filt_all {n : Nat} (e : Nat → V) : ((List.range n).filter fun _ => true).map e = (List.range n).map e := by rw [List.filter_eq_self.mpr fun _ _ => rfl]
/-- bools by place -/
theorem bls_map {n : Nat} (b : Nat → Bool) : (List.range n).map (fun i => V.bl (b i)) = ((List.range n).map b).map V.bl := by rw [List.map_map]; rfl
theorem all_at {α : Type} (l : List α) (t : α → Bool) (d : α) : ((List.range l.length).map fun i => t (l.getD i d)).all id = l.all t := by
  induction l with
  | nil => rfl
  | cons a l ih =>
    rw [List.length_cons, List.range_succ_eq_map, List.map_cons, List.all_cons, List.map_map, List.all_cons, ← ih]
    rfl
theorem none_at {α : Type} (l : List α) (t : α → Bool) (d : α) : decide (((List.range l.length).filter fun i => !t (l.getD i d)) = []) = l.all t := by
  rw [Bool.eq_iff_iff, decide_eq_true_eq, List.filter_eq_nil_iff, List.all_eq_true]
  constructor
  · intro h a ha
    obtain ⟨i, hi, rfl⟩ := List.mem_iff_getElem.mp ha
    have := h i (List.mem_range.mpr hi)
    rw [List.getD_eq_getElem?_getD, List.getElem?_eq_getElem hi] at this
    simpa using this
  · intro h i hi
    have hi := List.mem_range.mp hi
    rw [List.getD_eq_getElem?_getD, List.getElem?_eq_getElem hi]
    simpa using h _ (List.getElem_mem hi)
theorem eqv_map_nil {α : Type} (l : List α) (e : α → PyData) : PyData.eqv (.list (l.map e)) (.list []) = decide (l = []) := by
  cases l <;> simp [PyData.eqv, PyData.eqvAll]
theorem dp_const {K : PySem.W.Frag} {H : Hp} {α : Type} : ∀ l : List α, DpAll K H (l.map fun _ => V.int 1) (l.map fun _ => PyData.int 1)
  | [] => .nil
  | _ :: l => .cons (.int 1) (dp_const l)
theorem shaped_const {α : Type} (l : List α) : SeqAt.shaped (.list (l.map fun _ => PyData.int 1)) = true := by
  have : (l.map fun _ => PyData.int 1) = (l.map fun _ => (1 : Int)).map PyData.int := by rw [List.map_map]; rfl
  rw [this]
  exact shaped_ints _
end Ag

end
/-! ## V2 -/
section
set_option linter.all false
set_option maxRecDepth 100000
namespace Ag
open PySem PySem.Spec PyProof.Rows L2
open SX (S S_len S_cat S_inj)
section
variable {P : Program} {w : World} {K : PySem.W.Frag} {mg : Str → Option Value} {base : Heap} {tn tw tb : Tok}
def spBody : Sp := fun vs H Q _ => ∃ p c v d q n b, vs = [v] ∧ Dg p c H v d ∧ Gd q d n b ∧ Q (.bl (bodyB d)) H
theorem ok_is_body {f f1 : Addr} {fd fd1 : FuncData} (F : Fn K mg "is_body" s_is_body ["thing"] f fd) (B : Con mg tn tw tb) (F_is_plain : Fn K mg "is_plain" s_is_plain ["string"] f1 fd1) : FnOk P w K mg base CX0 2 f fd ["thing"] spBody := by
  have G_is_plain : FnOk P w K mg base CX0 1 f1 fd1 ["string"] spPlain := ok_is_plain F_is_plain
  refine F.F.ok sc_is_body (fun vs H Q E h => ?_) (fun cdv A outer s H vs Q E hr h => ?_)
  · obtain ⟨p, c, x, d, _, _, _, rfl, _⟩ := h
    rfl
  · obtain ⟨p, c, x, d, qq, n, b, rfl, hd, hg, q⟩ := h
    refine ⟨_, (pss_one (ps_ret (pe_and (pe_callB call_isi (by rfl) B.n_isinstance (by decide +kernel) (pa_cons (pv 0) (pa_cons (pe_bltn (v := .ty "str") (by rfl) B.n_str (by decide +kernel) rfl) pa_nil))) (pe_and (pe_cmpR op_le (pe_callB call_len_str (by rfl) B.n_len PySem.boot_len (pa_cons (pv 0) pa_nil)) (pe_glob (v := .int 150) rfl B.g_BODY_MOST ⟨_, rfl⟩) (nomark _)) (pe_one (pe_call G_is_plain (hr.mono (by decide)) (by rfl) F_is_plain.g F_is_plain.F.kp F_is_plain.b .nil pass0 (pa_cons (pv 0) pa_nil))))))), ?_⟩
    refine ⟨x, rfl, x, .ty "str", _, _, _, rfl, .ty "str", hd.tyx, isi_S d, _, rfl, ?_⟩
    cases hd with
    | str x =>
      obtain ⟨h1, h2⟩ := hg.strlen
      have hx : x = S x.cps.toList := rfl
      generalize x.cps.toList = l at h1 h2 hx q
      subst hx
      have q : Q (.bl (decide (l.length ≤ 150) && plainL l)) H := q
      refine iteT ?_
      refine ⟨.str (S l), rfl, S l, rfl, sz (by rw [S_len]; omega), _, _, rfl, rfl, _, rfl, ?_⟩
      rw [S_len]
      have e : decide ((l.length : Int) ≤ 150) = decide (l.length ≤ 150) := by
        rw [Bool.eq_iff_iff, decide_eq_true_eq, decide_eq_true_eq]
        omega
      rw [e]
      refine ite2 (fun h1 => ?_) (fun h1 => ?_)
      · rw [h1, Bool.true_and] at q
        exact ⟨_, rfl, l, rfl, q⟩
      · rw [Bool.eq_false_iff.mpr h1, Bool.false_and] at q
        exact q
    | _ => exact q
def spCounted : Sp := fun vs H Q _ => ∃ p c v d q n b m, vs = [v, .int m] ∧ Dg p c H v d ∧ Gd q d n b ∧ ∀ H', Same H H' → Q (.bl (cntB m d)) H'
theorem ok_are_counted {f f1 : Addr} {fd fd1 : FuncData} (F : Fn K mg "are_counted" s_are_counted ["thing", "most"] f fd) (B : Con mg tn tw tb) (F_is_between : Fn K mg "is_between" s_is_between ["thing", "least", "most"] f1 fd1) (G_is_between : FnOk P w K mg base CX0 2 f1 fd1 ["thing", "least", "most"] spBetween) : FnOk P w K mg base CX0 3 f fd ["thing", "most"] spCounted := by
  refine F.F.ok sc_are_counted (fun vs H Q E h => ?_) (fun cdv A outer s H vs Q E hr h => ?_)
  · obtain ⟨p, c, x, d, _, _, _, m, rfl, _⟩ := h
    rfl
  · obtain ⟨p, c, x, d, qq, n, b, m, rfl, hd, hg, q⟩ := h
    refine ⟨_, (pss_cons (ps_if (PW.pt (pw_or (pt_not (pt_val (pe_callB call_isi (by rfl) B.n_isinstance (by decide +kernel) (pa_cons (pv 0) (pa_cons (pe_bltn (v := .ty "tuple") (by rfl) B.n_tuple (by decide +kernel) rfl) pa_nil))))) (pw_or1 (pt_not (pt_val (pe_callB (cr_all rfl) (by rfl) B.n_all (by decide +kernel) (pa_cons (pe_lc (own := [("number", 2)]) rfl sc_are_counted.nd (pi_tup (pv 0)) (blkOk_by (N := N_are_counted) (sc := defScope s_are_counted) (by decide +kernel)) (fun _ _ _ _ _ => (pg_name (i := 2) sc_are_counted.nd rfl (Or.inl rfl))) (fun _ _ _ _ _ => pts_nil) (fun _ _ _ _ _ => (pe_call G_is_between (hr.mono (by decide)) (by rfl) F_is_between.g F_is_between.F.kp F_is_between.b .nil pass0 (pa_cons (pv 2) (pa_cons pe_int (pa_cons (pv 1) pa_nil)))))) pa_nil)))))))
      (pss_one (ps_ret pe_bl))
      pss_nil)
      (pss_one (ps_ret (pe_cmpR (op_eqD hr.units) (pe_callTy call_list_of (by rfl) B.n_list (by decide +kernel) (pa_cons (pv 0) pa_nil)) (pe_callB (cr_sortedSet rfl) (by rfl) B.n_sorted (by decide +kernel) (pa_cons (pe_callTy (cr_setI rfl) (by rfl) B.n_set (by decide +kernel) (pa_cons (pv 0) pa_nil)) pa_nil)) (nomark _))))), ?_⟩
    refine ⟨_, rfl, x, .ty "tuple", _, _, _, rfl, .ty "tuple", hd.tyx, isi_T d, _, rfl, ?_⟩
    cases hd with
    | tup ha hA =>
      rename_i a xs ds
      obtain ⟨hgA, hl⟩ := hg.untup
      have hxl : xs.length ≤ 60 := by rw [hA.len]; exact hl
      refine iteF ?_
      refine ⟨_, rfl, a, rfl, ⟨_, SqT.of ha.2.2⟩, fun D hD => ?_⟩
      refine lc_sel (walk_tup (K := K) (a := a) (xs := xs)) (fun _ => true) (fun i => .bl (wholeB 1 m (ds.getD i .none))) (by omega) hD (fun H' s => SqT.of (s _ _ ha.2.2)) ?_ ?_
      · rintro i y H1 H2 k k0 hi s1 ⟨rfl, hy⟩ hk _
        obtain ⟨d, hdi, hdg⟩ := hA.at_ hy
        have hk := hk rfl H2 (Same.refl _)
        rw [List.getD_eq_getElem?_getD, hdi] at hk
        have hk : k (.bl (wholeB 1 m d)) H2 := hk
        have hdg := hdg.to (.same s1)
        exact ⟨rfl, _, rfl, _, rfl, p, c, y, d, 1, m, rfl, hdg, hk⟩
      · intro H1 s1 h1
        rw [filt_all, bls_map] at h1
        refine ⟨D, _, rfl, SqL.of h1, _, rfl, ?_⟩
        have e : ((List.range xs.length).map fun i => wholeB 1 m (ds.getD i .none)).all id = ds.all (wholeB 1 m) := by
          rw [hA.len]
          exact all_at ds (wholeB 1 m) .none
        rw [e]
        have q : ∀ H', Same H H' → Q (.bl (ds.all (wholeB 1 m) && ascI (ds.map asInt))) H' := q
        cases hall : ds.all (wholeB 1 m) with
        | false =>
          rw [hall, Bool.false_and] at q
          exact iteT (q _ s1)
        | true =>
          rw [hall, Bool.true_and] at q
          refine iteF ?_
          have hxs := ints_of_D hA hall
          generalize ds.map asInt = ns at hxs q
          subst hxs
          rw [List.length_map] at hxl
          refine ⟨_, rfl, a, _, rfl, .inr (SqT.of (s1 _ _ ha.2.2)), fun l hl => ?_⟩
          have s2 := s1.trans (same_new (o := .lst (ns.map V.int)) hl)
          refine ⟨_, rfl, a, ns, rfl, .inr (SqT.of (s2 _ _ ha.2.2)), by omega, fun st L hst nd hm hll => ?_⟩
          have nls : l ≠ st := ne_of_none (H := upd H1 l (.lst (ns.map V.int))) upd_same hst
          refine ⟨st, _, _, rfl, upd_same, by omega, fun ns' r hpw hmem hlen hr => ?_⟩
          have nsr : st ≠ r := ne_of_none upd_same hr
          have nlr : l ≠ r := ne_of_none (by rw [upd_ne nls]; exact upd_same) hr
          refine ⟨.list (ns.map .int), .list (ns'.map .int), .lst (SqL.of (by rw [upd_ne nlr, upd_ne nls, upd_same])) (dpIntsG _), .lst (SqL.of upd_same) (dpIntsG _), shaped_ints _, shaped_ints _, ?_⟩
          have e2 : PyData.eqv (.list (ns.map .int)) (.list (ns'.map .int)) = ascI ns := by
            rw [PyData.eqv, eqv_ints, Bool.eq_iff_iff, decide_eq_true_eq, ascI_iff]
            constructor
            · rintro rfl
              exact hpw
            · intro h
              exact asc_uniq h hpw fun k => by rw [hmem k, decide_eq_true_eq]
          rw [e2]
          exact q _ ((s2.trans (same_new hst)).trans (same_new hr))
    | _ => exact iteT (iteT (q _ (Same.refl _)))
end
end Ag

end
/-! ## V3 -/
section
set_option linter.all false
set_option maxRecDepth 100000
set_option maxHeartbeats 4000000
namespace Ag
open PySem PySem.Spec PyProof.Rows L2
open SX (S S_len S_cat S_inj)
/-! ### views -/
def isN : PyData → Bool
  | .none => true
  | _ => false
def lenT : PyData → Nat
  | .tuple xs => xs.length
  | _ => 0
def bodiesB : PyData → Bool
  | .tuple xs => xs.all bodyB
  | _ => false
def stB (d : PyData) : Bool := is2 (Str.ofString "open") (Str.ofString "broken") d
def endsL (a u : PyData) : List PyData := (if isN a = true then [] else [a]) ++ (if isN u = true then [] else [u])
def evsL (a u : V) : List V := (if decide (a = .non) = true then [] else [a]) ++ (if decide (u = .non) = true then [] else [u])
def oneB : List Int → Bool
  | [x, y] => decide (x = y)
  | _ => true
def minE (m : Int) : List Int → Int
  | [] => m
  | x :: l => min x (minE m l)
def maxE (m : Int) : List Int → Int
  | [] => m
  | x :: l => max x (maxE m l)
theorem minE_spec (m : Int) : ∀ l : List Int, minE m l ∈ m :: l ∧ ∀ y ∈ m :: l, minE m l ≤ y
  | [] => by simp [minE]
  | x :: l => by
    obtain ⟨h1, h2⟩ := minE_spec m l
    simp only [minE]
    refine ⟨?_, fun y hy => ?_⟩
    · by_cases h : x ≤ minE m l
      · rw [Int.min_eq_left h]
        simp
      · rw [Int.min_eq_right (by omega)]
        rcases List.mem_cons.mp h1 with e | e
        · rw [e]; simp
        · exact List.mem_cons_of_mem _ (List.mem_cons_of_mem _ e)
    · rcases List.mem_cons.mp hy with rfl | hy
      · have := h2 y List.mem_cons_self
        omega
      · rcases List.mem_cons.mp hy with rfl | hy
        · omega
        · have := h2 y (List.mem_cons_of_mem _ hy)
          omega
theorem maxE_spec (m : Int) : ∀ l : List Int, maxE m l ∈ m :: l ∧ ∀ y ∈ m :: l, y ≤ maxE m l
  | [] => by simp [maxE]
  | x :: l => by
    obtain ⟨h1, h2⟩ := maxE_spec m l
    simp only [maxE]
    refine ⟨?_, fun y hy => ?_⟩
    · by_cases h : maxE m l ≤ x
      · rw [Int.max_eq_left h]
        simp
      · rw [Int.max_eq_right (by omega)]
        rcases List.mem_cons.mp h1 with e | e
        · rw [e]; simp
        · exact List.mem_cons_of_mem _ (List.mem_cons_of_mem _ e)
    · rcases List.mem_cons.mp hy with rfl | hy
      · have := h2 y List.mem_cons_self
        omega
      · rcases List.mem_cons.mp hy with rfl | hy
        · omega
        · have := h2 y (List.mem_cons_of_mem _ hy)
          omega
theorem min_uniq {m k : Int} {l : List Int} (h1 : k ∈ m :: l) (h2 : ∀ y ∈ m :: l, k ≤ y) : k = minE m l := by
  obtain ⟨a, b⟩ := minE_spec m l
  have := h2 _ a
  have := b _ h1
  omega
theorem max_uniq {m k : Int} {l : List Int} (h1 : k ∈ m :: l) (h2 : ∀ y ∈ m :: l, y ≤ k) : k = maxE m l := by
  obtain ⟨a, b⟩ := maxE_spec m l
  have := h2 _ a
  have := b _ h1
  omega
def numE (many : Nat) (d : PyData) : Bool := wholeB 0 1000000000 d && decide (asInt d ≤ (many : Int))
def seenB (many : Nat) (bt an aw up : PyData) : Bool :=
  if isN bt = true then isT0 an && (isN aw && isN up)
  else wholeB 0 1000000000 bt && ((endsL aw up).all (numE many) && (oneB ((endsL aw up).map asInt) && cntB (minE many ((endsL aw up).map asInt)) an))
def viewB : PyData → Bool
  | .tuple [h, b, bs, an, aw, up, st] => (wordB h && stB st) && (bodiesB bs && seenB (lenT bs) b an aw up)
  | _ => false
theorem len7 {α : Type} : ∀ {l : List α}, l.length = 7 → ∃ a b c d e f g, l = [a, b, c, d, e, f, g]
  | [a, b, c, d, e, f, g], _ => ⟨a, b, c, d, e, f, g, rfl⟩
theorem view7 {ds : List PyData} (h : ds.length ≠ 7) : viewB (.tuple ds) = false := by
  match ds, h with
  | [], _ => rfl
  | [_], _ => rfl
  | [_, _], _ => rfl
  | [_, _, _], _ => rfl
  | [_, _, _, _], _ => rfl
  | [_, _, _, _, _], _ => rfl
  | [_, _, _, _, _, _], _ => rfl
  | [_, _, _, _, _, _, _], h => exact absurd rfl h
  | _ :: _ :: _ :: _ :: _ :: _ :: _ :: _ :: _, _ => rfl
theorem Dg.isN {p c : Addr} {H : Hp} {v : V} {d : PyData} (h : Dg p c H v d) : decide (v = .non) = isN d := by cases h <;> rfl
theorem sel_ends (a u : V) : (((List.range 2).filter fun i => !decide (([a, u] : List V).getD i .non = .non)).map fun i => ([a, u] : List V).getD i .non) = evsL a u := by
  have e : List.range 2 = [0, 1] := rfl
  rw [e]
  unfold evsL
  by_cases h1 : a = .non <;> by_cases h2 : u = .non <;> simp [h1, h2]
theorem dg_ends {p c : Addr} {H : Hp} {a u : V} {d e : PyData} (h1 : Dg p c H a d) (h2 : Dg p c H u e) : DgA p c H (evsL a u) (endsL d e) := by
  unfold evsL endsL
  rw [h1.isN, h2.isN]
  refine DgA.app ?_ ?_
  · split
    · exact .nil
    · exact .cons h1 .nil
  · split
    · exact .nil
    · exact .cons h2 .nil
theorem ends_le (a u : PyData) : (endsL a u).length ≤ 2 := by
  unfold endsL
  split <;> split <;> simp
theorem gd_ends {q : Bool} {n b : Nat} {a u : PyData} (h1 : Gd q a n b) (h2 : Gd q u n b) : ∀ d ∈ endsL a u, Gd q d n b := by
  intro d hd
  unfold endsL at hd
  rcases List.mem_append.mp hd with hd | hd
  · split at hd
    · cases hd
    · rw [List.mem_singleton.mp hd]; exact h1
  · split at hd
    · cases hd
    · rw [List.mem_singleton.mp hd]; exact h2
theorem num_all {many : Nat} {ds : List PyData} (h : ds.all (numE many) = true) : ds.all (wholeB 0 1000000000) = true := by
  rw [List.all_eq_true] at h ⊢
  intro d hd
  have := h d hd
  unfold numE at this
  rw [Bool.and_eq_true] at this
  exact this.1
theorem one_len {L E : List Int} (nd : L.Nodup) (hm : ∀ k, k ∈ L ↔ k ∈ E) (hE : E.length ≤ 2) : decide ((L.length : Int) ≤ 1) = oneB E := by
  match E, hE with
  | [], _ =>
    have : L = [] := List.eq_nil_iff_forall_not_mem.mpr fun k hk => by simpa using (hm k).mp hk
    subst this
    rfl
  | [x], _ =>
    match L, nd, hm with
    | [], _, _ => rfl
    | [_], _, _ => rfl
    | a :: b :: l, nd, hm =>
      have h1 : a = x := by simpa using (hm a).mp List.mem_cons_self
      have h2 : b = x := by simpa using (hm b).mp (by simp)
      subst h1 h2
      simp at nd
  | [x, y], _ =>
    simp only [oneB]
    by_cases hxy : x = y
    · subst hxy
      rw [decide_eq_true rfl, decide_eq_true_eq]
      match L, nd, hm with
      | [], _, _ => simp
      | [_], _, _ => simp
      | a :: b :: l, nd, hm =>
        have h1 : a = x := by simpa using (hm a).mp List.mem_cons_self
        have h2 : b = x := by simpa using (hm b).mp (by simp)
        subst h1 h2
        simp at nd
    · rw [decide_eq_false hxy, decide_eq_false_iff_not]
      match L, nd, hm with
      | [], _, hm => exact absurd ((hm x).mpr (by simp)) (by simp)
      | [a], _, hm =>
        have h1 : x = a := by simpa using (hm x).mpr (by simp)
        have h2 : y = a := by simpa using (hm y).mpr (by simp)
        exact absurd (h1.trans h2.symm) hxy
      | a :: b :: l, _, _ =>
        simp only [List.length_cons]
        omega
section
variable {P : Program} {w : World} {K : PySem.W.Frag} {mg : Str → Option Value} {base : Heap} {tn tw tb : Tok}
def spIsView : Sp := fun vs H Q _ => ∃ p c v d q n b, vs = [v] ∧ Dg p c H v d ∧ Gd q d n b ∧ ∀ H', Same H H' → Q (.bl (viewB d)) H'
theorem ok_is_view {f f1 f2 f3 f4 : Addr} {fd fd1 fd2 fd3 fd4 : FuncData} (F : Fn K mg "is_view" s_is_view ["thing"] f fd) (B : Con mg tn tw tb)
    (F_is_word : Fn K mg "is_word" s_is_word ["thing"] f1 fd1) (G_is_word : FnOk P w K mg base CX0 1 f1 fd1 ["thing"] spWord)
    (F_is_body : Fn K mg "is_body" s_is_body ["thing"] f2 fd2) (G_is_body : FnOk P w K mg base CX0 2 f2 fd2 ["thing"] spBody)
    (F_is_number : Fn K mg "is_number" s_is_number ["thing"] f3 fd3) (G_is_number : FnOk P w K mg base CX0 3 f3 fd3 ["thing"] spNumber)
    (F_are_counted : Fn K mg "are_counted" s_are_counted ["thing", "most"] f4 fd4) (G_are_counted : FnOk P w K mg base CX0 3 f4 fd4 ["thing", "most"] spCounted) :
    FnOk P w K mg base CX0 4 f fd ["thing"] spIsView := by
  refine F.F.ok sc_is_view (fun vs H Q E h => ?_) (fun cdv A outer s H vs Q E hr h => ?_)
  · obtain ⟨p, c, x, d, _, _, _, rfl, _⟩ := h
    rfl
  · obtain ⟨p, c, x, d, qq, n, b, rfl, hd, hg, q⟩ := h
    refine ⟨_, (pss_cons (ps_if (PW.pt (pw_or (pt_not (pt_val (pe_callB call_isi (by rfl) B.n_isinstance (by decide +kernel) (pa_cons (pv 0) (pa_cons (pe_bltn (v := .ty "tuple") (by rfl) B.n_tuple (by decide +kernel) rfl) pa_nil))))) (pw_or1 (pt_cmpR op_ne (pe_callB call_len_seq (by rfl) B.n_len PySem.boot_len (pa_cons (pv 0) pa_nil)) pe_int (nomark _)))))
      (pss_one (ps_ret pe_bl))
      pss_nil)
      (pss_cons (ps_asg (pv 0) (pg_tup rfl (pgs_cons (pg_name (i := 1) sc_is_view.nd rfl (Or.inl rfl)) (pgs_cons (pg_name (i := 2) sc_is_view.nd rfl (Or.inl rfl)) (pgs_cons (pg_name (i := 3) sc_is_view.nd rfl (Or.inr rfl)) (pgs_cons (pg_name (i := 4) sc_is_view.nd rfl (Or.inl rfl)) (pgs_cons (pg_name (i := 5) sc_is_view.nd rfl (Or.inl rfl)) (pgs_cons (pg_name (i := 6) sc_is_view.nd rfl (Or.inl rfl)) (pgs_cons (pg_name (i := 7) sc_is_view.nd rfl (Or.inl rfl)) pgs_nil)))))))))
      (pss_cons (ps_if (PW.pt (pw_or (pt_not (pt_val (pe_call G_is_word (hr.mono (by decide)) (by rfl) F_is_word.g F_is_word.F.kp F_is_word.b .nil pass0 (pa_cons (pv 1) pa_nil)))) (pw_or1 (pt_cmpR (op_notIn2 hr.units) (pv 7) (pe_tup (pa_cons pe_str (pa_cons pe_str pa_nil))) rfl))))
      (pss_one (ps_ret pe_bl))
      pss_nil)
      (pss_cons (ps_if (PW.pt (pw_or (pt_not (pt_val (pe_callB call_isi (by rfl) B.n_isinstance (by decide +kernel) (pa_cons (pv 3) (pa_cons (pe_bltn (v := .ty "tuple") (by rfl) B.n_tuple (by decide +kernel) rfl) pa_nil))))) (pw_or1 (pt_not (pt_val (pe_callB (cr_all rfl) (by rfl) B.n_all (by decide +kernel) (pa_cons (pe_lc (own := [("body", 10)]) rfl sc_is_view.nd (pi_tup (pv 3)) (blkOk_by (N := N_is_view) (sc := defScope s_is_view) (by decide +kernel)) (fun _ _ _ _ _ => (pg_name (i := 10) sc_is_view.nd rfl (Or.inl rfl))) (fun _ _ _ _ _ => pts_nil) (fun _ _ _ _ _ => (pe_call G_is_body (hr.mono (by decide)) (by rfl) F_is_body.g F_is_body.F.kp F_is_body.b .nil pass0 (pa_cons (pv 10) pa_nil)))) pa_nil)))))))
      (pss_one (ps_ret pe_bl))
      pss_nil)
      (pss_cons (ps_if (pt_cmpR op_isN (pv 2) pe_non (nomark _))
      (pss_one (ps_ret (pe_and (pe_cmpR (op_eqT0 hr.units) (pv 4) (pe_tup pa_nil) (nomark _)) (pe_and (pe_cmpR op_isN (pv 5) pe_non (nomark _)) (pe_one (pe_cmpR op_isN (pv 6) pe_non (nomark _)))))))
      pss_nil)
      (pss_cons (ps_setLc (i := 8) (own := [("end", 9)]) rfl sc_is_view.nd rfl rfl (sw_true rfl rfl rfl (by decide +kernel)) (pi_tup (pe_tup (pa_cons (pv 5) (pa_cons (pv 6) pa_nil)))) (blkOk_by (N := N_is_view) (sc := defScope s_is_view) (by decide +kernel)) (fun _ _ _ _ _ => (pg_name (i := 9) sc_is_view.nd rfl (Or.inl rfl))) (fun _ _ _ _ _ => (pts_one (pt_cmpR op_notN (pv 9) pe_non (nomark _)))) (fun _ _ _ _ _ => (pv 9)))
      (pss_cons (ps_if (PW.pt (pw_or (pt_not (pt_val (pe_call G_is_number (hr.mono (by decide)) (by rfl) F_is_number.g F_is_number.F.kp F_is_number.b .nil pass0 (pa_cons (pv 2) pa_nil)))) (pw_or1 (pt_not (pt_val (pe_callB (cr_all rfl) (by rfl) B.n_all (by decide +kernel) (pa_cons (pe_lc (own := [("end", 9)]) rfl sc_is_view.nd (pi_list (pv 8)) (blkOk_by (N := N_is_view) (sc := defScope s_is_view) (by decide +kernel)) (fun _ _ _ _ _ => (pg_name (i := 9) sc_is_view.nd rfl (Or.inl rfl))) (fun _ _ _ _ _ => pts_nil) (fun _ _ _ _ _ => (pe_and (pe_call G_is_number (hr.mono (by decide)) (by rfl) F_is_number.g F_is_number.F.kp F_is_number.b .nil pass0 (pa_cons (pv 9) pa_nil)) (pe_one (pe_cmpR op_le (pv 9) (pe_callB (call_lenK K rfl) (by rfl) B.n_len PySem.boot_len (pa_cons (pv 3) pa_nil)) (nomark _)))))) pa_nil)))))))
      (pss_one (ps_ret pe_bl))
      pss_nil)
      (pss_one (ps_ret (pe_and (pe_cmpR op_le (pe_callB cr_lenSet (by rfl) B.n_len PySem.boot_len (pa_cons (pe_callTy (cr_setI rfl) (by rfl) B.n_set (by decide +kernel) (pa_cons (pv 8) pa_nil)) pa_nil)) pe_int (nomark _)) (pe_one (pe_call G_are_counted (hr.mono (by decide)) (by rfl) F_are_counted.g F_are_counted.F.kp F_are_counted.b .nil pass0 (pa_cons (pv 4) (pa_cons (pe_callB (cr_min rfl) (by rfl) B.n_min (by decide +kernel) (pa_cons (pe_lst (pa_cons (pe_callB call_len_seq (by rfl) B.n_len PySem.boot_len (pa_cons (pv 3) pa_nil)) (StX.pa_star (pv 8) pa_nil))) pa_nil)) pa_nil)))))))))))))), ?_⟩
    refine ⟨_, rfl, x, .ty "tuple", _, _, _, rfl, .ty "tuple", hd.tyx, isi_T d, _, rfl, ?_⟩
    cases hd with
    | tup ha hA =>
      rename_i a xs ds
      obtain ⟨hgA, _⟩ := hg.untup
      refine iteF ?_
      refine ⟨_, rfl, a, xs, rfl, .inr (SqT.of ha.2.2), rfl, _, rfl, ?_⟩
      have hlen := hA.len
      by_cases h7 : ds.length = 7
      · have e7 : (!decide (V.int (xs.length : Nat) = V.int 7)) = false := by
          rw [hlen, h7]
          rfl
        rw [e7]
        refine iteF ?_
        obtain ⟨d0, d1, d2, d3, d4, d5, d6, rfl⟩ := len7 h7
        obtain ⟨x0, x1, x2, x3, x4, x5, x6, rfl⟩ := len7 (hlen.trans h7)
        match hA with
        | .cons g0 (.cons g1 (.cons g2 (.cons g3 (.cons g4 (.cons g5 (.cons g6 .nil)))))) =>
        obtain ⟨k0, hgA⟩ := hgA.hd
        obtain ⟨k1, hgA⟩ := hgA.hd
        obtain ⟨k2, hgA⟩ := hgA.hd
        obtain ⟨k3, hgA⟩ := hgA.hd
        obtain ⟨k4, hgA⟩ := hgA.hd
        obtain ⟨k5, hgA⟩ := hgA.hd
        obtain ⟨k6, _⟩ := hgA.hd
        have q : ∀ H', Same H H' → Q (.bl ((wordB d0 && stB d6) && (bodiesB d2 && seenB (lenT d2) d1 d3 d4 d5))) H' := q
        refine ⟨_, rfl, a, _, rfl, SqT.of ha.2.2, rfl, _, _, rfl, _, _, rfl, _, _, rfl, _, _, rfl, _, _, rfl, _, _, rfl, _, _, rfl, rfl, ?_⟩
        -- the name and the state
        refine ⟨_, rfl, p, c, x0, d0, qq, _, _, rfl, g0, k0, _, rfl, ?_⟩
        cases hw : wordB d0 with
        | false =>
          rw [hw, Bool.false_and, Bool.false_and] at q
          exact iteT (iteT (q _ (Same.refl _)))
        | true =>
        rw [hw, Bool.true_and] at q
        refine iteF ?_
        refine ⟨_, rfl, sz (by show 2 ≤ 16000000; decide), fun t ht => ?_⟩
        have s1 := same_new (o := .tup [V.str (Str.ofString "open"), V.str (Str.ofString "broken")]) ht
        refine ⟨p, c, d6, t, _, _, g6.to (.same s1), rfl, upd_same, _, rfl, ?_⟩
        refine show if (!stB d6) = true then _ else _ from ?_
        generalize upd H t (.tup [V.str (Str.ofString "open"), V.str (Str.ofString "broken")]) = H1 at s1 ⊢
        cases hst : stB d6 with
        | false =>
          rw [hst, Bool.false_and] at q
          exact iteT (q _ s1)
        | true =>
        rw [hst, Bool.true_and] at q
        refine iteF ?_
        -- the bodies
        have g2 := g2.to (.same s1)
        refine ⟨_, rfl, x2, .ty "tuple", _, _, _, rfl, .ty "tuple", g2.tyx, isi_T d2, _, rfl, ?_⟩
        cases g2 with
        | @tup a2 ys es hb hB =>
          obtain ⟨k2A, hel⟩ := k2.untup
          have hyl : ys.length ≤ 60 := by rw [hB.len]; exact hel
          refine iteF ?_
          refine ⟨_, rfl, a2, rfl, ⟨_, SqT.of hb.2.2⟩, fun D hD => ?_⟩
          refine lc_sel (walk_tup (K := K) (a := a2) (xs := ys)) (fun _ => true) (fun i => .bl (bodyB (es.getD i .none))) (by omega) hD (fun H' s => SqT.of (s _ _ hb.2.2)) ?_ ?_
          · rintro i y H2 H3 k kf hi s2 ⟨rfl, hy⟩ hk _
            obtain ⟨d, hdi, hdg⟩ := hB.at_ hy
            have hk := hk rfl H3 (Same.refl _)
            rw [List.getD_eq_getElem?_getD, hdi] at hk
            exact ⟨rfl, _, rfl, p, c, y, d, qq, _, _, rfl, hdg.to (.same s2), k2A.mem d (List.mem_of_getElem? hdi), hk⟩
          · intro H2 s12 h2
            have s2 := s1.trans s12
            rw [filt_all, bls_map, hB.len] at h2
            refine ⟨D, _, rfl, SqL.of h2, _, rfl, ?_⟩
            rw [all_at es bodyB .none]
            have q : ∀ H', Same H H' → Q (.bl (es.all bodyB && seenB es.length d1 d3 d4 d5)) H' := q
            cases hbs : es.all bodyB with
            | false =>
              rw [hbs, Bool.false_and] at q
              exact iteT (q _ s2)
            | true =>
            rw [hbs, Bool.true_and] at q
            refine iteF ?_
            have hb2 : At p c H2 a2 (.tup ys) := hb.kp (.same s12)
            -- no boot
            refine ⟨_, rfl, rfl, _, rfl, ?_⟩
            rw [g1.isN]
            unfold seenB at q
            cases hbt : isN d1 with
            | true =>
              rw [hbt, if_pos rfl] at q
              refine iteT ?_
              refine ⟨_, rfl, sz (Nat.zero_le _), fun t2 ht2 => ?_⟩
              have s3 := s2.trans (same_new (o := .tup []) ht2)
              refine ⟨p, c, d3, t2, g3.to (.same s3), k3.asc, rfl, upd_same, _, rfl, ?_⟩
              cases h3 : isT0 d3 with
              | false =>
                rw [h3, Bool.false_and] at q
                exact iteF (q _ s3)
              | true =>
                rw [h3, Bool.true_and] at q
                refine iteT ⟨_, rfl, rfl, _, rfl, ?_⟩
                rw [g4.isN]
                cases h4 : isN d4 with
                | false =>
                  rw [h4, Bool.false_and] at q
                  exact iteF (q _ s3)
                | true =>
                  rw [h4, Bool.true_and] at q
                  refine iteT ⟨_, rfl, rfl, ?_⟩
                  rw [g5.isN]
                  exact q _ s3
            | false =>
              rw [hbt, if_neg (by decide)] at q
              refine iteF ?_
              -- the ends
              refine ⟨_, rfl, _, rfl, sz (by show 2 ≤ 16000000; decide), fun T hT => ?_⟩
              have s3 := s2.trans (same_new (o := .tup [x4, x5]) hT)
              have hb3 := hb2.kp (.same (same_new (o := .tup [x4, x5]) hT))
              have hT3 : upd H2 T (.tup [x4, x5]) T = some (.tup [x4, x5]) := upd_same
              generalize upd H2 T (.tup [x4, x5]) = H3 at s3 hb3 hT3 ⊢
              refine ⟨T, rfl, ⟨_, SqT.of hT3⟩, fun D2 hD2 => ?_⟩
              refine lc_sel (walk_tup (K := K) (a := T) (xs := [x4, x5])) (fun i => !decide (([x4, x5] : List V).getD i .non = .non)) (fun i => ([x4, x5] : List V).getD i .non) (by show 2 ≤ _; decide) hD2 (fun H' s => SqT.of (s _ _ hT3)) ?_ ?_
              · rintro i y H4 H5 k kf hi s4 ⟨rfl, hy⟩ hk hk0
                have ey : ([x4, x5] : List V).getD i .non = y := by rw [List.getD_eq_getElem?_getD, hy]; rfl
                rw [ey] at hk hk0
                refine ⟨rfl, _, rfl, rfl, _, rfl, ?_⟩
                cases hn : decide (y = V.non) with
                | false => exact iteT ⟨_, rfl, hk (by rw [hn]; rfl) _ (Same.refl _)⟩
                | true => exact iteF (hk0 (by rw [hn]; rfl) _ (Same.refl _))
              · intro H4 s4 h4
                have hb4 := hb3.kp (.same s4)
                have s4 := s3.trans s4
                rw [show ([x4, x5] : List V).length = 2 from rfl, sel_ends] at h4
                have hE := dg_ends (g4.to (.same s4)) (g5.to (.same s4))
                have hEl := ends_le d4 d5
                generalize evsL x4 x5 = vs at h4 hE
                generalize endsL d4 d5 = es2 at hE hEl q
                -- is_number(boot)
                refine ⟨_, rfl, p, c, x1, d1, rfl, g1.to (.same s4), _, rfl, ?_⟩
                cases h1 : wholeB 0 1000000000 d1 with
                | false =>
                  rw [h1, Bool.false_and] at q
                  exact iteT (iteT (q _ s4))
                | true =>
                rw [h1, Bool.true_and] at q
                refine iteF ?_
                refine ⟨_, rfl, D2, rfl, ⟨_, SqL.of h4⟩, fun D3 hD3 => ?_⟩
                refine lc_sel (walk_list (K := K) (a := D2) (xs := vs)) (fun _ => true) (fun i => .bl (numE es.length (es2.getD i .none))) (by rw [hE.len]; omega) hD3 (fun H' s => SqL.of (s _ _ h4)) ?_ ?_
                · rintro i y H5 H6 k kf hi s5 ⟨rfl, hy⟩ hk _
                  obtain ⟨d, hdi, hdg⟩ := hE.at_ hy
                  have hk := hk rfl H6 (Same.refl _)
                  rw [List.getD_eq_getElem?_getD, hdi] at hk
                  have hk : k (.bl (wholeB 0 1000000000 d && decide (asInt d ≤ (es.length : Int)))) H6 := hk
                  have hdg := hdg.to (.same s5)
                  refine ⟨rfl, _, rfl, p, c, y, d, rfl, hdg, _, rfl, ite2 (fun h => ?_) (fun h => ?_)⟩
                  · rw [h, Bool.true_and] at hk
                    cases hdg with
                    | int j =>
                      refine ⟨_, rfl, _, rfl, a2, ys, rfl, .inr (SqT.of (s5 _ _ hb4.2.2)), _, _, rfl, rfl, ?_⟩
                      rw [hB.len]
                      exact hk
                    | _ => exact absurd h (by simp [wholeB])
                  · rw [Bool.eq_false_iff.mpr h, Bool.false_and] at hk
                    exact hk
                · intro H5 s5 h5
                  rw [filt_all, bls_map, hE.len] at h5
                  refine ⟨D3, _, rfl, SqL.of h5, _, rfl, ?_⟩
                  rw [all_at es2 (numE es.length) .none]
                  have h45 := s5 _ _ h4
                  have hb5 := hb4.kp (.same s5)
                  have s5 := s4.trans s5
                  cases he : es2.all (numE es.length) with
                  | false =>
                    rw [he, Bool.false_and] at q
                    exact iteT (q _ s5)
                  | true =>
                  rw [he, Bool.true_and] at q
                  refine iteF ?_
                  have hvs := ints_of_D hE (num_all he)
                  have hIl : (es2.map asInt).length ≤ 2 := by rw [List.length_map]; exact hEl
                  generalize es2.map asInt = ns at hvs hIl q
                  subst hvs
                  refine ⟨_, rfl, D2, ns, rfl, .inl (SqL.of h45), by omega, fun st L hst nd hm hll => ?_⟩
                  have nDs : D2 ≠ st := ne_of_none h45 hst
                  have h46 : upd H5 st (SetO w st (fun j => decide (j ∈ ns)) L.length) D2 = some (.lst (ns.map V.int)) := by rw [upd_ne nDs]; exact h45
                  have hb6 := hb5.kp (.same (same_new (o := SetO w st (fun j => decide (j ∈ ns)) L.length) hst))
                  have s6 := s5.trans (same_new (o := SetO w st (fun j => decide (j ∈ ns)) L.length) hst)
                  refine ⟨st, _, _, rfl, upd_same, by omega, _, _, rfl, rfl, _, rfl, ?_⟩
                  rw [one_len nd hm hIl]
                  cases ho : oneB ns with
                  | false =>
                    rw [ho, Bool.false_and] at q
                    exact iteF (q _ s6)
                  | true =>
                  rw [ho, Bool.true_and] at q
                  refine iteT ?_
                  refine ⟨_, rfl, _, rfl, a2, ys, rfl, .inr (SqT.of hb6.2.2), _, rfl, D2, ns.map V.int, rfl, .inr (SqL.of h46), ?_⟩
                  refine ⟨sz ?_, fun ml hml => ?_⟩
                  · simp only [List.length_cons, List.length_append, List.length_map, List.length_nil]
                    omega
                  refine ⟨ml, ((ys.length : Nat) : Int) :: ns, rfl, SqL.of (by rw [upd_same]; simp), by simp, fun m hm1 hm2 => ?_⟩
                  have em := min_uniq hm1 hm2
                  have s7 := s6.trans (same_new (o := .lst (V.int (ys.length : Nat) :: (ns.map V.int ++ []))) hml)
                  refine ⟨p, c, x3, d3, qq, _, _, m, rfl, g3.to (.same s7), k3, fun H8 s8 => ?_⟩
                  rw [em, hB.len]
                  exact q _ (s7.trans s8)
        | _ => exact iteT (iteT (q _ s1))
      · have e7 : (!decide (V.int (xs.length : Nat) = V.int 7)) = true := by
          rw [hlen]
          rw [decide_eq_false]
          · rfl
          · intro z
            injection z with z
            omega
        rw [e7]
        rw [view7 h7] at q
        exact iteT (q _ (Same.refl _))
    | _ => exact iteT (iteT (q _ (Same.refl _)))
end
end Ag

end
/-! ## Exc1 -/
section
set_option linter.all false
set_option maxRecDepth 100000
namespace Ag
open PySem PySem.Spec PyProof.Rows L2
/-! ### own exceptions over Exception, whose __init__ stores -/
abbrev exT : List Value := [.type "Exception", .type "BaseException", .type "object"]
structure OexE (K : PySem.W.Frag) (C : Addr) : Prop where
  cl : ∃ (nm q : Str) (N : Addr) (bs bm : List Value) (sn : List Str) (sub : List Value) (ab : Bool) (col : Option Bool) (dd : Option Addr) (k0 k1 k2 k3 k5 : Option Value),
    K.lookup C = some (excClassObj nm q C N bs bm true sn sub ab col dd k0 k1 k2 k3 k5 "Exception.__new__") ∧ PySem.W.excTail exT bm = true
  st : PySem.W.findIn K (.ref C) "__setattr__" = some (some (.builtin "object.__setattr__")) ∧ PySem.W.subIn K (.ref C) (.type "BaseException") = some true ∧ PySem.W.typeIn K (.ref C) = some (.type "type") ∧ PySem.W.keepIn K (.ref C) = true
section
variable {X : Cx} {pins : List (Addr × Obj)} {σ : L2.St} {H : Hp} {s : Shared} {a C : Addr} {f : Str} {y : V} {u : Value} {Q : Unit → Shared → Prop} {E : Value → Shared → Prop} {A : Around}
theorem oexE_over {K : PySem.W.Frag} (T : OexE K C) : PySem.W.excOver K C exT = true ∧ ∃ cd, PySem.W.clsIn K C = some cd ∧ cd.hasDict = true := by
  obtain ⟨nm, q, N, bs, bm, sn, sub, ab, col, dd, k0, k1, k2, k3, k5, hC, hbm⟩ := T.cl
  have e : PySem.W.clsIn K C = some { name := nm, bases := bs, mro := .ref C :: bm, ns := N, qualname := q, hasDict := true, slotNames := sn, subclasses := sub, abstract := ab, collection := col, hasDel := false } := by
    unfold PySem.W.clsIn
    rw [hC] <;> rfl
  refine ⟨?_, _, e, rfl⟩
  unfold PySem.W.excOver
  rw [e]
  show (C == C && PySem.W.excTail exT bm) = true
  rw [hbm]
  simp
/-- self.f = y, the first one -/
theorem stE_new (T : OexE X.K C) (I : Inv X pins σ H s) (e : H a = some (exo a C none)) (hno : PySem.W.findIn X.K (.ref C) f = some none) (ry : RelV y u)
    (h : ∀ dx s', H dx = none → dx ≠ a → Inv X pins σ (upd (upd H dx (exd dx [(f, y)])) a (exo a C (some dx))) s' → Q () s') : wpAny (model X.prog X.w) A (setAttr (.ref a) f u) Q E s := by
  obtain ⟨ho1, cd, hcd, hhd⟩ := oexE_over T
  obtain ⟨t1, ho⟩ := exo_at I.hok e
  obtain ⟨hp, g, d, t, os⟩ := s
  refine PySem.W.set_plain (od := none) I.kIn ⟨ho, rfl, rfl, trivial⟩ T.st.1 (PySem.W.osa_openX (od := none) F.store_Exception I.kIn ⟨ho, rfl, rfl, trivial⟩ ho1 (by unfold PySem.W.takerIn; rw [hno]; rfl) fun b => ?_)
  have hal : a < hp.objs.size := Heap.lt_size ho
  refine wpAny_bind (wpAny_pure (wpAny_bind (PySem.W.instanceDict_exc (t := t1) (c2 := .none) ho (PySem.W.looks_clsIn I.kIn hcd) hhd ?_)))
  have had : a ≠ hp.objs.size := Nat.ne_of_lt hal
  have hpu : (hp.push (PySem.W.dictOf [] 0)).get? a = some (PySem.W.excObj C t1 none .none) := Heap.get?_push_of_some _ ho
  refine HandSPX.store_in_new ⟨_, #[], 0, (Heap.get?_update_other _ _ had).trans (Heap.get?_push_size _ rfl), rfl, fun e he => by simp at he, fun _ => rfl⟩ fun h' tk' hn' hs => ?_
  -- the heap behind, and one between
  have h1 : h'.get? a = some (PySem.W.excObj C t1 (some hp.objs.size) .none) := (hs.2 a had).trans (Heap.get?_update_self _ hpu rfl)
  have kp : ∀ b o, b ≠ a → hp.get? b = some o → h'.get? b = some o := fun b o hb hbo => (hs.2 b (Nat.ne_of_lt (Heap.lt_size hbo))).trans ((Heap.get?_update_other _ _ (Ne.symm hb)).trans (Heap.get?_push_of_some _ hbo))
  have m1 : (h'.update a fun _ => PySem.W.excObj C t1 none .none).get? a = some (PySem.W.excObj C t1 none .none) := Heap.get?_update_self _ h1 rfl
  have m2 : ∀ b, b ≠ a → (h'.update a fun _ => PySem.W.excObj C t1 none .none).get? b = h'.get? b := fun b hb => Heap.get?_update_other _ _ (Ne.symm hb)
  have hn2 : (h'.update a fun _ => PySem.W.excObj C t1 none .none).Ns1 hp.objs.size (fun y => if y = f then some u else none) := hn'.at fun o q => (m2 _ (Ne.symm had)).trans q
  have I1 : Inv X pins σ (upd H hp.objs.size (exd hp.objs.size [(f, y)])) ⟨h'.update a fun _ => PySem.W.excObj C t1 none .none, g, d, tk', os⟩ :=
    I.laid (a := hp.objs.size) (t' := tk') (fun b o hbo => by
      by_cases hb : b = a
      · subst hb
        rw [ho] at hbo
        rw [m1]
        exact hbo
      · rw [m2 b hb]
        exact kp b o hb hbo) (Nat.le_refl _) (exd_ok hn2 (relO_put (fs := []) ry fun _ => True.intro))
  have e1 : upd H hp.objs.size (exd hp.objs.size [(f, y)]) a = some (exo a C none) := by rw [upd_ne had]; exact e
  have I2 := I1.write (h' := h') (x := a) (e := a) (o := exo a C (some hp.objs.size)) (t' := tk') (by rw [e1]; exact True.intro) (.inl rfl) (fun b o hb q => by rw [← m2 b hb]; exact q) ⟨_, h1⟩ (exo_ok h1)
  exact h _ _ (I.hok.fresh (Nat.le_refl _)) (Ne.symm had) I2
end
end Ag

end
/-! ## Exc2 -/
section
set_option linter.all false
set_option maxRecDepth 100000
namespace Ag
open PySem PySem.Spec PyProof.Rows L2
/-- self.f = e in an own __init__ -/
def tStE (K : PySem.W.Frag) (f : Str) (to te : TE) : TS := fun D σ H => te σ H fun y H1 => to σ H1 fun x H2 => ∃ a C : Addr, x = .ref a ∧ OexE K C ∧ PySem.W.findIn K (.ref C) f = some none ∧ H2 a = some (exo a C none) ∧
  ∀ dx, H2 dx = none → dx ≠ a → D.nx σ (upd (upd H2 dx (exd dx [(f, y)])) a (exo a C (some dx)))
section
variable {X : Cx} {o e : Expr} {es : List Expr} {to te : TE} {ta : TA} {f x : Str} {p p' pos : Pos}
theorem psE_ost (ho : PE X o to) (he : PE X e te) (hs : swapsWith e (some (.Attribute o f p')) pos.line X.env = pure false := by rfl) : PS X (.Assign [.Attribute o f p'] e pos) (tStE X.K f to te) := by
  constructor
  intro pins s σ H D I h
  refine plainObj_wpAny_Assign_Attribute (thn (he.run pins s σ H _ I h) ?_) hs
  rintro v s1 ⟨y, H1, I1, r1, q1⟩
  refine thn (ho.run pins s1 σ H1 _ I1 q1) ?_
  rintro u s2 ⟨x, H2, I2, r2, a, C, rfl, T, hno, ea, q⟩
  cases (show u = Value.ref a from r2)
  exact stE_new T I2 ea hno r1 fun dx s' n ne J => ⟨σ, _, J, q dx n ne⟩
/-- C(e, ..) of such a class -/
theorem pmkE {CX : CXT} {C fI : Addr} {k : Nat} {fd : FuncData} {ps : List Str} {sp : Sp} (T : OexE X.K C) (iC : PySem.W.findIn X.K (.ref C) "__init__" = some (some (.ref fI)) ∧ PySem.W.typeIn X.K (.ref fI) = some (.type "function"))
    (F1 : FnOk X.prog X.w X.K X.mg X.base CX k fI fd ps sp) (hr : Room (k + 1) X.A) (hb : Binds X.K fd ps []) (hx : Passes CX X E0) (hg : Gl X x) (hm : X.mg x = some (.ref C)) (ha : PA X (e :: es) ta) (hdb : (x == ("__debug__" : Str)) = false := by decide)
    (he : starEach (e :: es) X.env = (false, eval e X.env) :: starEach es X.env := by rfl) (hpl : (backTo pos (starEach es X.env)).any (·.1) = false := by rfl) : PMk X (.Call (.Name x p) (e :: es) [] pos) (tMkO C sp [] ta) := by
  intro pins s σ H Q I h
  refine wpAny_Call_Name_kw (ld_glob I hg hm (PySem.W.callWith_K (h₀ := X.base) I.ok.mod.kin T.st.2.2.2 (thn (ha.run pos pins s σ H _ I h) ?_) he hpl) hdb)
  rintro us ⟨hp, g, dr, tk, os⟩ ⟨vs, H1, I1, r1, hz, q1⟩
  refine ⟨I1.kIn, ?_⟩
  show wpAny _ _ (call (.ref C) us) _ _ _
  obtain ⟨nm, q, N, bs, bm, sn, sub, ab, col, dd, k0, k1, k2, k3, k5, hC, hbm⟩ := T.cl
  have hq := q1 (hp.objs.size + 1) (I1.hok.fresh (Nat.le_succ _))
  rw [List.append_nil] at hq
  generalize hP : hp.push (PySem.W.kdv_tup us) = hp1
  have z1 : hp1.objs.size = hp.objs.size + 1 := by rw [← hP, Heap.size_push]
  have kk : ∀ b o, hp.get? b = some o → (hp1.push (HandSPX.excO C hp.objs.size)).get? b = some o := fun b o w => Heap.get?_push_of_some _ (by rw [← hP]; exact Heap.get?_push_of_some _ w)
  have gt : (hp1.push (HandSPX.excO C hp.objs.size)).get? (hp.objs.size + 1) = some (HandSPX.excO C hp.objs.size) := by rw [← z1]; exact Heap.get?_push_size _ rfl
  have I2 : Inv X pins σ (upd H1 (hp.objs.size + 1) (exo (hp.objs.size + 1) C none)) ⟨hp1.push (HandSPX.excO C hp.objs.size), g, dr, tk, os⟩ := I1.laid (t' := tk) kk (Nat.le_succ _) (exo_ok gt)
  have r2 : Vals (V.ref (hp.objs.size + 1) :: vs) (Value.ref (hp.objs.size + 1) :: us) := .cons rfl r1
  have hus : us.length ≤ 1000 := by rw [← Paired.length r1]; exact hz
  have hlen : (Value.ref (hp.objs.size + 1) :: us).length = ps.length := r2.length.symm.trans (F1.len _ _ _ _ hq)
  have bb := hb ⟨hp1.push (HandSPX.excO C hp.objs.size), g, dr, tk, os⟩ (Value.ref (hp.objs.size + 1) :: us) I2.kIn (by rw [List.append_nil]; exact hlen)
  rw [List.append_nil] at bb
  have run := F1.run _ X.stack _ _ ⟨Value.ref (hp.objs.size + 1) :: us, []⟩ _ _ _ E0 (hr.make C us []) (I2.env0.make C us []) bb r2 hq
  refine wpAny_call (HandSPX.call_own F.excBase_Exception (fun Y => PySem.W.excTail_contains Y bm hbm) (I1.kIn _ _ hC) (PySem.W.looks_findIn I1.kIn iC.1) (fun self => PySem.W.bind_fn I1.kIn self iC.2) (Nat.le_trans hus (by rw [sizeLine_eq]; omega)) ?_)
  rw [hP]
  refine codeAny_mono run ?_
  rintro (er | fl) s' hq'
  · exact hx pins σ _ _ er s' I2 hq'
  cases fl with
  | ret u =>
    obtain ⟨v, H2, os2, bare2, un2, hok2, rv, rfl, d, fs, ea, ed, hd1, q2⟩ := hq'
    obtain ⟨h2, g2, d2, t2, os'⟩ := s'
    exact ⟨rv, mk_end (raises_own T.st.2.1 T.st.2.2.1) I1 (Nat.le_succ _) kk un2 hok2 os2 bare2 ea ed hd1 q2⟩
  | next => exact hq'.elim
  | brk => exact hq'.elim
  | cont => exact hq'.elim
end
end Ag

end
/-! ## EN -/
section
set_option linter.all false
set_option maxRecDepth 100000
namespace Ag
open PySem PySem.Spec PyProof.Rows L2
/-! ### defs that raise own exceptions where nothing is handled: the context of what they raise is None -/
section
variable {P : Program} {w : World} {K : PySem.W.Frag} {mg : Str → Option Value} {base : Heap}
theorem okXN {x qual : Str} {st : Stmt} {f : Addr} {fd : FuncData} {N ps : List Str} {k : Nat} {sp : Sp} (F : Fun K x qual st f fd) (S : FnScope N ps (defScope st)) (len : ∀ vs H Q E, sp vs H Q E → vs.length = ps.length)
    (body : ∀ (cdv : Value) (A : Around) (outer : List Env) (s : Shared) (H : Hp) (vs : List V) (Q : VK) (E : XK), Room k (A.deeper (envOfC qual (defScope st) s.heap.objs.size f cdv)) → sp vs H Q E →
      ∃ t, PSs (cxOf (L2N.CX P w) P w K mg base N qual (defScope st) f cdv A outer s H E) (defBody st) t ∧ t { nx := fun _ G => Q .non G, rt := Q } (start N vs) H) : FnOk P w K mg base (L2N.CX P w) (k + 1) f fd ps sp :=
  let ⟨_, _, _, _, _, _, _, _, _, ex, lk, hcd⟩ := F.ex
  by subst ex; exact fn_of lk hcd S len fun A outer s H vs Q E hr q => body _ A outer s H vs Q E hr q
end
section
variable {X : Cx} {o e : Expr} {es : List Expr} {to te : TE} {ta : TA} {f x : Str} {p p' pos : Pos}
theorem pmkEN {CX : CXT} {C fI : Addr} {k : Nat} {fd : FuncData} {ps : List Str} {sp : Sp} (T : OexE X.K C) (iC : PySem.W.findIn X.K (.ref C) "__init__" = some (some (.ref fI)) ∧ PySem.W.typeIn X.K (.ref fI) = some (.type "function"))
    (F1 : FnOk X.prog X.w X.K X.mg X.base CX k fI fd ps sp) (hr : Room (k + 1) X.A) (hb : Binds X.K fd ps []) (hx : Passes CX X E0) (hg : Gl X x) (hm : X.mg x = some (.ref C)) (ha : PA X (e :: es) ta) (hdb : (x == ("__debug__" : Str)) = false := by decide)
    (he : starEach (e :: es) X.env = (false, eval e X.env) :: starEach es X.env := by rfl) (hpl : (backTo pos (starEach es X.env)).any (·.1) = false := by rfl) : L2N.PMk X (.Call (.Name x p) (e :: es) [] pos) (tMkO C sp [] ta) := by
  intro pins s σ H Q I h
  refine wpAny_Call_Name_kw (ld_glob I hg hm (PySem.W.callWith_K (h₀ := X.base) I.ok.mod.kin T.st.2.2.2 (thn (ha.run pos pins s σ H _ I h) ?_) he hpl) hdb)
  rintro us ⟨hp, g, dr, tk, os⟩ ⟨vs, H1, I1, r1, hz, q1⟩
  refine ⟨I1.kIn, ?_⟩
  show wpAny _ _ (call (.ref C) us) _ _ _
  obtain ⟨nm, q, N, bs, bm, sn, sub, ab, col, dd, k0, k1, k2, k3, k5, hC, hbm⟩ := T.cl
  have hq := q1 (hp.objs.size + 1) (I1.hok.fresh (Nat.le_succ _))
  rw [List.append_nil] at hq
  generalize hP : hp.push (PySem.W.kdv_tup us) = hp1
  have z1 : hp1.objs.size = hp.objs.size + 1 := by rw [← hP, Heap.size_push]
  have kk : ∀ b o, hp.get? b = some o → (hp1.push (HandSPX.excO C hp.objs.size)).get? b = some o := fun b o w => Heap.get?_push_of_some _ (by rw [← hP]; exact Heap.get?_push_of_some _ w)
  have gt : (hp1.push (HandSPX.excO C hp.objs.size)).get? (hp.objs.size + 1) = some (HandSPX.excO C hp.objs.size) := by rw [← z1]; exact Heap.get?_push_size _ rfl
  have I2 : Inv X pins σ (upd H1 (hp.objs.size + 1) (exo (hp.objs.size + 1) C none)) ⟨hp1.push (HandSPX.excO C hp.objs.size), g, dr, tk, os⟩ := I1.laid (t' := tk) kk (Nat.le_succ _) (exo_ok gt)
  have r2 : Vals (V.ref (hp.objs.size + 1) :: vs) (Value.ref (hp.objs.size + 1) :: us) := .cons rfl r1
  have hus : us.length ≤ 1000 := by rw [← Paired.length r1]; exact hz
  have hlen : (Value.ref (hp.objs.size + 1) :: us).length = ps.length := r2.length.symm.trans (F1.len _ _ _ _ hq)
  have bb := hb ⟨hp1.push (HandSPX.excO C hp.objs.size), g, dr, tk, os⟩ (Value.ref (hp.objs.size + 1) :: us) I2.kIn (by rw [List.append_nil]; exact hlen)
  rw [List.append_nil] at bb
  have run := F1.run _ X.stack _ _ ⟨Value.ref (hp.objs.size + 1) :: us, []⟩ _ _ _ E0 (hr.make C us []) (I2.env0.make C us []) bb r2 hq
  refine wpAny_call (HandSPX.call_own F.excBase_Exception (fun Y => PySem.W.excTail_contains Y bm hbm) (I1.kIn _ _ hC) (PySem.W.looks_findIn I1.kIn iC.1) (fun self => PySem.W.bind_fn I1.kIn self iC.2) (Nat.le_trans hus (by rw [sizeLine_eq]; omega)) ?_)
  rw [hP]
  refine codeAny_mono run ?_
  rintro (er | fl) s' hq'
  · exact hx pins σ _ _ er s' I2 hq'
  cases fl with
  | ret u =>
    obtain ⟨v, H2, os2, bare2, un2, hok2, rv, rfl, d, fs, ea, ed, hd1, q2⟩ := hq'
    obtain ⟨h2, g2, d2, t2, os'⟩ := s'
    obtain ⟨t0, G, J, kG, ge, hoe, na⟩ := mk_end0 (d2 := d2) (t2 := t2) I1 (Nat.le_succ _) kk un2 hok2 os2 bare2 ea ed hd1
    exact ⟨rv, _, _, _, ⟨G, g2, d2, t2, os'⟩, _, .ref C, some d, rfl, J, kG, ge, hoe, ⟨rfl, rfl, fun vs e => by cases e; rfl⟩, rfl, rfl, na, rfl, bare2, raises_own T.st.2.1 T.st.2.2.1, q2⟩
  | next => exact hq'.elim
  | brk => exact hq'.elim
  | cont => exact hq'.elim
end
end Ag

end
/-! ## PX -/
section
set_option linter.all false
set_option maxRecDepth 100000
set_option maxHeartbeats 1000000
namespace Ag
open PySem PySem.Spec PyProof.Rows L2
/-! ### own exception classes over GateError, whose __init__(self, g) stores g in the field g -/
/-- class C: its __init__ is st, at fI; fld: the field's name -/
structure ExcI (K : PySem.W.Frag) (mg : Str → Option Value) (x qual fld : Str) (st : Stmt) (C fI : Addr) (fd : FuncData) : Prop where
  E : OexE K C
  X : XfC K C
  no : PySem.W.findIn K (.ref C) fld = some none
  i : PySem.W.findIn K (.ref C) "__init__" = some (some (.ref fI)) ∧ PySem.W.typeIn K (.ref fI) = some (.type "function")
  F : Fun K "__init__" qual st fI fd
  b : Binds K fd ["self", fld] []
  g : mg x = some (.ref C)
  ex : PySem.W.exmOne K (.ref C) (.ref C) = some true
def spIni (K : PySem.W.Frag) (fld : Str) : Sp := fun vs H Q _ => ∃ (a C : Addr) (y : V), vs = [.ref a, y] ∧ OexE K C ∧ PySem.W.findIn K (.ref C) fld = some none ∧ H a = some (exo a C none) ∧ ∀ dx, H dx = none → dx ≠ a → Q .non (upd (upd H dx (exd dx [(fld, y)])) a (exo a C (some dx)))
section
variable {P : Program} {w : World} {K : PySem.W.Frag} {mg : Str → Option Value} {base : Heap} {f : Addr} {fd : FuncData} {st : Stmt} {q fld : Str} {p1 p2 p3 p4 : Pos}
theorem ini_any (sc : FnScope ["self", fld] ["self", fld] (defScope st)) (hb : defBody st = [.Assign [.Attribute (.Name "self" p1) fld p2] (.Name fld p3) p4]) (h0 : Vis (defScope st) "self") (h1 : Vis (defScope st) fld)
    (hs : ∀ env : Env, env.scope = defScope st → swapsWith (.Name fld p3) (some (.Attribute (.Name "self" p1) fld p2)) p4.line env = pure false) (d1 : (fld == ("__debug__" : Str)) = false) (d2 : (fld == ("__classdict__" : Str)) = false) (F : Fun K "__init__" q st f fd) :
    FnOk P w K mg base CX0 1 f fd ["self", fld] (spIni K fld) := by
  refine F.ok sc (fun vs H Q E h => ?_) (fun cdv A outer s H vs Q E hr h => ?_)
  · obtain ⟨a, C, y, rfl, _⟩ := h
    rfl
  · obtain ⟨a, C, y, rfl, T, hno, ea, q⟩ := h
    rw [hb]
    refine ⟨_, pss_one (psE_ost (pe_var (i := 0) rfl h0) (pe_var (i := 1) rfl h1 d1 d2) (hs _ rfl)), ?_⟩
    exact ⟨_, rfl, _, rfl, a, C, rfl, T, hno, ea, q⟩
end
/-- what a raise leaves: the thing in a new exception's fields -/
def RsdF (E : XK) (C : Addr) (fld : Str) (H : Hp) (v : V) : Prop := ∀ dx H', Same H H' → H dx = none → H' dx = some (.xd [(fld, v)]) → E (.ref C) (some dx) H'
abbrev Rsd (E : XK) (C : Addr) (H : Hp) (v : V) : Prop := RsdF E C "thing" H v
theorem RsdF.to {E : XK} {C : Addr} {fld : Str} {H H2 : Hp} {v : V} (r : RsdF E C fld H v) (s : Same H H2) : RsdF E C fld H2 v := fun dx H' s2 n e => r dx H' (s.trans s2) (by
  cases q : H dx with
  | none => rfl
  | some o => rw [s dx o q] at n; cases n) e
/-- raise C(v) -/
theorem raise_i {K : PySem.W.Frag} {C : Addr} {fld : Str} {σ : L2.St} {H : Hp} {E : XK} {i : Nat} {v : V} (T : OexE K C) (no : PySem.W.findIn K (.ref C) fld = some none) (hv : σ[i]? = some (some v)) (r : RsdF E C fld H v) :
    tMkO C (spIni K fld) [] (tCons (tVar i) tNil) σ H (fun cls d G => E cls d G) := by
  refine ⟨v, hv, Nat.le_of_ble_eq_true rfl, fun x hx => ⟨x, C, v, rfl, T, no, upd_same, fun dx hdx ne => ⟨rfl, dx, [(fld, v)], upd_same, by rw [upd_ne ne, upd_same], ?_, ?_⟩⟩⟩
  · rw [upd_ne ne] at hdx; exact hdx
  · rw [upd_ne ne] at hdx
    refine r dx _ (fun b o e => ?_) hdx upd_same
    have nb1 : b ≠ dx := ne_of_none e hdx
    have nb2 : b ≠ x := ne_of_none e hx
    rw [upd_ne nb1, del_ne nb2, upd_ne nb2, upd_ne nb1, upd_ne nb2]
    exact e
end Ag

end
/-! ## V4 -/
section
set_option linter.all false
set_option maxRecDepth 100000
set_option maxHeartbeats 4000000
namespace Ag
open PySem PySem.Spec PyProof.Rows L2
open SX (S S_len S_cat S_inj)
/-! ### a view that is one -/
def intsT : PyData → List Int
  | .tuple xs => xs.map asInt
  | _ => []
def loD : PyData → Int
  | .tuple [_, _, _, an, aw, up, _] => maxE 0 (intsT an ++ (endsL aw up).map asInt)
  | _ => 0
def hiD : PyData → Int
  | .tuple [_, _, bs, _, aw, up, _] => minE (lenT bs) ((endsL aw up).map asInt)
  | _ => 0
theorem view_true {d : PyData} (h : viewB d = true) : ∃ d0 d1 bs an d4 d5 d6 lo hi, d = .tuple [d0, d1, .tuple bs, .tuple an, d4, d5, d6] ∧ an.all (wholeB lo hi) = true ∧ (endsL d4 d5).all (wholeB 0 1000000000) = true ∧ (isN d1 || wholeB 0 1000000000 d1) = true := by
  cases d with
  | tuple ds =>
    by_cases h7 : ds.length = 7
    · obtain ⟨d0, d1, d2, d3, d4, d5, d6, rfl⟩ := len7 h7
      simp only [viewB, Bool.and_eq_true] at h
      obtain ⟨_, h2, h3⟩ := h
      cases d2 with
      | tuple bs =>
        unfold seenB at h3
        by_cases hn : isN d1 = true
        · rw [if_pos hn, Bool.and_eq_true, Bool.and_eq_true] at h3
          obtain ⟨a1, a2, a3⟩ := h3
          have e : endsL d4 d5 = [] := by unfold endsL; rw [a2, a3]; rfl
          cases d3 with
          | tuple an =>
            cases an with
            | nil => exact ⟨d0, d1, bs, [], d4, d5, d6, 0, 0, rfl, rfl, by rw [e]; rfl, by rw [hn]; rfl⟩
            | cons _ _ => simp [isT0] at a1
          | _ => simp [isT0] at a1
        · rw [if_neg hn, Bool.and_eq_true, Bool.and_eq_true, Bool.and_eq_true] at h3
          obtain ⟨a1, a2, _, a4⟩ := h3
          cases d3 with
          | tuple an =>
            rw [cntB, Bool.and_eq_true] at a4
            exact ⟨d0, d1, bs, an, d4, d5, d6, _, _, rfl, a4.1, num_all a2, by rw [a1, Bool.or_true]⟩
          | _ => simp [cntB] at a4
      | _ => simp [bodiesB] at h2
    · rw [view7 h7] at h
      cases h
  | _ => simp [viewB] at h
section
variable {P : Program} {w : World} {K : PySem.W.Frag} {mg : Str → Option Value} {base : Heap} {tn tw tb : Tok}
def spBounds : Sp := fun vs H Q _ => ∃ p c v d q n b, vs = [v] ∧ Dg p c H v d ∧ Gd q d n b ∧ viewB d = true ∧ ∀ H' a, Same H H' → H' a = some (.tup [.int (loD d), .int (hiD d)]) → Q (.ref a) H'
theorem ok_bounds {f f1 : Addr} {fd fd1 : FuncData} (F : Fn K mg "bounds" s_bounds ["view"] f fd) (B : Con mg tn tw tb)
    (F_is_view : Fn K mg "is_view" s_is_view ["thing"] f1 fd1) (G_is_view : FnOk P w K mg base CX0 4 f1 fd1 ["thing"] spIsView) : FnOk P w K mg base CX0 5 f fd ["view"] spBounds := by
  refine F.F.ok sc_bounds (fun vs H Q E h => ?_) (fun cdv A outer s H vs Q E hr h => ?_)
  · obtain ⟨p, c, x, d, _, _, _, rfl, _⟩ := h
    rfl
  · obtain ⟨p, c, x, d, qq, n, b, rfl, hd, hg, hv, q1⟩ := h
    refine ⟨_, (pss_cons (ps_if (pt_not (pt_val (pe_call G_is_view (hr.mono (by decide)) (by rfl) F_is_view.g F_is_view.F.kp F_is_view.b .nil pass0 (pa_cons (pv 0) pa_nil))))
      (pss_one ps_never)
      pss_nil)
      (pss_cons (ps_asg (pv 0) (pg_tup rfl (pgs_cons (pg_name (i := 1) sc_bounds.nd rfl (Or.inl rfl)) (pgs_cons (pg_name (i := 1) sc_bounds.nd rfl (Or.inl rfl)) (pgs_cons (pg_name (i := 2) sc_bounds.nd rfl (Or.inl rfl)) (pgs_cons (pg_name (i := 3) sc_bounds.nd rfl (Or.inl rfl)) (pgs_cons (pg_name (i := 4) sc_bounds.nd rfl (Or.inl rfl)) (pgs_cons (pg_name (i := 5) sc_bounds.nd rfl (Or.inl rfl)) (pgs_cons (pg_name (i := 1) sc_bounds.nd rfl (Or.inl rfl)) pgs_nil)))))))))
      (pss_cons (ps_setLc (i := 6) (own := [("end", 7)]) rfl sc_bounds.nd rfl rfl (sw_true rfl rfl rfl (by decide +kernel)) (pi_tup (pe_tup (pa_cons (pv 4) (pa_cons (pv 5) pa_nil)))) (blkOk_by (N := N_bounds) (sc := defScope s_bounds) (by decide +kernel)) (fun _ _ _ _ _ => (pg_name (i := 7) sc_bounds.nd rfl (Or.inl rfl))) (fun _ _ _ _ _ => (pts_one (pt_cmpR op_notN (pv 7) pe_non (nomark _)))) (fun _ _ _ _ _ => (pv 7)))
      (pss_one (ps_ret (pe_tup (pa_cons (pe_callB (cr_max rfl) (by rfl) B.n_max (by decide +kernel) (pa_cons (pe_lst (pa_cons pe_int (StX.pa_star (pv 3) (StX.pa_star (pv 6) pa_nil)))) pa_nil)) (pa_cons (pe_callB (cr_min rfl) (by rfl) B.n_min (by decide +kernel) (pa_cons (pe_lst (pa_cons (pe_callB call_len_seq (by rfl) B.n_len PySem.boot_len (pa_cons (pv 2) pa_nil)) (StX.pa_star (pv 6) pa_nil))) pa_nil)) pa_nil)))))))), ?_⟩
    refine ⟨_, rfl, p, c, x, d, qq, _, _, rfl, hd, hg, fun H1 s1 => ⟨_, rfl, ?_⟩⟩
    · rw [hv]
      refine iteF ?_
      obtain ⟨d0, d1, bs, an, d4, d5, d6, lo, hi, rfl, han, hend, _⟩ := view_true hv
      cases hd with
      | @tup a xs _ ha hA =>
      obtain ⟨x0, x1, x2, x3, x4, x5, x6, rfl⟩ := len7 hA.len
      match hA with
      | .cons _ (.cons _ (.cons g2 (.cons g3 (.cons g4 (.cons g5 (.cons _ .nil)))))) =>
      have ha1 := ha.kp (.same s1)
      refine ⟨_, rfl, a, _, rfl, SqT.of ha1.2.2, rfl, _, _, rfl, _, _, rfl, _, _, rfl, _, _, rfl, _, _, rfl, _, _, rfl, _, _, rfl, rfl, ?_⟩
      refine ⟨_, rfl, _, rfl, sz (by show 2 ≤ 16000000; decide), fun T hT => ?_⟩
      have s3 := s1.trans (same_new (o := .tup [x4, x5]) hT)
      have hT3 : upd H1 T (.tup [x4, x5]) T = some (.tup [x4, x5]) := upd_same
      generalize upd H1 T (.tup [x4, x5]) = H3 at s3 hT3 ⊢
      refine ⟨T, rfl, ⟨_, SqT.of hT3⟩, fun D2 hD2 => ?_⟩
      refine lc_sel (walk_tup (K := K) (a := T) (xs := [x4, x5])) (fun i => !decide (([x4, x5] : List V).getD i .non = .non)) (fun i => ([x4, x5] : List V).getD i .non) (by show 2 ≤ _; decide) hD2 (fun H' s => SqT.of (s _ _ hT3)) ?_ ?_
      · rintro i y H4 H5 k kf hi s4 ⟨rfl, hy⟩ hk hk0
        have ey : ([x4, x5] : List V).getD i .non = y := by rw [List.getD_eq_getElem?_getD, hy]; rfl
        rw [ey] at hk hk0
        refine ⟨rfl, _, rfl, rfl, _, rfl, ?_⟩
        cases hn : decide (y = V.non) with
        | false => exact iteT ⟨_, rfl, hk (by rw [hn]; rfl) _ (Same.refl _)⟩
        | true => exact iteF (hk0 (by rw [hn]; rfl) _ (Same.refl _))
      · intro H4 s4 h4
        have s4 := s3.trans s4
        rw [show ([x4, x5] : List V).length = 2 from rfl, sel_ends] at h4
        have hE := dg_ends (g4.to (.same s4)) (g5.to (.same s4))
        have hEl := ends_le d4 d5
        have hvs := ints_of_D hE hend
        have eLo : loD (.tuple [d0, d1, .tuple bs, .tuple an, d4, d5, d6]) = maxE 0 (an.map asInt ++ (endsL d4 d5).map asInt) := rfl
        have eHi : hiD (.tuple [d0, d1, .tuple bs, .tuple an, d4, d5, d6]) = minE (bs.length : Int) ((endsL d4 d5).map asInt) := rfl
        rw [eLo, eHi] at q1
        have hIl : ((endsL d4 d5).map asInt).length ≤ 2 := by rw [List.length_map]; exact hEl
        generalize (endsL d4 d5).map asInt = ns at hvs hIl q1
        rw [hvs] at h4
        have g3 := g3.to (.same s4)
        have g2 := g2.to (.same s4)
        cases g2 with
        | @tup a2 ys _ hb hB =>
        cases g3 with
        | @tup a3 zs _ hc hC =>
        have hzs := ints_of_D hC han
        have hCl := hC.len
        have hgA := hg.untup.1.hd.2.hd.2.hd.2.hd.1.untup.2
        rw [← hCl, hzs, List.length_map] at hgA
        generalize an.map asInt = ms at hzs hgA q1
        subst hzs
        have hgB := hg.untup.1.hd.2.hd.2.hd.1.untup.2
        refine ⟨_, rfl, a3, _, rfl, .inl (SqT.of hc.2.2), _, rfl, D2, _, rfl, .inr (SqL.of h4), sz ?_, fun m1 hm1 => ?_⟩
        · simp only [List.length_cons, List.length_append, List.length_map, List.length_nil]
          omega
        have e1 : (V.int 0 :: (ms.map V.int ++ (ns.map V.int ++ []))) = ((0 : Int) :: (ms ++ ns)).map V.int := by simp
        refine ⟨m1, (0 : Int) :: (ms ++ ns), rfl, SqL.of (by rw [upd_same]; exact congrArg _ (congrArg _ e1)), by simp, fun lo' l1 l2 => ?_⟩
        have el := max_uniq l1 l2
        subst el
        have s5 := same_new (o := .lst (V.int 0 :: (ms.map V.int ++ (ns.map V.int ++ [])))) hm1
        have h5 := s5 _ _ h4
        have hb5 := hb.kp (.same s5)
        have s5 := s4.trans s5
        refine ⟨_, rfl, a2, ys, rfl, .inr (SqT.of hb5.2.2), _, rfl, D2, _, rfl, .inr (SqL.of h5), sz ?_, fun m2 hm2 => ?_⟩
        · simp only [List.length_cons, List.length_append, List.length_map, List.length_nil]
          omega
        refine ⟨m2, ((ys.length : Nat) : Int) :: ns, rfl, SqL.of (by rw [upd_same]; simp), by simp, fun hi' l1 l2 => ?_⟩
        have el := min_uniq l1 l2
        subst el
        refine ⟨sz (by show 2 ≤ 16000000; decide), fun t ht => q1 _ t ((s5.trans (same_new hm2)).trans (same_new ht)) ?_⟩
        rw [hB.len]
        exact upd_same
end
end Ag

end
/-! ## Kit2 -/
section
set_option linter.all false
set_option maxRecDepth 100000
namespace Ag
open PySem PySem.Spec PyProof.Rows L2
open SX (S S_len S_cat S_inj)
/-! ### str * int -/
theorem foldl_cps (z : List Nat) (n : Nat) : (List.replicate n (S z).cps).foldl (· ++ ·) #[] = (List.replicate n z).flatten.toArray := by
  have key : ∀ (n : Nat) (acc : Array Nat), (List.replicate n (S z).cps).foldl (· ++ ·) acc = acc ++ (List.replicate n z).flatten.toArray := by
    intro n
    induction n with
    | zero => intro acc; simp
    | succ n ih =>
      intro acc
      rw [List.replicate_succ, List.foldl_cons, ih, List.replicate_succ, List.flatten_cons]
      apply Array.ext'
      simp
  rw [key n #[]]
  simp
theorem mul_S (z : List Nat) (n : Nat) : Txt.mul (S z) (n : Int) = S (List.replicate n z).flatten := by
  unfold Txt.mul
  by_cases h0 : n = 0
  · subst h0
    rfl
  · rw [if_neg (by omega)]
    split
    · rename_i h
      simp only [Bool.or_eq_true, beq_iff_eq] at h
      rcases h with h | h
      · have : n = 1 := by omega
        subst this
        simp
      · rw [S_len] at h
        have : z = [] := List.length_eq_zero_iff.mp h
        subst this
        simp
    · rw [show ((n : Int)).toNat = n by simp, foldl_cps]
theorem op_rep_str {X : Cx} : OpR X (binaryOp .Mult) (fun x y H Q => ∃ (z : List Nat) (n : Nat), x = .str (S z) ∧ y = .int (n : Int) ∧ z.length * n ≤ 16000000 ∧ n ≤ 16000000 ∧ z.length ≤ 16000000 ∧ Q (.str (S (List.replicate n z).flatten)) H) := by
  intro pins s σ H x y v u Q I rx ry h
  obtain ⟨z, n, rfl, rfl, h1, h2, h3, q⟩ := h
  obtain ⟨t, rfl⟩ := rx
  obtain ⟨t', rfl⟩ := ry
  refine SB.mul ⟨?_, fun _ _ => ?_, fun _ _ => ?_⟩ (fun a k => ?_)
  · rw [Bool.or_eq_false_iff, decide_eq_false_iff_not, decide_eq_false_iff_not]
    omega
  · rename_i a b
    have hn : (1 : Int) ≤ (n : Int) := by omega
    have : (2 ^ 63 - 1) / (n : Int) ≥ (2 ^ 63 - 1) / 16000000 := by
      rw [ge_iff_le, Int.le_ediv_iff_mul_le (by omega)]
      have e : ((2 ^ 63 - 1 : Int) / 16000000) = 576460752303 := by decide
      rw [e]
      omega
    have e : ((2 ^ 63 - 1 : Int) / 16000000) = 576460752303 := by decide
    rw [S_len]
    omega
  · rw [S_len]
    show decide (z.length * (n : Int).toNat > sizeLine) = false
    rw [decide_eq_false_iff_not, sizeLine_eq, show ((n : Int)).toNat = n by simp]
    omega
  · rw [mul_S]
    exact ⟨.str _, H, I.tok _, ⟨_, rfl⟩, q⟩
/-! ### for i, c in enumerate(text) -/
def Ites (x : Str) : It :=
  ⟨fun i _ => i < x.cps.size, fun i H v H' => ∃ T c, v = .ref T ∧ H T = none ∧ H' = upd H T (.tup [.int (i : Nat), .str ⟨#[c]⟩]) ∧ x.cps[i]? = some c, fun i _ => i = x.cps.size⟩
theorem walk_enumS {x : Str} : Walk (Ites x) x.cps.size (fun _ => True) (fun i H v H' => ∃ T c, v = .ref T ∧ H T = none ∧ H' = upd H T (.tup [.int (i : Nat), .str ⟨#[c]⟩]) ∧ x.cps[i]? = some c) :=
  ⟨fun _ _ h _ => h, fun _ _ => rfl, fun _ _ _ _ _ _ z => z⟩
theorem draws_str {P : Program} {w : World} {A : Around} (hh : A.handled = none) (it : Addr) (x : Str) (t : Tok) {ty : String} (hty : ty = "str_ascii_iterator" ∨ ty = "str_iterator") :
    Draws P w A it [it] x.cps.size (fun i v => ∃ c u, x.cps[i]? = some c ∧ v = .str ⟨#[c]⟩ u) (fun i h => h.IsStrIter it ty x t i) := by
  rcases hty with rfl | rfl
  · exact Draws.strAscii hh it x t
  · exact Draws.strWide hh it x t
theorem turn_enumS {P : Program} {w : World} {K : PySem.W.Frag} {elts : List Expr} {kk : Nat} {tpos : Pos} (x : Str) (t : Tok) (ty : String) (hty : ty = "str_ascii_iterator" ∨ ty = "str_iterator") (e it : Addr) :
    Turn P w K (.Tuple elts kk tpos) (Ites x) [e, it] e (fun i h => (∃ old, IsEnum h e it ((i : Nat) : Int) old) ∧ h.IsStrIter it ty x t i ∧ e ≠ it) where
  mem := List.mem_cons_self
  obj := by
    rintro i h ⟨⟨old, he⟩, ⟨o, ho, hc, hd⟩, _⟩ b hb
    rcases List.mem_cons.mp hb with rfl | hb
    · exact ⟨_, he, fun v q => by cases q⟩
    · obtain rfl := List.mem_singleton.mp hb
      exact ⟨o, ho, fun v q => by rw [hd] at q; cases q⟩
  keep := by
    rintro i h h' ⟨⟨old, he⟩, ⟨o, ho, r⟩, hne⟩ k
    exact ⟨⟨old, k e List.mem_cons_self _ he⟩, ⟨o, k it (List.mem_cons_of_mem _ List.mem_cons_self) o ho, r⟩, hne⟩
  item := by
    intro X hP hw hK hc i pins s σ H E I hf st hg
    subst hP hw hK
    obtain ⟨⟨old, he⟩, hit, hne⟩ := st
    have hel : e < s.heap.objs.size := Heap.lt_size he
    have hil : it < s.heap.objs.size := by obtain ⟨_, q, _⟩ := hit; exact Heap.lt_size q
    have D := draws_str (P := X.prog) (w := X.w) (A := X.A.in1) (I.ok.hd hc) it x t hty
    refine wpAny_pyNext_enum_itemD D he hit hg hne (fun z => hne (List.mem_singleton.mp z)) ?_
    rintro v h' tk ⟨c, u, hcx, rfl⟩ ho hit' hT hsz hk
    refine ⟨_, rfl, wpAny_letOwnedTupleGo_enum (s := { s with heap := h', toks := tk + 1 }) ho ?_⟩
    intro h'' he' sb
    have hT2 : h''.get? s.heap.objs.size = some { cls := .type "tuple", data := .seq #[.int i tk, .str ⟨#[c]⟩ u] } := (sb.2 _ (Nat.ne_of_gt hel)).trans hT
    have ok : ObjOk X.prog X.w (upd H s.heap.objs.size (.tup [.int (i : Nat), .str ⟨#[c]⟩])) h'' s.heap.objs.size (.tup [.int (i : Nat), .str ⟨#[c]⟩]) :=
      ⟨by show 2 ≤ sizeLine; decide, [.int i tk, .str ⟨#[c]⟩ u], .cons ⟨_, rfl⟩ (.cons ⟨_, rfl⟩ .nil), ⟨_, hT2, rfl, _, rfl⟩⟩
    have I1 : Inv X pins σ (upd H s.heap.objs.size (.tup [.int (i : Nat), .str ⟨#[c]⟩])) { s with heap := h'', toks := tk + 1 } :=
      I.turnedNew (ch := [e, it]) (fun b ob hb q => (sb.2 b (fun z => hb (by rw [z]; exact List.mem_cons_self))).trans (hk b ob (fun z => hb (by rw [z]; exact List.mem_cons_self)) (fun z => hb (by rw [z]; exact List.mem_cons_of_mem _ List.mem_cons_self)) q)) hf (Nat.le_refl _) ok
    have e1 : ((i + 1 : Nat) : Int) = (i : Int) + 1 := by omega
    have hit2 : h''.IsStrIter it ty x t (i + 1) := by
      obtain ⟨o, q1, q2⟩ := hit'
      exact ⟨o, (sb.2 it hne.symm).trans q1, q2⟩
    refine ⟨.ref s.heap.objs.size, _, I1, rfl, ⟨_, c, rfl, I.hok.fresh (Nat.le_refl _), rfl, hcx⟩, ⟨⟨_, by rw [e1]; exact he'⟩, hit2, hne⟩, fun b hb => ?_⟩
    have hb' : b < s.heap.objs.size := by
      rcases List.mem_cons.mp hb with rfl | z
      · exact hel
      · rw [List.mem_singleton.mp z]
        exact hil
    rw [upd_ne (Nat.ne_of_lt hb')]
    exact (hf b hb).1
  done := by
    intro X hP hw hK hc i pins s σ H E I hf st hg
    subst hP hw hK
    obtain ⟨⟨old, he⟩, hit, hne⟩ := st
    obtain ⟨f0, f1, f2, f3, f4, f5⟩ := hf it (List.mem_cons_of_mem _ List.mem_cons_self)
    obtain rfl : i = x.cps.size := hg
    have D := draws_str (P := X.prog) (w := X.w) (A := X.A.in1) (I.ok.hd hc) it x t hty
    exact wpAny_pyNext_enum_endD D he hit fun h' eb => ⟨rfl, I.turned (t' := s.toks) (fun b o hb q => eb b o hb q) f0 f1 f3 f4 f5⟩
  self := fun A i s Q E st h => st.1.elim fun _ z => wpAny_pyIter_enum z h
def iEnumS (ta : TA) : TI := fun σ H R => ta σ H fun vs H1 => ∃ x, vs = [.str x] ∧ R (Ites x) H1
theorem pi_enumS {X : Cx} {e : Expr} {ta : TA} {p pos tpos : Pos} {elts : List Expr} {kk : Nat} (hg : Gl X "enumerate") (hm : X.mg "enumerate" = none) (ha : PA X [e] ta) (hs : starEach [e] X.env = [(false, eval e X.env)] := by rfl) :
    PI X (.Tuple elts kk tpos) (.Call (.Name "enumerate" p) [e] [] pos) (iEnumS ta) := by
  constructor
  intro pins s σ H R I h
  refine Call_ (ld_blt I hg hm boot_enumerate (PyProof.Rows.callWith_type1 (thn (ha.run pos pins s σ H _ I h) ?_) hs rfl))
  rintro us s1 ⟨vs, H1, I1, r1, x, rfl, q⟩
  obtain ⟨u, rfl, t, rfl⟩ := vals1 r1
  refine call_enumerate_str fun h' he hit hsz hk => wpAny_pyIter_enum he ?_
  have I2 : Inv X pins σ H1 { s1 with heap := h' } := I1.kept (t' := s1.toks) hk
  have hty : strIterType x = "str_ascii_iterator" ∨ strIterType x = "str_iterator" := by
    unfold strIterType
    split
    · exact .inl rfl
    · exact .inr rfl
  refine ⟨s1.heap.objs.size + 1, [s1.heap.objs.size + 1, s1.heap.objs.size], _, _, H1, rfl, I2, turn_enumS x t _ hty (s1.heap.objs.size + 1) s1.heap.objs.size, ⟨⟨.none, he⟩, hit, Nat.succ_ne_self _⟩, ?_, q⟩
  intro b hb
  have hle : s1.heap.objs.size ≤ b := by
    rcases List.mem_cons.mp hb with rfl | z
    · exact Nat.le_succ _
    · rw [List.mem_singleton.mp z]
      exact Nat.le_refl _
  exact I1.fpOk hle (I1.hok.fresh hle)
/-- a target of two names, where a comprehension's block runs -/
theorem pg_two {X : Cx} (K : PySem.W.Frag) {i j : Nat} {x y : Str} {px py pt : Pos} {k : Nat} (hc : X.calm = true) (hN : X.N.Nodup) (hi : X.N[i]? = some x) (hj : X.N[j]? = some y) (hx : X.env.scope.names.lookup x = some .local) (hy : X.env.scope.names.lookup y = some .local) (hK : X.K = K) :
    PG X (.Tuple [.Name x px, .Name y py] k pt) (gTup K 2 (gCons (gName i) (gCons (gName j) gNil))) := by
  subst hK
  exact pg_tup hc (pgs_cons (pg_name hN hi (.inl hx) (.inr hx)) (pgs_cons (pg_name hN hj (.inl hy) (.inr hy)) pgs_nil))
end Ag

end
/-! ## Kit3 -/
section
set_option linter.all false
set_option maxRecDepth 100000
namespace Ag
open PySem PySem.Spec PyProof.Rows L2
open SX (S S_len S_cat S_inj)
def chars (z : List Nat) : List V := z.map fun c => V.str (S [c])
theorem call_list_S {X : Cx} (hc : X.calm = true) : CallR X (.type "list") (fun xs H Q => ∃ z : List Nat, xs = [.str (S z)] ∧ z.length ≤ 16000000 ∧ ∀ l, H l = none → Q (.ref l) (upd H l (.lst (chars z)))) := by
  intro pins s σ H xs us Q I r h
  obtain ⟨z, rfl, hz, q⟩ := h
  obtain ⟨u, rfl, t, rfl⟩ := vals1 r
  have hsz : (S z).cps.size = z.length := by simp
  refine PySem.call_list_str (I.ok.hd hc) (S z) t (fun h' tk acc c' kp e ha => ?_) (by rw [hsz, sizeLine_eq]; omega)
  have rv : Vals (chars z) acc.toList := by
    refine L2.vals_of_at ?_ ?_
    · have e1 := ha.1
      rw [hsz] at e1
      unfold chars
      rw [List.length_map, Array.length_toList]
      exact e1.symm
    · intro j x u hx hu
      obtain ⟨c, tk', hc', rfl⟩ := ha.2 j u (by simpa using hu)
      unfold chars at hx
      rw [List.getElem?_map] at hx
      have : z[j]? = some c := by simpa using hc'
      rw [this] at hx
      cases hx
      exact ⟨_, rfl⟩
  refine ⟨.ref s.heap.objs.size, upd H s.heap.objs.size (.lst (chars z)), I.laid kp (Nat.le_refl _) ⟨?_, acc.toList, c', rv, ?_⟩, rfl, q _ (I.hok.fresh (Nat.le_refl _))⟩
  · unfold chars
    rw [List.length_map, sizeLine_eq]
    omega
  · simpa using e
end Ag

end
/-! ## LA -/
section
set_option linter.all false
set_option maxRecDepth 100000
set_option maxHeartbeats 4000000
namespace Ag
open PySem PySem.Spec PyProof.Rows L2
open SX (S S_len S_cat S_inj)
/-! ### the deck of draws -/
def kC : Key := Sum.inr (Str.ofString "left")
def kM : Key := Sum.inr (Str.ofString "mixed")
def kT : Key := Sum.inr (Str.ofString "draws")
def dkL (c : Addr) (m t : Int) : List (Key × V) := [(kC, .ref c), (kM, .int m), (kT, .int t)]
theorem nCM : ¬ kC = kM := by decide +kernel
theorem nCT : ¬ kC = kT := by decide +kernel
theorem nMT : ¬ kM = kT := by decide +kernel
section
variable {c : Addr} {m t u : Int}
theorem v_C : valV (dkL c m t) kC = some (.ref c) := valV_pos rfl
theorem v_M : valV (dkL c m t) kM = some (.int m) := (valV_neg nCM).trans (valV_pos rfl)
theorem v_T : valV (dkL c m t) kT = some (.int t) := (valV_neg nCT).trans ((valV_neg nMT).trans (valV_pos rfl))
theorem put_T : putK (dkL c m t) kT (.int u) = dkL c m u := by
  unfold putK dkL
  simp [nCT, nMT]
theorem merge_d : mergeK [] (dkL c m t) = dkL c m t := by
  unfold mergeK dkL putK
  simp [nCM, nCT, nMT]
end
/-- a deck stands at p, its cells at c -/
def Dk (p c : Addr) (H : Hp) : Prop := ∃ (m t : Int) (cs : List Int), H p = some (.dK (dkL c m t)) ∧ H c = some (.lst (cs.map V.int)) ∧ cs.length ≤ 63
/-- all but the deck is as it was, and the deck is one -/
def Gx (p c : Addr) (H H' : Hp) : Prop := (∀ b o, b ≠ p → b ≠ c → H b = some o → H' b = some o) ∧ Dk p c H'
theorem Gx.refl {p c : Addr} {H : Hp} (d : Dk p c H) : Gx p c H H := ⟨fun _ _ _ _ e => e, d⟩
theorem Gx.trans {p c : Addr} {H H1 H2 : Hp} (a : Gx p c H H1) (b : Gx p c H1 H2) : Gx p c H H2 := ⟨fun x o h1 h2 e => b.1 x o h1 h2 (a.1 x o h1 h2 e), b.2⟩
theorem Dk.same {p c : Addr} {H H' : Hp} (d : Dk p c H) (s : Same H H') : Dk p c H' := by
  obtain ⟨m, t, cs, h1, h2, h3⟩ := d
  exact ⟨m, t, cs, s _ _ h1, s _ _ h2, h3⟩
theorem Gx.same {p c : Addr} {H H' : Hp} (d : Dk p c H) (s : Same H H') : Gx p c H H' := ⟨fun b o _ _ e => s b o e, d.same s⟩
theorem Dk.ne {p c q : Addr} {H : Hp} (d : Dk p c H) (h : H q = none) : q ≠ p ∧ q ≠ c := by
  obtain ⟨m, t, cs, h1, h2, _⟩ := d
  exact ⟨(ne_of_none h1 h).symm, (ne_of_none h2 h).symm⟩
theorem Gx.free {p c q : Addr} {H H' : Hp} (g : Gx p c H H') (d : Dk p c H) (h : H' q = none) : H q = none := by
  cases e : H q with
  | none => rfl
  | some o =>
    have n := g.2.ne h
    have := g.1 q o n.1 n.2 e
    rw [h] at this
    cases this
theorem At.gx {p c a : Addr} {H H' : Hp} {o : HO} (h : At p c H a o) (g : Gx p c H H') : At p c H' a o := ⟨h.1, h.2.1, g.1 a o h.1 h.2.1 h.2.2⟩
theorem At.new {p c a : Addr} {H : Hp} {o : HO} (d : Dk p c H) (h : H a = none) : At p c (upd H a o) a o := ⟨(d.ne h).1, (d.ne h).2, upd_same⟩
theorem Gx.new {p c a : Addr} {H : Hp} {o : HO} (d : Dk p c H) (h : H a = none) : Gx p c H (upd H a o) := Gx.same d (same_new h)
/-- a list's own change -/
theorem Gx.put {p c a : Addr} {H H' : Hp} {o : HO} (g : Gx p c H H') (d : Dk p c H) (h : H a = none) (n : a ≠ p ∧ a ≠ c) : Gx p c H (upd H' a o) := by
  refine ⟨fun b u h1 h2 e => ?_, ?_⟩
  · rw [upd_ne (ne_of_none e h)]
    exact g.1 b u h1 h2 e
  · obtain ⟨m, t, cs, h1, h2, h3⟩ := g.2
    exact ⟨m, t, cs, by rw [upd_ne n.1.symm]; exact h1, by rw [upd_ne n.2.symm]; exact h2, h3⟩
theorem cutV63 {ns : List Int} (h : ns.length ≤ 63) : cutV (ns.map V.int) none (some 63) = ns.map V.int := by
  unfold cutV
  rw [HT.sIx_none, show HT.sIx (ns.map V.int).length (ns.map V.int).length (some 63) = min 63 (ns.map V.int).length from HT.sIx_nat _ _ 63, List.drop_zero, List.take_of_length_le]
  rw [List.length_map]
  omega
section
variable {P : Program} {w : World} {K : PySem.W.Frag} {mg : Str → Option Value} {base : Heap} {tn tw tb : Tok}
def spDeck (K : PySem.W.Frag) : Sp := fun vs H Q _ => ∃ (a : Addr) (ns : List Int), vs = [.ref a] ∧ SqL K H a (ns.map V.int) ∧ ns.length ≤ 63 ∧ ∀ p c H', H p = none → H c = none → Same H H' → Dk p c H' → Q (.ref p) H'
theorem ints_all {ns : List Int} {xs : List V} (hl : xs.length = ns.length) (h : ∀ (i : Nat) (y : V), xs[i]? = some y → ∃ z, ns[i]? = some z ∧ y = V.int z) : xs = ns.map V.int := by
  refine List.ext_getElem? fun i => ?_
  rw [List.getElem?_map]
  cases e : xs[i]? with
  | none =>
    have h1 := List.getElem?_eq_none_iff.mp e
    have h2 : ns[i]? = none := List.getElem?_eq_none_iff.mpr (by omega)
    rw [h2]
    rfl
  | some y =>
    obtain ⟨z, hz, rfl⟩ := h i y e
    rw [hz]
    rfl
theorem int_at {ns : List Int} {i : Nat} {x : V} (h : (ns.map V.int)[i]? = some x) : ∃ z, ns[i]? = some z ∧ x = V.int z := by
  rw [List.getElem?_map] at h
  cases e : ns[i]? with
  | none => rw [e] at h; cases h
  | some z =>
    rw [e] at h
    exact ⟨z, rfl, (Option.some.inj h).symm⟩
theorem ok_deck {f : Addr} {fd : FuncData} (F : Fn K mg "_law_dealt" s__law_dealt ["_law_script"] f fd) (B : Blt mg) : FnOk P w K mg base CX0 1 f fd ["_law_script"] (spDeck K) := by
  refine F.F.ok sc__law_dealt (fun vs H Q E h => ?_) (fun cdv A outer s H vs Q E hr h => ?_)
  · obtain ⟨a, ns, rfl, _⟩ := h
    rfl
  · obtain ⟨a, ns, rfl, hS, hlen, q⟩ := h
    refine ⟨_, (pss_cons (ps_set (i := 1) sc__law_dealt.nd rfl (.inl rfl) pe_int)
      (pss_cons (ps_for PassesOwn.never rfl (pi_list (pe_slice sl_list (pv 0) po_none (po_some pe_int))) (pg_name (i := 2) sc__law_dealt.nd rfl (Or.inl rfl))
      (pss_one (ps_set (i := 1) sc__law_dealt.nd rfl (.inl rfl) (pe_op op_mod (pe_callTy call_int1 (by rfl) B.n_int (by decide +kernel) (pa_cons (pe_op op_add (pe_op op_add (pe_op op_mul (pv 1) pe_int) (pe_op op_mod (pe_callTy call_int1 (by rfl) B.n_int (by decide +kernel) (pa_cons (pv 2) pa_nil)) pe_int)) pe_int) pa_nil)) pe_int))))
      (pss_one (ps_ret (pe_disp (pps_cons pe_str (pe_revL (pe_callTy call_list_of (by rfl) B.n_list (by decide +kernel) (pa_cons (pe_slice sl_list (pv 0) po_none (po_some pe_int)) pa_nil))) (pps_cons pe_str (pv 1) (pps_cons pe_str pe_int pps_nil))) (by rfl) (by rfl) (fun z => by cases z) (by decide)))))), ?_⟩
    have c63 := cutV63 hlen
    -- the mixed number
    refine ⟨_, rfl, 63, rfl, a, _, rfl, hS, fun u hu => ?_⟩
    rw [c63]
    refine ⟨u, rfl, ⟨_, SqL.of upd_same⟩, ?_⟩
    refine for_list (K := K) (a := u) (xs := ns.map V.int) (fun i σ H2 => ∃ (m : Int) (x : Option V), σ = [some (.ref a), some (.int m), x] ∧ Same H H2 ∧ H2 u = some (.lst (ns.map V.int))) ⟨_, none, rfl, same_new hu, upd_same⟩ (fun i σ H2 _ z => ?_) ?_ ?_
    · obtain ⟨_, _, _, _, e⟩ := z
      exact SqL.of e
    · rintro i x σ H2 hx ⟨m, y, rfl, sm, e⟩
      obtain ⟨z, _, rfl⟩ := int_at hx
      refine ⟨_, rfl, _, _, rfl, rfl, .inr ⟨by decide, by decide⟩, ?_⟩
      refine ⟨_, rfl, .inl ⟨z, rfl, _, _, rfl, rfl, (by show (0 : Int) < 2147483563; decide), _, _, rfl, rfl, _, _, rfl, rfl, .inl ⟨_, rfl, _, _, rfl, rfl, (by show (0 : Int) < 2147483629; decide), ?_⟩⟩⟩
      exact ⟨_, _, rfl, sm, e⟩
    · rintro σ H2 ⟨m, x, rfl, sm, e⟩
      -- the dict
      intro p hp
      have nHp : H p = none := sm.free hp
      have sm2 : Same H (upd H2 p (.dK [])) := sm.trans (same_new hp)
      refine ⟨_, rfl, 63, rfl, a, _, rfl, sm2.seq hS, fun v hv => ?_⟩
      rw [c63]
      have npv : p ≠ v := fun z => by rw [← z, upd_same] at hv; cases hv
      have sm3 := sm2.trans (same_new (o := .lst (ns.map V.int)) hv)
      have p3 : upd (upd H2 p (.dK [])) v (.lst (ns.map V.int)) p = some (.dK []) := by rw [upd_ne npv, upd_same]
      refine ⟨v, _, rfl, .inl (SqL.of upd_same), fun D hD => ?_⟩
      generalize upd (upd H2 p (.dK [])) v (.lst (ns.map V.int)) = H3 at sm3 p3 hD ⊢
      have nDp : p ≠ D := ne_of_none p3 hD
      refine ⟨D, _, rfl, SqL.of upd_same, fun R hR => ?_⟩
      have sm4 := sm3.trans (same_new (o := .lst (ns.map V.int)) hD)
      have p4 : upd H3 D (.lst (ns.map V.int)) p = some (.dK []) := by rw [upd_ne nDp]; exact p3
      generalize upd H3 D (.lst (ns.map V.int)) = H4 at sm4 p4 hR ⊢
      have hRp : p ≠ R := ne_of_none p4 hR
      refine ⟨_, rfl, ?_⟩
      refine ⟨by rw [upd_ne hRp]; exact p4, dkL R m 0, rfl, by show 3 ≤ 15; decide, ?_⟩
      rw [merge_d]
      have nR : H R = none := sm4.free hR
      refine q p R _ nHp nR (fun b o e => ?_) ⟨m, 0, ns.reverse, upd_same, ?_, by rw [List.length_reverse]; exact hlen⟩
      · rw [upd_ne (ne_of_none e nHp), upd_ne (ne_of_none e nR)]
        exact sm4 b o e
      · rw [upd_ne hRp.symm, upd_same, List.map_reverse]
end
theorem dget {H : Hp} {a : Addr} {kvs : List (Key × V)} {k : Key} {v : V} (e : H a = some (.dK kvs)) (h : valV kvs k = some v) : DGet H a (kV k) (some v) := h ▸ DGet.k e
theorem ne_nil_ints (cs : List Int) : (!PyData.eqv (.list (cs.map PyData.int)) (.list [])) = decide (cs ≠ []) := by
  cases cs <;> simp [PyData.eqv, PyData.eqvAll]
section
variable {P : Program} {w : World} {K : PySem.W.Frag} {mg : Str → Option Value} {base : Heap} {tn tw tb : Tok}
def spDraw : Sp := fun vs H Q _ => ∃ (p c : Addr) (n : Int), vs = [.ref p, .int n] ∧ Dk p c H ∧ 1 ≤ n ∧ n ≤ 1000000 ∧ ∀ (r : Nat) H', (r : Int) < n → Gx p c H H' → Q (.int (r : Int)) H'
theorem nat_mod {x n : Int} (h : 1 ≤ n) : ∃ r : Nat, x % n = (r : Int) ∧ (r : Int) < n := by
  refine ⟨(x % n).toNat, ?_, ?_⟩
  · have := Int.emod_nonneg x (by omega : n ≠ 0)
    omega
  · have h1 := Int.emod_nonneg x (by omega : n ≠ 0)
    have h2 := Int.emod_lt_of_pos x (by omega : 0 < n)
    omega
theorem ok_draw {f : Addr} {fd : FuncData} (F : Fn K mg "_law_draw" s__law_draw ["_law_deck", "_law_many"] f fd) (B : Blt mg) : FnOk P w K mg base CX0 1 f fd ["_law_deck", "_law_many"] spDraw := by
  refine F.F.ok sc__law_draw (fun vs H Q E h => ?_) (fun cdv A outer s H vs Q E hr h => ?_)
  · obtain ⟨p, c, n, rfl, _⟩ := h
    rfl
  · obtain ⟨p, c, n, rfl, dk, n1, n2, q⟩ := h
    have hu := hu_of hr
    refine ⟨_, (pss_cons (ps_dput hu (pv 0) pe_str (pe_op op_add (pe_dget hu (pv 0) pe_str (fun _ _ => rfl)) pe_int) rfl)
      (pss_cons (ps_set (i := 2) sc__law_draw.nd rfl (.inl rfl) (pe_op op_add (pe_dget hu (pv 0) pe_str (fun _ _ => rfl)) (pe_op op_mul pe_int (pe_dget hu (pv 0) pe_str (fun _ _ => rfl)))))
      (C8.pss_cut (ps_if (pt_cmpR (op_neD hr.units) (pe_dget hu (pv 0) pe_str (fun _ _ => rfl)) (pe_lst pa_nil) (nomark _))
      (pss_cons (ps_set (i := 3) sc__law_draw.nd rfl (.inl rfl) (pe_bm0 PySem.F.plainAttrs_list PySem.F.slot_list_pop PySem.F.type_list_pop mt_pop (pe_dget hu (pv 0) pe_str (fun _ _ => rfl))))
        (pss_cons (ps_if (pt_cmpR op_ge (pv 3) (pe_op op_pow pe_int pe_int) (nomark _))
        (pss_cons (ps_expr (pe_bm PySem.F.plainAttrs_list PySem.F.slot_list_append PySem.F.type_list_append mt_append (pe_dget hu (pv 0) pe_str (fun _ _ => rfl)) (pa_cons (pe_op op_fdiv (pv 3) (pe_callB (call_max2 rfl) (by rfl) B.n_max (by decide +kernel) (pa_cons pe_int (pa_cons (pv 1) pa_nil)))) pa_nil)))
          (pss_one (ps_ret (pe_op op_mod (pe_callTy call_int1 (by rfl) B.n_int (by decide +kernel) (pa_cons (pv 3) pa_nil)) (pv 1)))))
        pss_nil)
        (pss_one (ps_set (i := 2) sc__law_draw.nd rfl (.inl rfl) (pe_op op_add (pv 2) (pe_op op_mod (pe_callTy call_int1 (by rfl) B.n_int (by decide +kernel) (pa_cons (pv 3) pa_nil)) pe_int))))))
      pss_nil)
      (pss_cons (ps_set (i := 2) sc__law_draw.nd rfl (.inl rfl) (pe_op op_mod (pe_callTy call_int1 (by rfl) B.n_int (by decide +kernel) (pa_cons (pe_op op_add (pe_op op_mul (pv 2) pe_int) pe_int) pa_nil)) pe_int))
      (pss_cons (ps_set (i := 2) sc__law_draw.nd rfl (.inl rfl) (pe_op op_mod (pe_callTy call_int1 (by rfl) B.n_int (by decide +kernel) (pa_cons (pe_op op_add (pe_op op_add (pe_op op_mul (pv 2) (pv 2)) (pe_op op_mul pe_int (pe_dget hu (pv 0) pe_str (fun _ _ => rfl)))) pe_int) pa_nil)) pe_int))
      (pss_one (ps_ret (pe_op op_mod (pe_callTy call_int1 (by rfl) B.n_int (by decide +kernel) (pa_cons (pe_op op_fdiv (pe_op op_mod (pe_callTy call_int1 (by rfl) B.n_int (by decide +kernel) (pa_cons (pe_op op_mul (pv 2) pe_int) pa_nil)) pe_int) pe_int) pa_nil)) (pv 1))))))))), ?_⟩
    obtain ⟨m, t, cs, h1, h2, h3⟩ := id dk
    have fin : ∀ (x : Int) (H2 : Hp), Gx p c H H2 → Q (.int (x % n)) H2 := by
      intro x H2 g
      obtain ⟨r, er, hr'⟩ := nat_mod (x := x) n1
      rw [er]
      exact q r H2 hr' g
    have npc : p ≠ c := ne_of h1 h2 (by intro z; cases z)
    -- turn
    refine ⟨_, rfl, p, _, rfl, dget (k := kT) h1 v_T, _, _, rfl, rfl, _, rfl, p, _, rfl, DPut.k (k := kT) h1 (by rw [sizeLine_eq]; show 3 < _; decide), ?_⟩
    rw [put_T]
    have g1 : Gx p c H (upd H p (.dK (dkL c m (t + 1)))) := ⟨fun b o b1 _ e => by rw [upd_ne b1]; exact e, ⟨m, t + 1, cs, upd_same, by rw [upd_ne npc.symm]; exact h2, h3⟩⟩
    generalize upd H p (.dK (dkL c m (t + 1))) = H1 at g1
    obtain ⟨m1, t1, cs1, k1, k2, k3⟩ := g1.2
    -- the figure
    refine ⟨_, rfl, p, _, rfl, dget (k := kM) k1 v_M, _, rfl, p, _, rfl, dget (k := kT) k1 v_T, _, _, rfl, rfl, .inl ⟨by decide, by decide⟩, _, _, rfl, rfl, ?_⟩
    refine ⟨fun σ H' => ∃ (fig : Int) (x3 : Option V), σ = [some (.ref p), some (.int n), some (.int fig), x3] ∧ Gx p c H H', ?_, ?_⟩
    · refine ⟨_, rfl, p, _, rfl, dget (k := kC) k1 v_C, Nat.zero_le _, fun z hz => ?_⟩
      have dk1 : Dk p c H1 := g1.2
      have nz := dk1.ne hz
      have k1' : upd H1 z (.lst []) p = some (.dK (dkL c m1 t1)) := by rw [upd_ne nz.1.symm]; exact k1
      have k2' : upd H1 z (.lst []) c = some (.lst (cs1.map V.int)) := by rw [upd_ne nz.2.symm]; exact k2
      have g2 : Gx p c H (upd H1 z (.lst [])) := g1.trans (Gx.new dk1 hz)
      refine ⟨.list (cs1.map .int), .list [], .lst (SqL.of k2') (dpIntsG cs1), .lst (SqL.of upd_same) .nil, shaped_ints cs1, shaped_ints [], _, rfl, ?_⟩
      rw [ne_nil_ints]
      refine ite2 (fun h => ?_) (fun h => ?_)
      · have hne : cs1 ≠ [] := of_decide_eq_true h
        obtain ⟨ini, cell, rfl⟩ : ∃ ini cell, cs1 = ini ++ [cell] := ⟨_, _, (List.dropLast_concat_getLast hne).symm⟩
        refine ⟨_, rfl, p, _, rfl, dget (k := kC) k1' v_C, .inl ⟨rfl, _, SqL.of k2'⟩, c, _, .int cell, rfl, rfl, k2', by simp, ?_⟩
        have ed : ((ini ++ [cell]).map V.int).dropLast = ini.map V.int := by simp
        rw [ed]
        rw [List.length_append, List.length_singleton] at k3
        have k1'' : upd (upd H1 z (.lst [])) c (.lst (ini.map V.int)) p = some (.dK (dkL c m1 t1)) := by rw [upd_ne npc]; exact k1'
        have putc : ∀ (xs : List Int) (H2 : Hp), (∀ b, b ≠ c → H2 b = upd H1 z (.lst []) b) → xs.length ≤ 63 → Gx p c H (upd H2 c (.lst (xs.map V.int))) := by
          intro xs H2 hb hx
          refine ⟨fun b o b1 b2 e => ?_, ⟨m1, t1, xs, ?_, upd_same, hx⟩⟩
          · rw [upd_ne b2, hb b b2]
            exact g2.1 b o b1 b2 e
          · rw [upd_ne npc, hb p npc]
            exact k1'
        refine ⟨_, rfl, _, _, rfl, rfl, ⟨by decide, by decide, by decide⟩, _, _, rfl, rfl, _, rfl, ?_⟩
        refine ite2 (fun h => ?_) (fun h => ?_)
        · refine ⟨_, rfl, p, _, rfl, dget (k := kC) k1'' v_C, .inl ⟨rfl, _, SqL.of upd_same⟩, _, rfl, _, rfl, 2, n, rfl, _, _, rfl, rfl, ?_, c, _, _, rfl, rfl, upd_same, ?_, ?_⟩
          · show (0 : Int) < (if n > 2 then n else 2) ∧ (if n > 2 then n else 2) < 1073741824
            split <;> omega
          · rw [List.length_map, sizeLine_eq]; omega
          refine ⟨_, rfl, .inl ⟨_, rfl, _, rfl, _, _, rfl, rfl, (by show (0 : Int) < n; omega), ?_⟩⟩
          refine fin cell _ ?_
          have e2 : ini.map V.int ++ [V.int (cell / (if n > 2 then n else 2))] = (ini ++ [cell / (if n > 2 then n else 2)]).map V.int := by simp
          show Gx p c H (upd _ c (.lst (ini.map V.int ++ [V.int (cell / (if n > 2 then n else 2))])))
          rw [e2]
          exact putc _ _ (fun b hb => by rw [upd_ne hb]) (by simp; omega)
        · refine ⟨_, rfl, _, rfl, .inl ⟨_, rfl, _, _, rfl, rfl, (by show (0 : Int) < 2147483563; decide), _, _, rfl, rfl, _, _, rfl, putc _ _ (fun b hb => rfl) (by omega)⟩⟩
      · exact ⟨_, _, rfl, g2⟩
    · rintro σ H2 ⟨fig, x3, rfl, g2⟩
      obtain ⟨m2, t2, cs2, j1, j2, j3⟩ := g2.2
      refine ⟨_, rfl, _, _, rfl, rfl, .inr ⟨by decide, by decide⟩, _, _, rfl, rfl, .inl ⟨_, rfl, _, _, rfl, rfl, (by show (0 : Int) < 2147483587; decide), ?_⟩⟩
      have b1 := Int.emod_nonneg (fig * 48271 + 17) (by decide : (2147483587 : Int) ≠ 0)
      have b2 := Int.emod_lt_of_pos (fig * 48271 + 17) (by decide : (0 : Int) < 2147483587)
      generalize (fig * 48271 + 17) % 2147483587 = f1 at b1 b2
      refine ⟨_, rfl, _, rfl, _, _, rfl, rfl, .inl ⟨by omega, by omega⟩, _, rfl, p, _, rfl, dget (k := kT) j1 v_T, _, _, rfl, rfl, .inl ⟨by decide, by decide⟩, _, _, rfl, rfl, _, _, rfl, rfl, .inl ⟨_, rfl, _, _, rfl, rfl, (by show (0 : Int) < 2147483647; decide), ?_⟩⟩
      refine ⟨_, rfl, _, _, rfl, rfl, .inr ⟨by decide, by decide⟩, .inl ⟨_, rfl, _, _, rfl, rfl, (by show (0 : Int) < 2147483629; decide), _, _, rfl, rfl, ⟨by decide, by decide⟩, .inl ⟨_, rfl, _, rfl, _, _, rfl, rfl, (by show (0 : Int) < n; omega), ?_⟩⟩⟩
      exact fin _ H2 g2
/-- _law_pick: any item of a list that the deck is not, any sign of a text -/
def spPick : Sp := fun vs H Q _ => ∃ (p c : Addr) (v : V), vs = [.ref p, v] ∧ Dk p c H ∧
  ((∃ (a : Addr) (xs : List V), v = .ref a ∧ At p c H a (.lst xs) ∧ 1 ≤ xs.length ∧ xs.length ≤ 100000 ∧ ∀ (r : Nat) x H', xs[r]? = some x → Gx p c H H' → Q x H') ∨
   ∃ z : List Nat, v = .str (S z) ∧ 1 ≤ z.length ∧ z.length ≤ 1000 ∧ ∀ (r : Nat) d H', z[r]? = some d → Gx p c H H' → Q (.str (S [d])) H')
theorem ok_pick {f f1 : Addr} {fd fd1 : FuncData} (F : Fn K mg "_law_pick" s__law_pick ["_law_deck", "_law_some"] f fd) (B : Blt mg) (F__law_draw : Fn K mg "_law_draw" s__law_draw ["_law_deck", "_law_many"] f1 fd1) :
    FnOk P w K mg base CX0 2 f fd ["_law_deck", "_law_some"] spPick := by
  have G__law_draw : FnOk P w K mg base CX0 1 f1 fd1 ["_law_deck", "_law_many"] spDraw := ok_draw F__law_draw B
  refine F.F.ok sc__law_pick (fun vs H Q E h => ?_) (fun cdv A outer s H vs Q E hr h => ?_)
  · obtain ⟨p, c, v, rfl, _⟩ := h
    rfl
  · obtain ⟨p, c, v, rfl, dk, h⟩ := h
    refine ⟨_, (pss_one (ps_ret (pe_ix ix_seq (pv 1) (pe_call G__law_draw (hr.mono (by decide)) (by rfl) F__law_draw.g F__law_draw.F.kp F__law_draw.b .nil pass0 (pa_cons (pv 0) (pa_cons (pe_callB call_len (by rfl) B.n_len PySem.boot_len (pa_cons (pv 1) pa_nil)) pa_nil))) (fun _ _ => rfl)))), ?_⟩
    rcases h with ⟨a, xs, rfl, ha, hl1, hl2, q⟩ | ⟨z, rfl, hl1, hl2, q⟩
    · refine ⟨_, rfl, _, rfl, _, rfl, .ref a, xs.length, rfl, .inl ⟨xs, SqL.of ha.2.2, rfl⟩, p, c, _, rfl, dk, by omega, by omega, fun r H' hr' g => ?_⟩
      have hlt : r < xs.length := by omega
      exact .inl ⟨a, xs, _, _, rfl, rfl, SqL.of (ha.gx g).2.2, atI_nat (List.getElem?_eq_getElem hlt), q r _ H' (List.getElem?_eq_getElem hlt) g⟩
    · refine ⟨_, rfl, _, rfl, _, rfl, .str (S z), z.length, rfl, ⟨sz (by rw [S_len]; omega), by rw [S_len]⟩, p, c, _, rfl, dk, by omega, by omega, fun r H' hr' g => ?_⟩
      have hlt : r < z.length := by omega
      have hz : (S z).cps.toList[r]? = some z[r] := List.getElem?_eq_getElem hlt
      exact .inr (.inr ⟨S z, _, _, rfl, rfl, sz (by rw [S_len]; omega), atI_nat hz, q r _ H' (List.getElem?_eq_getElem hlt) g⟩)
end
end Ag

end
/-! ## Dt -/
section
set_option linter.all false
set_option maxRecDepth 100000
namespace Ag
open PySem PySem.Spec PyProof.Rows L2
/-! ### data, where tables may be written too -/
def Kt (p c : Addr) (H H' : Hp) : Prop := ∀ b o, b ≠ p → b ≠ c → (∀ ps, o ≠ .tbl ps) → H b = some o → H' b = some o
section
variable {p c : Addr} {H H1 H' : Hp}
theorem Kt.refl : Kt p c H H := fun _ _ _ _ _ e => e
theorem Kt.trans (a : Kt p c H H1) (b : Kt p c H1 H') : Kt p c H H' := fun x o h1 h2 n e => b x o h1 h2 n (a x o h1 h2 n e)
theorem Kt.of (g : Kp p c H H') : Kt p c H H' := fun b o h1 h2 _ e => g b o h1 h2 e
theorem Kt.ext (g : LamX.ExtN H H') : Kt p c H H' := fun b o _ _ n e => g b o e n
theorem At.kt {a : Addr} {o : HO} (g : Kt p c H H') (h : At p c H a o) (n : ∀ ps, o ≠ .tbl ps) : At p c H' a o := ⟨h.1, h.2.1, g a o h.1 h.2.1 n h.2.2⟩
mutual
theorem Dg.ktr (g : Kt p c H H') : ∀ (d : PyData) (v : V), Dg p c H v d → Dg p c H' v d
  | .none, _, h => by cases h; exact .non
  | .bool _, _, h => by cases h; exact .bl _
  | .int _, _, h => by cases h; exact .int _
  | .str _, _, h => by cases h; exact .str _
  | .list ds, _, h => by
    cases h with
    | lst a b => exact .lst (a.kt g fun _ z => by cases z) (DgA.ktr g ds _ b)
  | .tuple ds, _, h => by
    cases h with
    | tup a b => exact .tup (a.kt g fun _ z => by cases z) (DgA.ktr g ds _ b)
  | .dict ds, _, h => by
    cases h with
    | dic a b => exact .dic (a.kt g fun _ z => by cases z) (DgK.ktr g ds _ b)
theorem DgA.ktr (g : Kt p c H H') : ∀ (ds : List PyData) (vs : List V), DgA p c H vs ds → DgA p c H' vs ds
  | [], _, h => by cases h; exact .nil
  | d :: ds, _, h => by
    cases h with
    | cons a b => exact .cons (Dg.ktr g d _ a) (DgA.ktr g ds _ b)
theorem DgK.ktr (g : Kt p c H H') : ∀ (ds : List (PyData × PyData)) (vs : List (Key × V)), DgK p c H vs ds → DgK p c H' vs ds
  | [], _, h => by cases h; exact .nil
  | (_, d) :: ds, _, h => by
    cases h with
    | cons a b => exact .cons (Dg.ktr g d _ a) (DgK.ktr g ds _ b)
end
theorem Dg.kt {v : V} {d : PyData} (h : Dg p c H v d) (g : Kt p c H H') : Dg p c H' v d := Dg.ktr g d v h
end
end Ag

end
/-! ## MX -/
section
namespace Ag
end Ag

end
/-! ## W0 -/
section
set_option linter.all false
set_option maxRecDepth 100000
set_option maxHeartbeats 1000000
namespace Ag
open PySem PySem.Spec PyProof.Rows L2
/-! ### views as they come about -/
structure Vw where
  h : Str
  bt : Option Nat
  bs : List Str
  an : List Nat
  aw : Option Nat
  up : Option Nat
  br : Bool
def nV : Option Nat → V
  | none => .non
  | some k => .int (k : Int)
def nD : Option Nat → PyData
  | none => .none
  | some k => .int (k : Int)
def stS (b : Bool) : Str := if b = true then Str.ofString "broken" else Str.ofString "open"
def bsV (bs : List Str) : List V := bs.map V.str
def anV (an : List Nat) : List V := an.map fun k => V.int ((k : Nat) : Int)
def bsD (bs : List Str) : List PyData := bs.map PyData.str
def anD (an : List Nat) : List PyData := an.map fun k => PyData.int ((k : Nat) : Int)
def xsV (x : Vw) (b n : Addr) : List V := [.str x.h, nV x.bt, .ref b, .ref n, nV x.aw, nV x.up, .str (stS x.br)]
def vwD (x : Vw) : PyData := .tuple [.str x.h, nD x.bt, .tuple (bsD x.bs), .tuple (anD x.an), nD x.aw, nD x.up, .str (stS x.br)]
structure VwA (H : Hp) (a b n : Addr) (x : Vw) : Prop where
  a : H a = some (.tup (xsV x b n))
  b : H b = some (.tup (bsV x.bs))
  n : H n = some (.tup (anV x.an))
/-- tuples stay -/
def Ts (H H' : Hp) : Prop := ∀ a xs, H a = some (.tup xs) → H' a = some (.tup xs)
theorem Ts.refl {H : Hp} : Ts H H := fun _ _ e => e
theorem Ts.trans {H H1 H2 : Hp} (a : Ts H H1) (b : Ts H1 H2) : Ts H H2 := fun x xs e => b x xs (a x xs e)
theorem Ts.of {H H' : Hp} (s : Same H H') : Ts H H' := fun a xs e => s _ _ e
theorem Ts.kt {p c : Addr} {H H' : Hp} (d : Dk p c H) (g : Kt p c H H') : Ts H H' := fun a xs e => by
  obtain ⟨m, t, cs, h1, h2, _⟩ := d
  exact g a _ (fun z => by rw [z, h1] at e; cases e) (fun z => by rw [z, h2] at e; cases e) (fun _ z => by cases z) e
theorem Ts.gx {p c : Addr} {H H' : Hp} (d : Dk p c H) (g : Gx p c H H') : Ts H H' := Ts.kt d (Kt.of g.1)
theorem Ts.put {H : Hp} {L : Addr} {ys : List V} {o : HO} (h : H L = some (.lst ys)) : Ts H (upd H L o) := fun a xs e => by
  rw [upd_ne (fun z => by rw [z, h] at e; cases e)]
  exact e
section
variable {H H' : Hp} {a b n p c : Addr} {x : Vw}
theorem VwA.to (v : VwA H a b n x) (t : Ts H H') : VwA H' a b n x := ⟨t _ _ v.a, t _ _ v.b, t _ _ v.n⟩
theorem Dk.tp {xs : List V} (d : Dk p c H) (e : H a = some (.tup xs)) : At p c H a (.tup xs) := by
  obtain ⟨m, t, cs, h1, h2, _⟩ := d
  exact ⟨fun z => (by rw [z, h1] at e; cases e), fun z => (by rw [z, h2] at e; cases e), e⟩
theorem nV_dg (o : Option Nat) : Dg p c H (nV o) (nD o) := by
  cases o with
  | none => exact .non
  | some k => exact .int _
theorem bs_dg : ∀ bs : List Str, DgA p c H (bsV bs) (bsD bs)
  | [] => .nil
  | s :: r => .cons (.str s) (bs_dg r)
theorem an_dg : ∀ an : List Nat, DgA p c H (anV an) (anD an)
  | [] => .nil
  | s :: r => .cons (.int _) (an_dg r)
theorem VwA.dgA (v : VwA H a b n x) (d : Dk p c H) : DgA p c H (xsV x b n) [.str x.h, nD x.bt, .tuple (bsD x.bs), .tuple (anD x.an), nD x.aw, nD x.up, .str (stS x.br)] :=
  .cons (.str _) (.cons (nV_dg _) (.cons (.tup (d.tp v.b) (bs_dg _)) (.cons (.tup (d.tp v.n) (an_dg _)) (.cons (nV_dg _) (.cons (nV_dg _) (.cons (.str _) .nil))))))
theorem VwA.dg (v : VwA H a b n x) (d : Dk p c H) : Dg p c H (.ref a) (vwD x) := .tup (d.tp v.a) (v.dgA d)
end
/-- a view that is one, and not too great -/
structure Vw.ok (x : Vw) (m : Nat) : Prop where
  v : viewB (vwD x) = true
  l : x.bs.length ≤ m
  n : x.an.length ≤ m
  an9 : ∀ k ∈ x.an, k ≤ 1000000000
  bt9 : ∀ k, x.bt = some k → k ≤ 1000000000
  aw9 : ∀ k, x.aw = some k → k ≤ 1000000000
  up9 : ∀ k, x.up = some k → k ≤ 1000000000
theorem gd_nD {q : Bool} {o : Option Nat} (h : ∀ k, o = some k → k ≤ 1000000000) : Gd q (nD o) 0 0 := by
  cases o with
  | none => exact .non
  | some k => exact .int (by have := h k rfl; simp only [intOk, Bool.and_eq_true, decide_eq_true_eq]; omega)
theorem gd_an {q : Bool} : ∀ {an : List Nat}, (∀ k ∈ an, k ≤ 1000000000) → GdA q (anD an) 0 an.length
  | [], _ => .nil
  | k :: r, h => .cons (b1 := 0) (b2 := r.length) (.int (by have := h k List.mem_cons_self; simp only [intOk, Bool.and_eq_true, decide_eq_true_eq]; omega)) (gd_an fun j hj => h j (List.mem_cons_of_mem _ hj)) (by rw [List.length_cons]; omega)
end Ag

end
/-! ## W1 -/
section
set_option linter.all false
set_option maxRecDepth 100000
set_option maxHeartbeats 1000000
namespace Ag
open PySem PySem.Spec PyProof.Rows L2
open SX (S S_len S_cat S_inj)
/-! ### what news make of a view (mathematics) -/
theorem bs_len (bs : List Str) : lenT (.tuple (bsD bs)) = bs.length := by
  show (bsD bs).length = _
  unfold bsD
  rw [List.length_map]
theorem vw_parts {x : Vw} (h : viewB (vwD x) = true) : wordB (.str x.h) = true ∧ (bsD x.bs).all bodyB = true ∧ seenB x.bs.length (nD x.bt) (.tuple (anD x.an)) (nD x.aw) (nD x.up) = true := by
  unfold vwD at h
  simp only [viewB, Bool.and_eq_true] at h
  obtain ⟨⟨h1, _⟩, h2, h3⟩ := h
  refine ⟨h1, h2, ?_⟩
  rw [bs_len] at h3
  exact h3
theorem st_ok (b : Bool) : stB (.str (stS b)) = true := by cases b <;> decide +kernel
theorem vw_view {x : Vw} (h1 : wordB (.str x.h) = true) (h2 : (bsD x.bs).all bodyB = true) (h3 : seenB x.bs.length (nD x.bt) (.tuple (anD x.an)) (nD x.aw) (nD x.up) = true) : viewB (vwD x) = true := by
  unfold vwD
  simp only [viewB, Bool.and_eq_true]
  refine ⟨⟨h1, st_ok _⟩, h2, ?_⟩
  rw [bs_len]
  exact h3
theorem body_ok {s : Str} (h : bodyB (.str s) = true) : strOkB s = true ∧ s.cps.size ≤ 150 := by
  simp only [bodyB, Bool.and_eq_true, decide_eq_true_eq] at h
  have h2 : s.cps.toList.all (· < 128) = true := by
    rw [List.all_eq_true]
    intro c hc
    have := List.all_eq_true.mp (show s.cps.toList.all (fun c => decide (32 ≤ c) && decide (c ≤ 126)) = true from h.2) c hc
    simp only [Bool.and_eq_true, decide_eq_true_eq] at this
    exact decide_eq_true (by omega)
  have h3 : s.cps.size ≤ 150 := by have := h.1; simpa using this
  refine ⟨?_, h3⟩
  unfold strOkB
  rw [h2, Bool.true_and, decide_eq_true_eq]
  omega
theorem word_ok {s : Str} (h : wordB (.str s) = true) : strOkB s = true ∧ s.cps.size ≤ 10 := by
  simp only [wordB, wordL, Bool.and_eq_true, decide_eq_true_eq] at h
  have h2 : s.cps.toList.all (· < 128) = true := by
    rw [List.all_eq_true]
    intro c hc
    have := List.all_eq_true.mp h.2 c hc
    simp only [azC, Bool.and_eq_true, decide_eq_true_eq] at this
    exact decide_eq_true (by omega)
  have h3 : s.cps.size ≤ 10 := by have := h.1.2; simpa using this
  refine ⟨?_, h3⟩
  unfold strOkB
  rw [h2, Bool.true_and, decide_eq_true_eq]
  omega
theorem gd_bs {q : Bool} : ∀ {bs : List Str}, (bsD bs).all bodyB = true → GdA q (bsD bs) 0 (bs.length * 151)
  | [], _ => .nil
  | s :: r, h => by
    have h : bodyB (.str s) = true ∧ (bsD r).all bodyB = true := by simpa [bsD] using h
    obtain ⟨h1, h2⟩ := body_ok h.1
    exact .cons (b1 := 150) (b2 := r.length * 151) (.str h1 h2) (gd_bs h.2) (by rw [List.length_cons]; omega)
/-- good enough to be shown -/
structure Vw.fit (x : Vw) : Prop where
  w : wordB (.str x.h) = true
  b : (bsD x.bs).all bodyB = true
  l : x.bs.length ≤ 41
  n : x.an.length ≤ 41
  an9 : ∀ k ∈ x.an, k ≤ 1000000000
  bt9 : ∀ k, x.bt = some k → k ≤ 1000000000
  aw9 : ∀ k, x.aw = some k → k ≤ 1000000000
  up9 : ∀ k, x.up = some k → k ≤ 1000000000
theorem Vw.ok.fit {x : Vw} {m : Nat} (o : x.ok m) (hm : m ≤ 41) : x.fit := by
  obtain ⟨h1, h2, _⟩ := vw_parts o.v
  exact ⟨h1, h2, Nat.le_trans o.l hm, Nat.le_trans o.n hm, o.an9, o.bt9, o.aw9, o.up9⟩
theorem Vw.fit.gd {x : Vw} (o : x.fit) (q : Bool) : Gd q (vwD x) 2 7000 := by
  have h1 := o.w
  have h2 := o.b
  obtain ⟨w1, w2⟩ := word_ok h1
  have l := o.l
  have n := o.n
  have l1 : (bsD x.bs).length ≤ 60 := by unfold bsD; rw [List.length_map]; omega
  have l2 : (anD x.an).length ≤ 60 := by unfold anD; rw [List.length_map]; omega
  have z : ∀ {o : Option Nat}, (∀ k, o = some k → k ≤ 1000000000) → Gd q (nD o) 1 0 := fun h => (gd_nD h).mono (by decide) (by decide)
  refine .tup (n := 1) (b := 7000) (.cons (b1 := 10) (b2 := 6900) (.str w1 w2) (.cons (b1 := 0) (b2 := 6800) (z o.bt9) (.cons (b1 := 6200) (b2 := 580) ((Gd.tup (gd_bs h2) l1).mono (by decide) (by omega)) (.cons (b1 := 60) (b2 := 500) ((Gd.tup (gd_an o.an9) l2).mono (by decide) (by omega)) (.cons (b1 := 0) (b2 := 400) (z o.aw9) (.cons (b1 := 0) (b2 := 300) (z o.up9) (.cons (b1 := 10) (b2 := 0) (.str ?_ ?_) .nil (by decide)) (by decide)) (by decide)) (by decide)) (by decide)) (by decide)) (by decide)) (Nat.le_of_ble_eq_true rfl)
  · cases x.br <;> decide +kernel
  · cases x.br <;> decide +kernel
theorem Vw.ok.gd {x : Vw} (o : x.ok 40) (q : Bool) : Gd q (vwD x) 2 7000 := (o.fit (by decide)).gd q
/-! more requests -/
theorem minE_mono {m k : Int} (h : m ≤ k) : ∀ l : List Int, minE m l ≤ minE k l
  | [] => h
  | x :: l => by
    have := minE_mono h l
    simp only [minE]
    omega
theorem cntB_mono {m k : Int} {d : PyData} (h : m ≤ k) (c : cntB m d = true) : cntB k d = true := by
  cases d with
  | tuple xs =>
    simp only [cntB, Bool.and_eq_true, List.all_eq_true] at c ⊢
    refine ⟨fun y hy => ?_, c.2⟩
    have := c.1 y hy
    cases y with
    | int i =>
      simp only [wholeB, Bool.and_eq_true, decide_eq_true_eq] at this ⊢
      omega
    | _ => simp [wholeB] at this
  | _ => simp [cntB] at c
theorem seenB_mono {m k : Nat} {bt an aw up : PyData} (h : m ≤ k) (s : seenB m bt an aw up = true) : seenB k bt an aw up = true := by
  unfold seenB at s ⊢
  split
  · rename_i e
    rw [if_pos e] at s
    exact s
  · rename_i e
    rw [if_neg e] at s
    simp only [Bool.and_eq_true, List.all_eq_true] at s ⊢
    obtain ⟨a1, a2, a3, a4⟩ := s
    refine ⟨a1, fun y hy => ?_, a3, cntB_mono (minE_mono (by omega) _) a4⟩
    have := a2 y hy
    unfold numE at this ⊢
    simp only [Bool.and_eq_true, decide_eq_true_eq] at this ⊢
    exact ⟨this.1, by omega⟩
def Vw.ask (x : Vw) (s : Str) : Vw := { x with bs := x.bs ++ [s] }
theorem Vw.ok.ask {x : Vw} {m : Nat} {s : Str} (o : x.ok m) (h : bodyB (.str s) = true) : (x.ask s).ok (m + 1) := by
  obtain ⟨h1, h2, h3⟩ := vw_parts o.v
  have l := o.l
  have n := o.n
  refine ⟨vw_view (x := x.ask s) h1 ?_ (seenB_mono (by show x.bs.length ≤ (x.bs ++ [s]).length; rw [List.length_append]; omega) h3), by show (x.bs ++ [s]).length ≤ _; rw [List.length_append]; simp; omega, by show x.an.length ≤ _; omega, o.an9, o.bt9, o.aw9, o.up9⟩
  show (bsD (x.bs ++ [s])).all bodyB = true
  unfold bsD at h2 ⊢
  rw [List.map_append, List.all_append, h2, Bool.true_and]
  simpa using h
/-! answers in their order -/
def insA (k : Nat) : List Nat → List Nat
  | [] => [k]
  | x :: l => if k < x then k :: x :: l else x :: insA k l
theorem insA_mem {k j : Nat} : ∀ {l : List Nat}, j ∈ insA k l ↔ j = k ∨ j ∈ l
  | [] => by simp [insA]
  | x :: l => by
    unfold insA
    split
    · simp
    · rw [List.mem_cons, insA_mem (l := l), List.mem_cons]
      constructor
      · rintro (h | h | h)
        · exact .inr (.inl h)
        · exact .inl h
        · exact .inr (.inr h)
      · rintro (h | h | h)
        · exact .inr (.inl h)
        · exact .inl h
        · exact .inr (.inr h)
theorem insA_len {k : Nat} : ∀ {l : List Nat}, (insA k l).length = l.length + 1
  | [] => rfl
  | x :: l => by
    unfold insA
    split
    · rfl
    · rw [List.length_cons, insA_len, List.length_cons]
theorem insA_asc {k : Nat} : ∀ {l : List Nat}, l.Pairwise (· < ·) → k ∉ l → (insA k l).Pairwise (· < ·)
  | [], _, _ => by simp [insA]
  | x :: l, h, hk => by
    rw [List.pairwise_cons] at h
    rw [List.mem_cons, not_or] at hk
    unfold insA
    split
    · rename_i lt
      rw [List.pairwise_cons, List.pairwise_cons]
      refine ⟨fun y hy => ?_, h.1, h.2⟩
      rcases List.mem_cons.mp hy with rfl | hy
      · exact lt
      · have := h.1 y hy
        omega
    · rename_i ge
      rw [List.pairwise_cons]
      refine ⟨fun y hy => ?_, insA_asc h.2 hk.2⟩
      rcases insA_mem.mp hy with rfl | hy
      · omega
      · exact h.1 y hy
theorem asc_int {l : List Nat} (h : l.Pairwise (· < ·)) : (l.map fun k => ((k : Nat) : Int)).Pairwise (· < ·) := by
  rw [List.pairwise_map]
  exact h.imp fun {a b} h => by omega
theorem an_asc {x : Vw} (h : viewB (vwD x) = true) : x.an.Pairwise (· < ·) := by
  obtain ⟨_, _, h3⟩ := vw_parts h
  unfold seenB at h3
  split at h3
  · simp only [Bool.and_eq_true] at h3
    cases e : x.an with
    | nil => exact List.Pairwise.nil
    | cons k r => rw [e] at h3; simp [isT0, anD] at h3
  · simp only [Bool.and_eq_true, cntB] at h3
    have h4 := (ascI_iff _).mp h3.2.2.2.2
    unfold anD at h4
    rw [List.map_map, List.pairwise_map] at h4
    exact h4.imp fun {a b} h => by
      have : ((a : Nat) : Int) < ((b : Nat) : Int) := h
      omega
/-! news -/
def asNat (d : PyData) : Nat := (asInt d).toNat
theorem whole_nat {lo hi : Int} {d : PyData} (h0 : 0 ≤ lo) (h : wholeB lo hi d = true) : d = .int ((asNat d : Nat) : Int) ∧ lo ≤ (asNat d : Int) ∧ (asNat d : Int) ≤ hi := by
  cases d with
  | int i =>
    simp only [wholeB, Bool.and_eq_true, decide_eq_true_eq] at h
    have e : ((asNat (.int i) : Nat) : Int) = i := by
      show ((i.toNat : Nat) : Int) = i
      omega
    rw [e]
    exact ⟨rfl, h⟩
  | _ => simp [wholeB] at h

def wS (n : Nat) : Str := match n with
  | 0 => Str.ofString "hello"
  | 1 => Str.ofString "answer"
  | 2 => Str.ofString "away"
  | _ => Str.ofString "well"
def newsB : PyData → Bool
  | .tuple [.str w] => decide (w = wS 3)
  | .tuple [.str w, d] => (decide (w = wS 0) || decide (w = wS 2)) && wholeB 0 1000000000 d
  | .tuple [.str w, d, e] => decide (w = wS 1) && (wholeB 1 1000000000 d && bodyB e)
  | _ => false
def newsV (x : Vw) : PyData → Option Vw
  | .tuple [.str _] => some x
  | .tuple [.str w, d] => if w = wS 0 then (if x.bt = none then some { x with bt := some (asNat d) } else none) else (if x.aw = none then some { x with aw := some (asNat d) } else none)
  | .tuple [.str _, d, _] => if asNat d ∈ x.an then none else some { x with an := insA (asNat d) x.an }
  | _ => none
theorem newsV_fit {x y : Vw} {d : PyData} (o : x.ok 40) (hn : newsB d = true) (h : newsV x d = some y) : y.fit := by
  have l := o.l
  have n := o.n
  obtain ⟨h1, h2, _⟩ := vw_parts o.v
  unfold newsB at hn
  split at hn
  · unfold newsV at h
    cases h
    exact o.fit (by decide)
  · rename_i w d
    rw [Bool.and_eq_true] at hn
    obtain ⟨e1, _, e2⟩ := whole_nat (by decide) hn.2
    simp only [newsV] at h
    split at h
    · split at h
      · cases h
        exact ⟨h1, h2, by show x.bs.length ≤ _; omega, by show x.an.length ≤ _; omega, o.an9, (fun k hk => by cases hk; omega), o.aw9, o.up9⟩
      · cases h
    · split at h
      · cases h
        exact ⟨h1, h2, by show x.bs.length ≤ _; omega, by show x.an.length ≤ _; omega, o.an9, o.bt9, (fun k hk => by cases hk; omega), o.up9⟩
      · cases h
  · rename_i w d e
    rw [Bool.and_eq_true, Bool.and_eq_true] at hn
    obtain ⟨e1, _, e2⟩ := whole_nat (by decide) hn.2.1
    simp only [newsV] at h
    split at h
    · cases h
    · cases h
      refine ⟨h1, h2, by show x.bs.length ≤ _; omega, by show (insA _ _).length ≤ _; rw [insA_len]; omega, fun k hk => ?_, o.bt9, o.aw9, o.up9⟩
      rcases insA_mem.mp hk with rfl | hk
      · omega
      · exact o.an9 k hk
  · cases hn
/-- what a call comes to -/
inductive Oc
  | ret (y : Vw)
  | bad (k : Nat) (t : PyData)
def askO (x : Vw) (d : PyData) : Oc := if bodyB d = true then (if x.br = true then .bad 4 (.str x.h) else match d with | .str s => .ret (x.ask s) | _ => .bad 0 d) else .bad 0 d
def heardO (x : Vw) (d : PyData) : Oc := if newsB d = true then (if x.br = true then .bad 4 (.str x.h) else match newsV x d with | some y => if viewB (vwD y) = true then .ret y else .bad 2 d | none => .bad 2 d) else .bad 1 d
def Vw.told (x : Vw) (k : Nat) : Vw := { x with up := some k }
def uptoO (x : Vw) (d : PyData) : Oc := if wholeB 0 1000000000 d = true then (if x.up = none ∧ viewB (vwD (x.told (asNat d))) = true then .ret (x.told (asNat d)) else .bad 2 d) else .bad 3 d
theorem newsV_ok {x y : Vw} {m : Nat} {d : PyData} (o : x.ok m) (hn : newsB d = true) (h : newsV x d = some y) (hv : viewB (vwD y) = true) : y.ok (m + 1) := by
  have l := o.l
  have n := o.n
  unfold newsB at hn
  split at hn
  · unfold newsV at h
    cases h
    exact ⟨o.v, by omega, by omega, o.an9, o.bt9, o.aw9, o.up9⟩
  · rename_i w d
    rw [Bool.and_eq_true] at hn
    obtain ⟨e1, _, e2⟩ := whole_nat (by decide) hn.2
    simp only [newsV] at h
    split at h
    · split at h
      · cases h
        exact ⟨hv, by show x.bs.length ≤ _; omega, by show x.an.length ≤ _; omega, o.an9, (fun k hk => by cases hk; omega), o.aw9, o.up9⟩
      · cases h
    · split at h
      · cases h
        exact ⟨hv, by show x.bs.length ≤ _; omega, by show x.an.length ≤ _; omega, o.an9, o.bt9, (fun k hk => by cases hk; omega), o.up9⟩
      · cases h
  · rename_i w d e
    rw [Bool.and_eq_true, Bool.and_eq_true] at hn
    obtain ⟨e1, _, e2⟩ := whole_nat (by decide) hn.2.1
    simp only [newsV] at h
    split at h
    · cases h
    · cases h
      refine ⟨hv, by show x.bs.length ≤ _; omega, by show (insA _ _).length ≤ _; rw [insA_len]; omega, fun k hk => ?_, o.bt9, o.aw9, o.up9⟩
      rcases insA_mem.mp hk with rfl | hk
      · omega
      · exact o.an9 k hk
  · cases hn
theorem Vw.ok.broken {x : Vw} {m : Nat} (o : x.ok m) : ({ x with br := true } : Vw).ok m := by
  obtain ⟨h1, h2, h3⟩ := vw_parts o.v
  exact ⟨vw_view (x := { x with br := true }) h1 h2 h3, o.l, o.n, o.an9, o.bt9, o.aw9, o.up9⟩
theorem Vw.ok.mono {x : Vw} {m k : Nat} (o : x.ok m) (h : m ≤ k) : x.ok k := ⟨o.v, Nat.le_trans o.l h, Nat.le_trans o.n h, o.an9, o.bt9, o.aw9, o.up9⟩
theorem told_fit {x : Vw} {k : Nat} (o : x.ok 40) (h : k ≤ 1000000000) : (x.told k).fit := by
  have f := o.fit (by decide)
  exact ⟨f.w, f.b, f.l, f.n, f.an9, f.bt9, f.aw9, fun j hj => by cases hj; exact h⟩
theorem askO_ok {x y : Vw} {m : Nat} {d : PyData} (o : x.ok m) (h : askO x d = .ret y) : y.ok (m + 1) := by
  unfold askO at h
  split at h
  · rename_i hb
    split at h
    · cases h
    · split at h
      · cases h
        exact o.ask hb
      · cases h
  · cases h
theorem heardO_ok {x y : Vw} {m : Nat} {d : PyData} (o : x.ok m) (h : heardO x d = .ret y) : y.ok (m + 1) := by
  unfold heardO at h
  split at h
  · rename_i hb
    split at h
    · cases h
    · split at h
      · rename_i z e
        split at h
        · rename_i hv
          cases h
          exact newsV_ok o hb e hv
        · cases h
      · cases h
  · cases h
theorem uptoO_ok {x y : Vw} {m : Nat} {d : PyData} (o : x.ok m) (h : uptoO x d = .ret y) : y.ok (m + 1) := by
  unfold uptoO at h
  split at h
  · rename_i hb
    obtain ⟨_, _, e2⟩ := whole_nat (by decide) hb
    split at h
    · rename_i hv
      cases h
      have l := o.l
      have n := o.n
      exact ⟨hv.2, by show x.bs.length ≤ _; omega, by show x.an.length ≤ _; omega, o.an9, o.bt9, o.aw9, fun k hk => by cases hk; omega⟩
    · cases h
  · cases h
end Ag

end
/-! ## KwX -/
section
set_option linter.all false
set_option maxRecDepth 100000
namespace Ag
open PySem PySem.Spec PyProof.Rows L2
section
variable {X : Cx} {CX : CXT} {k : Nat} {f : Addr} {fd : FuncData} {ps ks : List Str} {sp : Sp} {E : XK} {x : Str} {p pos : Pos} {t : TA} {gv : List Value → List Value} {gV : List V → List V} {kws : List Keyword}
def tKwE (sp : Sp) (n : Nat) (gV : List V → List V) (E : XK) (t : TA) : TE := fun σ H Q => t σ H fun zs H2 => zs.length = n ∧ sp (gV zs) H2 Q E
/-- f(k = e, ..), keywords alone, and what it lets out is taken -/
theorem pe_callKwX (F : FnOk X.prog X.w X.K X.mg X.base CX k f fd ps sp) (hr : Room k X.A) (hg : Gl X x) (hm : X.mg x = some (.ref f)) (hk : PySem.W.keepIn X.K (.ref f) = true) (hb : KwB X.K fd ps ks gv gV) (hx : Passes CX X E)
    (ha : PK X kws t) (hall : (backToKw pos (keywordEach kws X.env)).all (·.1.isSome) = true := by rfl) (hks : (backToKw pos (keywordEach kws X.env)).filterMap (·.1) = ks := by rfl) (hdb : (x == ("__debug__" : Str)) = false := by decide)
    (hpl : ((backTo pos (starEach [] X.env)).any (·.1) || (backToKw pos (keywordEach kws X.env)).any (·.1.isNone)) = false := by rfl) : PE X (.Call (.Name x p) [] kws pos) (tKwE sp ks.length gV E t) := by
  constructor
  intro pins s σ H Q I h
  refine wpAny_Call_Name_kw (ld_glob I hg hm (PySem.W.callWith_KW0 (h₀ := X.base) I.ok.mod.kin hk hall (thn (ha.run pos pins s σ H _ I h) ?_) hpl) hdb)
  rintro ws s2 ⟨zs, H2, I2, rz, l, q⟩
  refine ⟨I2.kIn, ?_⟩
  rw [hks]
  refine wpAny_call (codeAny_mono (F.run X.A X.stack s2 H2 ⟨[], ks.zip ws⟩ _ _ Q E hr I2.env0 (hb.to s2 ws (by rw [← rz.length]; exact l)) (hb.rel l rz) q) fun r s' hq => ?_)
  cases r with
  | error e => exact hx pins σ H2 s2 e s' I2 hq
  | ok fl =>
    cases fl with
    | ret u => exact I2.after hq
    | next => exact False.elim hq
    | brk => exact False.elim hq
    | cont => exact False.elim hq
end
end Ag

end
/-! ## P1 -/
section
set_option linter.all false
set_option maxRecDepth 100000
set_option maxHeartbeats 4000000
namespace Ag
open PySem PySem.Spec PyProof.Rows L2
open SX (S S_len S_cat S_inj)
/-! ### the program's calls on views -/
def OcP (cl : Nat → Addr) (p c : Addr) (H : Hp) (Q : VK) (E : XK) (o : Oc) : Prop := match o with
  | .ret y => ∀ a b n H', Same H H' → VwA H' a b n y → Q (.ref a) H'
  | .bad k t => ∀ v H', Same H H' → Dg p c H' v t → Rsd E (cl k) H' v
def spNew : Sp := fun vs H Q _ => ∃ s, vs = [.str s] ∧ wordB (.str s) = true ∧ ∀ a b n H', Same H H' → VwA H' a b n ⟨s, none, [], [], none, none, false⟩ → Q (.ref a) H'
def spAsk (cl : Nat → Addr) : Sp := fun vs H Q E => ∃ p c a b n x v d q nn bb, vs = [.ref a, v] ∧ Dk p c H ∧ VwA H a b n x ∧ x.ok 40 ∧ Dg p c H v d ∧ Gd q d nn bb ∧ OcP cl p c H Q E (askO x d)
def spUpto (cl : Nat → Addr) : Sp := fun vs H Q E => ∃ p c a b n x v d, vs = [.ref a, v] ∧ Dk p c H ∧ VwA H a b n x ∧ x.ok 40 ∧ Dg p c H v d ∧ OcP cl p c H Q E (uptoO x d)
def spBrk : Sp := fun vs H Q _ => ∃ p c a b n x, vs = [.ref a] ∧ Dk p c H ∧ VwA H a b n x ∧ x.ok 40 ∧ ∀ a' b' n' H', Same H H' → VwA H' a' b' n' { x with br := true } → Q (.ref a') H'
def fateS (lo hi k : Int) : Str := if k ≤ lo then Str.ofString "begun" else if hi < k then Str.ofString "not begun" else Str.ofString "open"
def spFate : Sp := fun vs H Q _ => ∃ p c a b n x, ∃ k : Nat, vs = [.ref a, .int (k : Int)] ∧ Dk p c H ∧ VwA H a b n x ∧ x.ok 40 ∧ 1 ≤ k ∧ k ≤ x.bs.length ∧ ∀ H', Same H H' → Q (.str (fateS (loD (vwD x)) (hiD (vwD x)) k)) H'
section
variable {P : Program} {w : World} {K : PySem.W.Frag} {mg : Str → Option Value} {base : Heap} {tn tw tb : Tok}
theorem ok_new {f f1 : Addr} {fd fd1 : FuncData} (F : Fn K mg "view_new" s_view_new ["house"] f fd) (B : Con mg tn tw tb) (F_is_word : Fn K mg "is_word" s_is_word ["thing"] f1 fd1) : FnOk P w K mg base CX0 2 f fd ["house"] spNew := by
  have G_is_word : FnOk P w K mg base CX0 1 f1 fd1 ["thing"] spWord := ok_is_word F_is_word B
  refine F.F.ok sc_view_new (fun vs H Q E h => ?_) (fun cdv A outer s H vs Q E hr h => ?_)
  · obtain ⟨s, rfl, _⟩ := h
    rfl
  · obtain ⟨s, rfl, hw, q⟩ := h
    obtain ⟨w1, w2⟩ := word_ok hw
    refine ⟨_, (pss_cons (ps_if (pt_not (pt_val (pe_call G_is_word (hr.mono (by decide)) (by rfl) F_is_word.g F_is_word.F.kp F_is_word.b .nil pass0 (pa_cons (pv 0) pa_nil))))
      (pss_one ps_never)
      pss_nil)
      (pss_one (ps_ret (pe_tup (pa_cons (pv 0) (pa_cons pe_non (pa_cons (pe_tup pa_nil) (pa_cons (pe_tup pa_nil) (pa_cons pe_non (pa_cons pe_non (pa_cons pe_str pa_nil))))))))))), ?_⟩
    refine ⟨_, rfl, 0, 0, .str s, .str s, false, 0, 10, rfl, .str s, .str w1 w2, _, rfl, ?_⟩
    rw [hw]
    refine iteF ⟨_, rfl, sz (Nat.le_of_ble_eq_true rfl), fun b hb => ⟨sz (Nat.le_of_ble_eq_true rfl), fun n hn => ⟨sz (Nat.le_of_ble_eq_true rfl), fun a ha => ?_⟩⟩⟩
    have s1 := same_new (o := .tup []) hb
    have s2 := same_new (o := .tup []) hn
    have s3 := same_new (o := .tup [.str s, .non, .ref b, .ref n, .non, .non, .str (Str.ofString "open")]) ha
    exact q a b n _ ((s1.trans s2).trans s3) ⟨upd_same, s3 _ _ (s2 _ _ upd_same), s3 _ _ upd_same⟩
theorem ok_ask {cl : Nat → Addr} {f f1 f2 fI1 fI2 fI3 CV : Addr} {fd fd1 fd2 d1 d2 d3 : FuncData} (F : Fn K mg "asked" s_asked ["view", "body"] f fd) (B : Con mg tn tw tb) (F_is_view : Fn K mg "is_view" s_is_view ["thing"] f1 fd1) (G_is_view : FnOk P w K mg base CX0 4 f1 fd1 ["thing"] spIsView)
    (F_is_body : Fn K mg "is_body" s_is_body ["thing"] f2 fd2) (G_is_body : FnOk P w K mg base CX0 2 f2 fd2 ["thing"] spBody) (X_BadView : ExcI K mg "BadView" "BadView.__init__" "thing" s_BadView CV fI1 d1)
    (X_BadBody : ExcI K mg "BadBody" "BadBody.__init__" "thing" s_BadBody (cl 0) fI2 d2) (X_Broken : ExcI K mg "Broken" "Broken.__init__" "thing" s_Broken (cl 4) fI3 d3) : FnOk P w K mg base (L2N.CX P w) 5 f fd ["view", "body"] (spAsk cl) := by
  refine okXN F.F sc_asked (fun vs H Q E h => ?_) (fun cdv A outer s H vs Q E hr h => ?_)
  · obtain ⟨p, c, a, b, n, x, v, d, q, nn, bb, rfl, _⟩ := h
    rfl
  · obtain ⟨p, c, a, b, n, x, v, d, gq, nn, bb, rfl, dk, vw, ok, hd, hg, q⟩ := h
    refine ⟨_, (pss_cons (ps_if (pt_not (pt_val (pe_call G_is_view (hr.mono (by decide)) (by rfl) F_is_view.g F_is_view.F.kp F_is_view.b .nil pass0 (pa_cons (pv 0) pa_nil))))
      (pss_one (L2N.ps_raise rfl (L2N.takes_of rfl rfl rfl rfl) (pmkEN X_BadView.E X_BadView.i (ini_any sc_BadView rfl (.inl rfl) (.inl rfl) (fun _ _ => rfl) rfl rfl X_BadView.F) (hr.mono (by decide)) X_BadView.b pass0 (by rfl) X_BadView.g (pa_cons (pv 0) pa_nil))))
      pss_nil)
      (pss_cons (ps_if (pt_not (pt_val (pe_call G_is_body (hr.mono (by decide)) (by rfl) F_is_body.g F_is_body.F.kp F_is_body.b .nil pass0 (pa_cons (pv 1) pa_nil))))
      (pss_one (L2N.ps_raise rfl (L2N.takes_of rfl rfl rfl rfl) (pmkEN X_BadBody.E X_BadBody.i (ini_any sc_BadBody rfl (.inl rfl) (.inl rfl) (fun _ _ => rfl) rfl rfl X_BadBody.F) (hr.mono (by decide)) X_BadBody.b pass0 (by rfl) X_BadBody.g (pa_cons (pv 1) pa_nil))))
      pss_nil)
      (pss_cons (ps_asg (pv 0) (pg_tup rfl (pgs_cons (pg_name (i := 2) sc_asked.nd rfl (Or.inl rfl)) (pgs_cons (pg_name (i := 3) sc_asked.nd rfl (Or.inl rfl)) (pgs_cons (pg_name (i := 4) sc_asked.nd rfl (Or.inl rfl)) (pgs_cons (pg_name (i := 5) sc_asked.nd rfl (Or.inl rfl)) (pgs_cons (pg_name (i := 6) sc_asked.nd rfl (Or.inl rfl)) (pgs_cons (pg_name (i := 7) sc_asked.nd rfl (Or.inl rfl)) (pgs_cons (pg_name (i := 8) sc_asked.nd rfl (Or.inl rfl)) pgs_nil)))))))))
      (pss_cons (ps_if (pt_cmpR op_eq (pv 8) pe_str (nomark _))
      (pss_one (L2N.ps_raise rfl (L2N.takes_of rfl rfl rfl rfl) (pmkEN X_Broken.E X_Broken.i (ini_any sc_Broken rfl (.inl rfl) (.inl rfl) (fun _ _ => rfl) rfl rfl X_Broken.F) (hr.mono (by decide)) X_Broken.b pass0 (by rfl) X_Broken.g (pa_cons (pv 2) pa_nil))))
      pss_nil)
      (pss_one (ps_ret (pe_tup (pa_cons (pv 2) (pa_cons (pv 3) (pa_cons (pe_tup (StX.pa_star (pv 4) (pa_cons (pv 1) pa_nil))) (pa_cons (pv 5) (pa_cons (pv 6) (pa_cons (pv 7) (pa_cons (pv 8) pa_nil)))))))))))))), ?_⟩
    refine ⟨_, rfl, p, c, _, _, false, _, _, rfl, vw.dg dk, ok.gd false, fun H1 s1 => ⟨_, rfl, ?_⟩⟩
    rw [ok.v]
    have vw := vw.to (.of s1)
    have hd := hd.to (.same s1)
    refine iteF ⟨_, rfl, p, c, v, d, gq, _, _, rfl, hd, hg, _, rfl, ?_⟩
    unfold askO at q
    cases hb : bodyB d with
    | false =>
      rw [hb] at q
      exact iteT (raise_i X_BadBody.E X_BadBody.no rfl (q v H1 s1 hd))
    | true =>
      rw [hb, if_pos rfl] at q
      refine iteF ⟨_, rfl, a, _, rfl, SqT.of vw.a, rfl, _, _, rfl, _, _, rfl, _, _, rfl, _, _, rfl, _, _, rfl, _, _, rfl, _, _, rfl, rfl, ?_⟩
      refine ⟨_, rfl, rfl, _, rfl, ?_⟩
      cases hbr : x.br with
      | true =>
        rw [hbr, if_pos rfl] at q
        refine iteT ?_
        exact raise_i X_Broken.E X_Broken.no rfl (q (.str x.h) H1 s1 (.str _))
      | false =>
        rw [hbr, if_neg (by decide)] at q
        rw [show decide (V.str (stS false) = V.str (Str.ofString "broken")) = false from decide_eq_false (by decide +kernel)]
        cases hd with
        | str z =>
          refine iteF ⟨_, rfl, _, rfl, _, rfl, b, _, rfl, .inl (SqT.of vw.b), _, rfl, sz ?_, fun b' hb' => ⟨_, rfl, _, rfl, _, rfl, _, rfl, sz (Nat.le_of_ble_eq_true rfl), fun a' ha' => ?_⟩⟩
          · have := ok.l
            rw [List.length_append]
            unfold bsV
            rw [List.length_map, List.length_singleton]
            omega
          have s2 := same_new (o := .tup (bsV x.bs ++ [.str z])) hb'
          have s3 := same_new (o := .tup [.str x.h, nV x.bt, .ref b', .ref n, nV x.aw, nV x.up, .str (stS x.br)]) ha'
          rw [hbr] at s3
          refine q a' b' n _ ((s1.trans s2).trans s3) ⟨?_, s3 _ _ ?_, s3 _ _ (s2 _ _ vw.n)⟩
          · rw [upd_same]
            show _ = some (HO.tup [.str x.h, nV x.bt, .ref b', .ref n, nV x.aw, nV x.up, .str (stS x.br)])
            rw [hbr]
          · rw [upd_same]
            show _ = some (HO.tup (bsV (x.bs ++ [z])))
            unfold bsV
            rw [List.map_append]
            rfl
        | _ => cases hb
theorem ok_upto {cl : Nat → Addr} {f f1 f2 fI1 fI2 fI3 CV : Addr} {fd fd1 fd2 d1 d2 d3 : FuncData} (F : Fn K mg "told_upto" s_told_upto ["view", "number"] f fd) (B : Con mg tn tw tb) (F_is_view : Fn K mg "is_view" s_is_view ["thing"] f1 fd1) (G_is_view : FnOk P w K mg base CX0 4 f1 fd1 ["thing"] spIsView)
    (F_is_number : Fn K mg "is_number" s_is_number ["thing"] f2 fd2) (G_is_number : FnOk P w K mg base CX0 3 f2 fd2 ["thing"] spNumber) (X_BadView : ExcI K mg "BadView" "BadView.__init__" "thing" s_BadView CV fI1 d1)
    (X_BadNumber : ExcI K mg "BadNumber" "BadNumber.__init__" "thing" s_BadNumber (cl 3) fI2 d2) (X_BadNews : ExcI K mg "BadNews" "BadNews.__init__" "thing" s_BadNews (cl 2) fI3 d3) : FnOk P w K mg base (L2N.CX P w) 5 f fd ["view", "number"] (spUpto cl) := by
  refine okXN F.F sc_told_upto (fun vs H Q E h => ?_) (fun cdv A outer s H vs Q E hr h => ?_)
  · obtain ⟨p, c, a, b, n, x, v, d, rfl, _⟩ := h
    rfl
  · obtain ⟨p, c, a, b, n, x, v, d, rfl, dk, vw, ok, hd, q⟩ := h
    refine ⟨_, (pss_cons (ps_if (pt_not (pt_val (pe_call G_is_view (hr.mono (by decide)) (by rfl) F_is_view.g F_is_view.F.kp F_is_view.b .nil pass0 (pa_cons (pv 0) pa_nil))))
      (pss_one (L2N.ps_raise rfl (L2N.takes_of rfl rfl rfl rfl) (pmkEN X_BadView.E X_BadView.i (ini_any sc_BadView rfl (.inl rfl) (.inl rfl) (fun _ _ => rfl) rfl rfl X_BadView.F) (hr.mono (by decide)) X_BadView.b pass0 (by rfl) X_BadView.g (pa_cons (pv 0) pa_nil))))
      pss_nil)
      (pss_cons (ps_if (pt_not (pt_val (pe_call G_is_number (hr.mono (by decide)) (by rfl) F_is_number.g F_is_number.F.kp F_is_number.b .nil pass0 (pa_cons (pv 1) pa_nil))))
      (pss_one (L2N.ps_raise rfl (L2N.takes_of rfl rfl rfl rfl) (pmkEN X_BadNumber.E X_BadNumber.i (ini_any sc_BadNumber rfl (.inl rfl) (.inl rfl) (fun _ _ => rfl) rfl rfl X_BadNumber.F) (hr.mono (by decide)) X_BadNumber.b pass0 (by rfl) X_BadNumber.g (pa_cons (pv 1) pa_nil))))
      pss_nil)
      (pss_cons (ps_asg (pv 0) (pg_tup rfl (pgs_cons (pg_name (i := 2) sc_told_upto.nd rfl (Or.inl rfl)) (pgs_cons (pg_name (i := 3) sc_told_upto.nd rfl (Or.inl rfl)) (pgs_cons (pg_name (i := 4) sc_told_upto.nd rfl (Or.inl rfl)) (pgs_cons (pg_name (i := 5) sc_told_upto.nd rfl (Or.inl rfl)) (pgs_cons (pg_name (i := 6) sc_told_upto.nd rfl (Or.inl rfl)) (pgs_cons (pg_name (i := 7) sc_told_upto.nd rfl (Or.inl rfl)) (pgs_cons (pg_name (i := 8) sc_told_upto.nd rfl (Or.inl rfl)) pgs_nil)))))))))
      (pss_cons (ps_set (i := 9) sc_told_upto.nd rfl (.inl rfl) (pe_tup (pa_cons (pv 2) (pa_cons (pv 3) (pa_cons (pv 4) (pa_cons (pv 5) (pa_cons (pv 6) (pa_cons (pv 1) (pa_cons (pv 8) pa_nil)))))))))
      (pss_cons (ps_if (PW.pt (pw_or (pt_cmpR op_notN (pv 7) pe_non (nomark _)) (pw_or1 (pt_not (pt_val (pe_call G_is_view (hr.mono (by decide)) (by rfl) F_is_view.g F_is_view.F.kp F_is_view.b .nil pass0 (pa_cons (pv 9) pa_nil)))))))
      (pss_one (L2N.ps_raise rfl (L2N.takes_of rfl rfl rfl rfl) (pmkEN X_BadNews.E X_BadNews.i (ini_any sc_BadNews rfl (.inl rfl) (.inl rfl) (fun _ _ => rfl) rfl rfl X_BadNews.F) (hr.mono (by decide)) X_BadNews.b pass0 (by rfl) X_BadNews.g (pa_cons (pv 1) pa_nil))))
      pss_nil)
      (pss_one (ps_ret (pv 9)))))))), ?_⟩
    refine ⟨_, rfl, p, c, _, _, false, _, _, rfl, vw.dg dk, ok.gd false, fun H1 s1 => ⟨_, rfl, ?_⟩⟩
    rw [ok.v]
    have vw := vw.to (.of s1)
    have hd := hd.to (.same s1)
    refine iteF ⟨_, rfl, p, c, v, d, rfl, hd, _, rfl, ?_⟩
    unfold uptoO at q
    cases hb : wholeB 0 1000000000 d with
    | false =>
      rw [hb] at q
      exact iteT (raise_i X_BadNumber.E X_BadNumber.no rfl (q v H1 s1 hd))
    | true =>
      rw [hb, if_pos rfl] at q
      obtain ⟨ed, _, e9⟩ := whole_nat (by decide) hb
      generalize asNat d = k at ed e9 q
      subst ed
      cases hd
      refine iteF ⟨_, rfl, a, _, rfl, SqT.of vw.a, rfl, _, _, rfl, _, _, rfl, _, _, rfl, _, _, rfl, _, _, rfl, _, _, rfl, _, _, rfl, rfl, ?_⟩
      refine ⟨_, rfl, _, rfl, _, rfl, _, rfl, _, rfl, _, rfl, _, rfl, sz (Nat.le_of_ble_eq_true rfl), fun a' ha' => ?_⟩
      have s2 := same_new (o := .tup [.str x.h, nV x.bt, .ref b, .ref n, nV x.aw, .int (k : Int), .str (stS x.br)]) ha'
      have vw' : VwA (upd H1 a' (.tup [.str x.h, nV x.bt, .ref b, .ref n, nV x.aw, .int (k : Int), .str (stS x.br)])) a' b n (x.told k) := ⟨upd_same, s2 _ _ vw.b, s2 _ _ vw.n⟩
      generalize upd H1 a' (.tup [.str x.h, nV x.bt, .ref b, .ref n, nV x.aw, .int (k : Int), .str (stS x.br)]) = H2 at s2 vw' ⊢
      have s12 := s1.trans s2
      have ft := told_fit ok (show k ≤ 1000000000 by omega)
      refine ⟨_, rfl, rfl, _, rfl, ?_⟩
      have hd2 : ∀ {H'}, Dg p c H' (V.int (k : Int)) (PyData.int (k : Int)) := .int _
      cases hu : x.up with
      | some j =>
        rw [hu, if_neg (fun z => by cases z.1)] at q
        rw [show (!decide (nV (some j) = V.non)) = true from rfl]
        exact iteT (raise_i X_BadNews.E X_BadNews.no rfl (q _ H2 s12 hd2))
      | none =>
        rw [show (!decide (nV none = V.non)) = false from rfl]
        refine iteF ⟨_, rfl, p, c, _, _, false, _, _, rfl, vw'.dg (dk.same s12), ft.gd false, fun H3 s3 => ⟨_, rfl, ?_⟩⟩
        cases hv : viewB (vwD (x.told k)) with
        | false =>
          rw [hv, if_neg (fun z => by cases z.2)] at q
          exact iteT (raise_i X_BadNews.E X_BadNews.no rfl (q _ H3 (s12.trans s3) hd2))
        | true =>
          rw [hv, if_pos ⟨hu, rfl⟩] at q
          exact iteF ⟨_, rfl, q a' b n H3 (s12.trans s3) (vw'.to (.of s3))⟩
theorem ok_brk {f f1 : Addr} {fd fd1 : FuncData} (F : Fn K mg "broken" s_broken ["view"] f fd) (B : Con mg tn tw tb) (F_is_view : Fn K mg "is_view" s_is_view ["thing"] f1 fd1) (G_is_view : FnOk P w K mg base CX0 4 f1 fd1 ["thing"] spIsView) : FnOk P w K mg base CX0 5 f fd ["view"] spBrk := by
  refine F.F.ok sc_broken (fun vs H Q E h => ?_) (fun cdv A outer s H vs Q E hr h => ?_)
  · obtain ⟨p, c, a, b, n, x, rfl, _⟩ := h
    rfl
  · obtain ⟨p, c, a, b, n, x, rfl, dk, vw, ok, q⟩ := h
    refine ⟨_, (pss_cons (ps_if (pt_not (pt_val (pe_call G_is_view (hr.mono (by decide)) (by rfl) F_is_view.g F_is_view.F.kp F_is_view.b .nil pass0 (pa_cons (pv 0) pa_nil))))
      (pss_one ps_never)
      pss_nil)
      (pss_cons (ps_asg (pv 0) (pg_tup rfl (pgs_cons (pg_name (i := 1) sc_broken.nd rfl (Or.inl rfl)) (pgs_cons (pg_name (i := 2) sc_broken.nd rfl (Or.inl rfl)) (pgs_cons (pg_name (i := 3) sc_broken.nd rfl (Or.inl rfl)) (pgs_cons (pg_name (i := 4) sc_broken.nd rfl (Or.inl rfl)) (pgs_cons (pg_name (i := 5) sc_broken.nd rfl (Or.inl rfl)) (pgs_cons (pg_name (i := 6) sc_broken.nd rfl (Or.inl rfl)) (pgs_cons (pg_name (i := 7) sc_broken.nd rfl (Or.inl rfl)) pgs_nil)))))))))
      (pss_one (ps_ret (pe_tup (pa_cons (pv 1) (pa_cons (pv 2) (pa_cons (pv 3) (pa_cons (pv 4) (pa_cons (pv 5) (pa_cons (pv 6) (pa_cons pe_str pa_nil)))))))))))), ?_⟩
    refine ⟨_, rfl, p, c, _, _, false, _, _, rfl, vw.dg dk, ok.gd false, fun H1 s1 => ⟨_, rfl, ?_⟩⟩
    rw [ok.v]
    have vw := vw.to (.of s1)
    refine iteF ⟨_, rfl, a, _, rfl, SqT.of vw.a, rfl, _, _, rfl, _, _, rfl, _, _, rfl, _, _, rfl, _, _, rfl, _, _, rfl, _, _, rfl, rfl, ?_⟩
    refine ⟨_, rfl, _, rfl, _, rfl, _, rfl, _, rfl, _, rfl, sz (Nat.le_of_ble_eq_true rfl), fun a' ha' => ?_⟩
    have s2 := same_new (o := .tup [.str x.h, nV x.bt, .ref b, .ref n, nV x.aw, nV x.up, .str (Str.ofString "broken")]) ha'
    exact q a' b n _ (s1.trans s2) ⟨upd_same, s2 _ _ vw.b, s2 _ _ vw.n⟩
theorem ok_fate {f f1 f2 : Addr} {fd fd1 fd2 : FuncData} (F : Fn K mg "fate" s_fate ["view", "number"] f fd) (B : Con mg tn tw tb) (F_bounds : Fn K mg "bounds" s_bounds ["view"] f1 fd1) (G_bounds : FnOk P w K mg base CX0 5 f1 fd1 ["view"] spBounds)
    (F_is_integer : Fn K mg "is_integer" s_is_integer ["thing"] f2 fd2) : FnOk P w K mg base CX0 6 f fd ["view", "number"] spFate := by
  have G_is_integer : FnOk P w K mg base CX0 1 f2 fd2 ["thing"] spInteger := ok_is_integer F_is_integer B
  refine F.F.ok sc_fate (fun vs H Q E h => ?_) (fun cdv A outer s H vs Q E hr h => ?_)
  · obtain ⟨p, c, a, b, n, x, k, rfl, _⟩ := h
    rfl
  · obtain ⟨p, c, a, b, n, x, k, rfl, dk, vw, ok, k1, kl, q⟩ := h
    refine ⟨_, (pss_cons (ps_asg (pe_call G_bounds (hr.mono (by decide)) (by rfl) F_bounds.g F_bounds.F.kp F_bounds.b .nil pass0 (pa_cons (pv 0) pa_nil)) (pg_tup rfl (pgs_cons (pg_name (i := 2) sc_fate.nd rfl (Or.inl rfl)) (pgs_cons (pg_name (i := 3) sc_fate.nd rfl (Or.inl rfl)) pgs_nil))))
      (pss_cons (ps_if (PW.pt (pw_or (pt_not (pt_val (pe_call G_is_integer (hr.mono (by decide)) (by rfl) F_is_integer.g F_is_integer.F.kp F_is_integer.b .nil pass0 (pa_cons (pv 1) pa_nil)))) (pw_or1 (pt_not (pt_chain op_le op_le pe_int (pv 1) (pe_callB call_len (by rfl) B.n_len PySem.boot_len (pa_cons (pe_ix ix_tup (pv 0) pe_int (fun _ _ => rfl)) pa_nil)))))))
      (pss_one ps_never)
      pss_nil)
      (pss_cons (ps_if (pt_cmpR op_le (pv 1) (pv 2) (nomark _))
      (pss_one (ps_ret pe_str))
      pss_nil)
      (pss_one (ps_ret (pe_ifExp (pt_cmpR op_gt (pv 1) (pv 3) (nomark _)) pe_str pe_str)))))), ?_⟩
    refine ⟨_, rfl, p, c, _, _, false, _, _, rfl, vw.dg dk, ok.gd false, ok.v, fun H1 t s1 ht => ?_⟩
    have vw := vw.to (.of s1)
    refine ⟨t, _, rfl, SqT.of ht, rfl, _, _, rfl, _, _, rfl, rfl, ?_⟩
    have hbl : (bsV x.bs).length = x.bs.length := by unfold bsV; rw [List.length_map]
    refine ⟨_, rfl, p, c, _, .int (k : Int), rfl, .int _, _, rfl, iteF ?_⟩
    refine ⟨_, rfl, _, _, rfl, rfl, _, rfl, ?_⟩
    rw [show decide ((1 : Int) ≤ (k : Int)) = true from decide_eq_true (by omega)]
    refine iteT ⟨_, rfl, a, _, _, _, rfl, rfl, SqT.of vw.a, atI_nat (j := 2) rfl, .ref b, _, rfl, .inr ⟨_, SqT.of vw.b, rfl⟩, _, _, rfl, rfl, _, rfl, ?_⟩
    rw [show decide ((k : Int) ≤ ((bsV x.bs).length : Int)) = true from decide_eq_true (by rw [hbl]; omega)]
    refine iteF ⟨_, rfl, _, rfl, _, _, rfl, rfl, _, rfl, ?_⟩
    have q := q H1 s1
    unfold fateS at q
    refine ite2 (fun z => ?_) (fun z => ?_)
    · rw [if_pos (of_decide_eq_true z)] at q
      exact q
    · rw [if_neg (of_decide_eq_false (Bool.eq_false_iff.mpr z))] at q
      refine ⟨_, rfl, _, rfl, _, _, rfl, rfl, _, rfl, ite2 (fun z2 => ?_) (fun z2 => ?_)⟩
      · rw [if_pos (of_decide_eq_true z2)] at q
        exact q
      · rw [if_neg (of_decide_eq_false (Bool.eq_false_iff.mpr z2))] at q
        exact q
end
end Ag

end
/-! ## P2 -/
section
set_option linter.all false
set_option maxRecDepth 100000
set_option maxHeartbeats 4000000
namespace Ag
open PySem PySem.Spec PyProof.Rows L2
open SX (S S_len S_cat S_inj)
/-! ### messages at any data -/
def kindS : Nat → Str
  | 0 => Str.ofString "body"
  | 1 => Str.ofString "number"
  | _ => Str.ofString "count"
def forms : List (List Nat × List Nat) := [([97,115,107], [2,0]), ([112,97,115,116], [1,1]), ([108,111,111,107], []), ([104,101,108,108,111], [1]), ([97,110,115,119,101,114], [2,0]), ([117,112,116,111], [1,1]), ([102,111,114,103,111,116], [1]), ([119,101,108,108], []), ([97,119,97,121], [1])]
def formOf (wd : List Nat) : Option (List Nat) := forms.lookup wd
structure Frms (K : PySem.W.Frag) (w : World) (mg : Str → Option Value) (Fm : Addr) : Prop where
  g : mg "FORMS" = some (.ref Fm)
  kd : ∃ es n, KDict K w Fm es n
  yes : ∀ wd ks, formOf wd = some ks → ∃ t, PySem.W.nsIn K Fm (S wd) = some (some (.ref t)) ∧ ∀ H, SqT K H t (ks.map fun k => .str (kindS k))
  no : ∀ wd, formOf wd = none → PySem.W.nsIn K Fm (S wd) = some none
theorem form_le {wd ks : List Nat} (h : formOf wd = some ks) : ks.length ≤ 2 ∧ ∀ k ∈ ks, k ≤ 2 := by
  have key : ∀ p ∈ forms, p.2.length ≤ 2 ∧ ∀ k ∈ p.2, k ≤ 2 := by decide
  unfold formOf at h
  obtain ⟨l1, l2, e, _⟩ := List.lookup_eq_some_iff.mp h
  exact key (wd, ks) (by rw [e]; simp)
theorem walk_zipT {K : PySem.W.Frag} {a b : Addr} {xs ys : List V} {n : Nat} (hn : n = min xs.length ys.length) : Walk (RZ.ItzT K a b) n (fun H => SqT K H a xs ∧ SqT K H b ys) (YPair (fun i => xs[i]?) (fun i => ys[i]?)) := by
  subst hn
  refine ⟨fun i _ hi q => ?_, fun _ q => ⟨xs, ys, q.1, q.2, by omega⟩, fun i H v H' _ q y => ?_⟩
  · have h1 : i < xs.length := by omega
    have h2 : i < ys.length := by omega
    exact ⟨xs, ys, xs[i], ys[i], q.1, q.2, by simp [h1], by simp [h2]⟩
  · obtain ⟨T, x, z, h1, h2, h3, h4, h5⟩ := y
    exact ⟨T, x, z, h1, h2, h3, h4 xs q.1, h5 ys q.2⟩
/-- of the kinds of items: 0 a body, 1 a number, else a count -/
def itemB (k : Nat) (d : PyData) : Bool := if k = 0 then bodyB d else wholeB 0 1000000000 d && (decide (k = 1) || decide (1 ≤ asInt d))
def mesB : PyData → Bool
  | .tuple (.str x :: ds) => match formOf x.cps.toList with
    | some ks => decide (ds.length = ks.length) && (List.zipWith itemB ks ds).all id
    | none => false
  | _ => false
theorem sT {a b : Str} {p q : Prop} (h : a = b) (x : p) : if decide (V.str a = V.str b) = true then p else q := by
  rw [h, decide_eq_true rfl]
  exact x
theorem sF {a b : Str} {p q : Prop} (h : a ≠ b) (x : q) : if decide (V.str a = V.str b) = true then p else q := by
  rw [decide_eq_false fun z => h (V.str.inj z)]
  exact x
theorem h64u {k : Nat} {A : Around} (hr : Room k A) : A.units + 64 < cLine := by have := hr.un; omega
section
variable {P : Program} {w : World} {K : PySem.W.Frag} {mg : Str → Option Value} {base : Heap} {tn tw tb : Tok}
def spItem : Sp := fun vs H Q _ => ∃ p c v d q n b k, vs = [.str (kindS k), v] ∧ k ≤ 2 ∧ Dg p c H v d ∧ Gd q d n b ∧ Q (.bl (itemB k d)) H
theorem ok_item {f f1 f2 : Addr} {fd fd1 fd2 : FuncData} (F : Fn K mg "is_item" s_is_item ["kind", "thing"] f fd) (F_is_body : Fn K mg "is_body" s_is_body ["thing"] f1 fd1) (G_is_body : FnOk P w K mg base CX0 2 f1 fd1 ["thing"] spBody)
    (F_is_number : Fn K mg "is_number" s_is_number ["thing"] f2 fd2) (G_is_number : FnOk P w K mg base CX0 3 f2 fd2 ["thing"] spNumber) : FnOk P w K mg base CX0 4 f fd ["kind", "thing"] spItem := by
  refine F.F.ok sc_is_item (fun vs H Q E h => ?_) (fun cdv A outer s H vs Q E hr h => ?_)
  · obtain ⟨p, c, v, d, gq, n, b, k, rfl, _⟩ := h
    rfl
  · obtain ⟨p, c, v, d, gq, n, b, k, rfl, hk, hd, hg, q⟩ := h
    refine ⟨_, (pss_cons (ps_if (pt_cmpR op_eq (pv 0) pe_str (nomark _))
      (pss_one (ps_ret (pe_call G_is_body (hr.mono (by decide)) (by rfl) F_is_body.g F_is_body.F.kp F_is_body.b .nil pass0 (pa_cons (pv 1) pa_nil))))
      pss_nil)
      (pss_one (ps_ret (pe_and (pe_call G_is_number (hr.mono (by decide)) (by rfl) F_is_number.g F_is_number.F.kp F_is_number.b .nil pass0 (pa_cons (pv 1) pa_nil)) (pe_one (pe_or (pe_cmpR op_eq (pv 0) pe_str (nomark _)) (pe_one (pe_cmpR op_ge (pv 1) pe_int (nomark _))))))))), ?_⟩
    refine ⟨_, rfl, rfl, _, rfl, ?_⟩
    unfold itemB at q
    by_cases h0 : k = 0
    · subst h0
      rw [if_pos rfl] at q
      exact sT rfl ⟨_, rfl, p, c, v, d, gq, n, b, rfl, hd, hg, q⟩
    · rw [if_neg h0] at q
      refine sF (by
        match k, hk, h0 with
        | 1, _, _ => decide +kernel
        | 2, _, _ => decide +kernel) ⟨_, rfl, p, c, v, d, rfl, hd, _, rfl, ?_⟩
      cases hw : wholeB 0 1000000000 d with
      | false =>
        rw [hw] at q
        exact iteF q
      | true =>
        rw [hw] at q
        refine iteT ?_
        obtain ⟨ed, e0, e9⟩ := whole_nat (by decide) hw
        generalize asNat d = j at ed e0 e9
        subst ed
        cases hd
        rw [Bool.true_and] at q
        refine ⟨_, rfl, rfl, _, rfl, ?_⟩
        by_cases h1 : k = 1
        · subst h1
          exact sT rfl q
        · rw [decide_eq_false h1, Bool.false_or] at q
          refine sF (by
            match k, hk, h0, h1 with
            | 2, _, _, _ => decide +kernel) ⟨_, rfl, _, _, rfl, rfl, q⟩
def spMes : Sp := fun vs H Q _ => ∃ p c v d q n b, vs = [v] ∧ Dg p c H v d ∧ Gd q d n b ∧ ∀ H', Same H H' → Q (.bl (mesB d)) H'
theorem ok_message {f f1 Fm : Addr} {fd fd1 : FuncData} (F : Fn K mg "is_message" s_is_message ["thing"] f fd) (B : Con mg tn tw tb) (T : Frms K w mg Fm)
    (F_is_item : Fn K mg "is_item" s_is_item ["kind", "thing"] f1 fd1) (G_is_item : FnOk P w K mg base CX0 4 f1 fd1 ["kind", "thing"] spItem) : FnOk P w K mg base CX0 5 f fd ["thing"] spMes := by
  obtain ⟨es, en, D⟩ := T.kd
  refine F.F.ok sc_is_message (fun vs H Q E h => ?_) (fun cdv A outer s H vs Q E hr h => ?_)
  · obtain ⟨p, c, v, d, gq, nn, bb, rfl, _⟩ := h
    rfl
  · obtain ⟨p, c, v, d, gq, nn, bb, rfl, hd, hg, q⟩ := h
    refine ⟨_, (pss_cons (ps_if (PW.pt (pw_or (pt_not (pt_val (pe_callB call_isi (by rfl) B.n_isinstance (by decide +kernel) (pa_cons (pv 0) (pa_cons (pe_bltn (v := .ty "tuple") (by rfl) B.n_tuple (by decide +kernel) rfl) pa_nil))))) (pw_or1 (pt_cmpR (op_eqT0 (h64u hr)) (pv 0) (pe_tup pa_nil) (nomark _)))))
      (pss_one (ps_ret pe_bl))
      pss_nil)
      (pss_cons (ps_par (i := 1) (j := 2) (by rfl) sc_is_message.nd rfl rfl (by decide) rfl rfl (pa_cons (pe_ix ix_tup (pv 0) pe_int (fun _ _ => rfl)) (pa_cons (pe_slice sl_tupA (pv 0) (po_some pe_int) po_none) pa_nil)) (by rfl))
      (pss_cons (ps_if (PW.pt (pw_or (pt_not (pt_val (pe_callB call_isi (by rfl) B.n_isinstance (by decide +kernel) (pa_cons (pv 1) (pa_cons (pe_bltn (v := .ty "str") (by rfl) B.n_str (by decide +kernel) rfl) pa_nil))))) (pw_or1 (pt_cmpR (op_notIn_kd D) (pv 1) (pe_glob (v := .ref Fm) rfl T.g rfl) rfl))))
      (pss_one (ps_ret pe_bl))
      pss_nil)
      (pss_cons (ps_set (i := 3) sc_is_message.nd rfl (.inl rfl) (pe_ix ix_kdict (pe_glob (v := .ref Fm) rfl T.g rfl) (pv 1) (fun _ _ => rfl)))
      (pss_one (ps_ret (pe_and (pe_cmpR op_eq (pe_callB call_len_seq (by rfl) B.n_len PySem.boot_len (pa_cons (pv 2) pa_nil)) (pe_callB call_len_seq (by rfl) B.n_len PySem.boot_len (pa_cons (pv 3) pa_nil)) (nomark _)) (pe_one (pe_callB (cr_all rfl) (by rfl) B.n_all (by decide +kernel) (pa_cons (pe_lc (own := [("kind", 4), ("item", 5)]) rfl sc_is_message.nd (RZ.pi_zipA (by rfl) B.n_zip (pa_cons (pv 3) (pa_cons (pv 2) pa_nil))) (blkOk_by (N := N_is_message) (sc := defScope s_is_message) (by decide +kernel)) (fun _ _ _ _ _ => pg_two (i := 4) (j := 5) K rfl sc_is_message.nd rfl rfl rfl rfl rfl) (fun _ _ _ _ _ => pts_nil) (fun _ _ _ _ _ => (pe_call G_is_item (hr.mono (by decide)) (by rfl) F_is_item.g F_is_item.F.kp F_is_item.b .nil pass0 (pa_cons (pv 4) (pa_cons (pv 5) pa_nil))))) pa_nil)))))))))), ?_⟩
    refine ⟨v, rfl, v, .ty "tuple", _, _, _, rfl, .ty "tuple", hd.tyx, isi_T d, _, rfl, ?_⟩
    cases hd with
    | @tup a xs ds ha hA =>
      obtain ⟨hgA, hl⟩ := hg.untup
      have hxl := hA.len
      refine iteF ?_
      refine ⟨_, rfl, Nat.zero_le _, fun e he => ?_⟩
      have sm1 := same_new (o := .tup []) he
      refine ⟨p, c, .tuple ds, e, .tup (ha.kp (.same sm1)) (hA.to (.same sm1)), rfl, rfl, upd_same, _, rfl, ?_⟩
      have ha1 := ha.kp (.same sm1)
      have hA1 := hA.to (.same sm1)
      generalize upd H e (.tup []) = H1 at sm1 ha1 hA1 ⊢
      cases ds with
      | nil =>
        cases hA1
        exact iteT (q H1 sm1)
      | cons d0 ds =>
        cases hA1 with
        | cons g0 gA =>
        rename_i x0 xs
        refine iteF ?_
        have hlen : (x0 :: xs).length = xs.length + 1 := rfl
        have hs1 : HT.sIx (xs.length + 1) 0 (some ((1 : Nat) : Int)) = 1 := sIx_at (by omega)
        refine ⟨_, rfl, a, _, _, x0, rfl, rfl, SqT.of ha1.2.2, atI_nat (j := 0) rfl, ?_⟩
        refine ⟨_, rfl, _, rfl, a, _, rfl, SqT.of ha1.2.2, fun hh => ?_, fun _ it hit => ?_⟩
        · have h0 := hh.1
          rw [hlen] at h0
          rw [show (1 : Int) = ((1 : Nat) : Int) from rfl, hs1] at h0
          exact absurd h0 (by decide)
        have ecut : cutV (x0 :: xs) (some 1) none = xs := by
          unfold cutV
          rw [hlen, show (1 : Int) = ((1 : Nat) : Int) from rfl, hs1]
          show (xs.take _) = _
          rw [show HT.sIx (xs.length + 1) (xs.length + 1) none = xs.length + 1 from rfl, show xs.length + 1 - 1 = xs.length by omega]
          exact List.take_length
        rw [ecut]
        have sm2 := same_new (o := .tup xs) hit
        have hit1 : upd H1 it (.tup xs) it = some (.tup xs) := upd_same
        have g0 := g0.to (.same sm2)
        have gA := gA.to (.same sm2)
        have sm2 := sm1.trans sm2
        generalize upd H1 it (.tup xs) = H2 at sm2 hit1 g0 gA ⊢
        have hl2 := gA.len
        refine ⟨_, _, rfl, ?_⟩
        refine ⟨x0, rfl, x0, .ty "str", _, _, _, rfl, .ty "str", g0.tyx, isi_S d0, _, rfl, ?_⟩
        have q2 := q H2 sm2
        cases g0 with
        | str sx =>
          refine iteF ?_
          have hx : sx = S sx.cps.toList := rfl
          simp only [mesB] at q2 q
          have q := q
          generalize sx.cps.toList = wd at hx q q2
          subst hx
          cases hf : formOf wd with
          | none =>
            refine ⟨_, rfl, S wd, none, rfl, rfl, T.no wd hf, _, rfl, iteT ?_⟩
            simp only [hf] at q2
            exact q2
          | some ks =>
            simp only [hf] at q q2
            obtain ⟨t, htt, hkt⟩ := T.yes wd ks hf
            refine ⟨_, rfl, S wd, some (.ref t), rfl, rfl, htt, _, rfl, iteF ?_⟩
            refine ⟨_, rfl, Fm, S wd, .ref t, rfl, rfl, ⟨es, en, .ref t, D.at_, D.lit, htt, rfl⟩, ?_⟩
            refine ⟨_, rfl, it, _, rfl, .inr (SqT.of hit1), _, rfl, t, _, rfl, .inr (hkt _), rfl, _, rfl, ?_⟩
            rw [List.length_map]
            by_cases hlk : xs.length = ks.length
            · rw [decide_eq_true (by rw [hlk])]
              refine iteT ?_
              obtain ⟨fl, fk⟩ := form_le hf
              refine ⟨_, rfl, _, rfl, t, it, _, _, rfl, .inr ⟨hkt _, SqT.of hit1, fun D' hD => ?_⟩⟩
              have nit : it ≠ D' := ne_of_none hit1 hD
              refine lc_all (walk_zipT (K := K) (a := t) (b := it) (xs := ks.map fun k => V.str (kindS k)) (ys := xs) (n := ks.length) (by rw [List.length_map]; omega)) (fun H' => Same H2 H' ∧ H' it = some (.tup xs))
                (fun i y => ∃ k d', ks[i]? = some k ∧ ds[i]? = some d' ∧ y = .bl (itemB k d')) (by omega) ⟨Same.refl _, hit1⟩ (fun H' o g => ⟨fun b o' e => by rw [upd_ne (ne_of_none e hD)]; exact g.1 b o' e, by rw [upd_ne nit]; exact g.2⟩) (fun _ g => ⟨hkt _, SqT.of g.2⟩) ?_ ?_
              · rintro i x' Ha Hb ys k hik ⟨g, hit'⟩ hxs ⟨T', u, z, rfl, hT', rfl, h1, h2⟩ hk
                have h1 : (ks.map fun k => V.str (kindS k))[i]? = some u := h1
                have h2 : xs[i]? = some z := h2
                rw [List.getElem?_map] at h1
                obtain ⟨kk, hkk, rfl⟩ := Option.map_eq_some_iff.mp h1
                obtain ⟨dz, hdz, hgz⟩ := gA.at_ h2
                have nT : D' ≠ T' := ne_of_none hxs hT'
                have nT2 : it ≠ T' := ne_of_none hit' hT'
                refine ⟨T', _, rfl, SqT.of upd_same, rfl, _, _, rfl, _, _, rfl, rfl, rfl, _, rfl, _, rfl, p, c, _, dz, gq, _, _, kk, rfl, fk kk (List.mem_of_getElem? hkk), (hgz.to (.same g)).to (.same (same_new hT')), hgA.mem _ (List.mem_cons_of_mem _ (List.mem_of_getElem? hdz)), ?_⟩
                exact hk _ _ ⟨kk, dz, hkk, hdz, rfl⟩ ⟨g.trans (same_new hT'), by rw [upd_ne nT2]; exact hit'⟩ (by rw [upd_ne nT]; exact hxs)
              · rintro H5 ys hyl hyv ⟨g5, hit5⟩ hys
                have ey : ys = (List.zipWith itemB ks ds).map V.bl := by
                  refine List.ext_getElem? fun i => ?_
                  rw [List.getElem?_map, List.getElem?_zipWith]
                  cases e : ys[i]? with
                  | none =>
                    have h1 := List.getElem?_eq_none_iff.mp e
                    rw [List.getElem?_eq_none_iff.mpr (show ks.length ≤ i by omega)]
                    rfl
                  | some y =>
                    obtain ⟨k, x', h1, h2, rfl⟩ := hyv i y e
                    rw [h1, h2]
                    rfl
                subst ey
                refine ⟨D', List.zipWith itemB ks ds, rfl, SqL.of hys, ?_⟩
                have q5 := q H5 (sm2.trans g5)
                rw [← hl2, decide_eq_true hlk, Bool.true_and] at q5
                exact q5
            · rw [decide_eq_false (fun h => hlk (by injection h with h; omega))]
              refine iteF ?_
              rw [← hl2, decide_eq_false hlk, Bool.false_and] at q2
              exact q2
        | _ => exact iteT (iteT q2)
    | _ => exact iteT (iteT (q _ (Same.refl _)))
end
end Ag

end
/-! ## P3 -/
section
set_option linter.all false
set_option maxRecDepth 100000
set_option maxHeartbeats 4000000
namespace Ag
open PySem PySem.Spec PyProof.Rows L2
open SX (S S_len S_cat S_inj)
/-! ### news: what is heard -/
def hS : List V := [.str (wS 0), .str (wS 1), .str (wS 2), .str (wS 3)]
def isHeard (w : Str) : Bool := decide (w = wS 0) || (decide (w = wS 1) || (decide (w = wS 2) || decide (w = wS 3)))
theorem beq_dec (a b : Str) : (a == b) = decide (b = a) := by
  rw [Bool.eq_iff_iff, beq_iff_eq, decide_eq_true_eq]
  exact eq_comm
theorem in_heard (w : Str) : inV (.str w) hS = isHeard w := by
  show ((wS 0 == w) || ((wS 1 == w) || ((wS 2 == w) || ((wS 3 == w) || false)))) = _
  rw [beq_dec, beq_dec, beq_dec, beq_dec, Bool.or_false]
  rfl
theorem form0 : formOf (wS 0).cps.toList = some [1] := by decide +kernel
theorem form1 : formOf (wS 1).cps.toList = some [2, 0] := by decide +kernel
theorem form2 : formOf (wS 2).cps.toList = some [1] := by decide +kernel
theorem form3 : formOf (wS 3).cps.toList = some [] := by decide +kernel
theorem wS_ne : ∀ i, i < 4 → ∀ j, j < 4 → i ≠ j → ¬ wS i = wS j := by decide +kernel
theorem item0 (d : PyData) : itemB 0 d = bodyB d := rfl
theorem item1 (d : PyData) : itemB 1 d = wholeB 0 1000000000 d := by
  unfold itemB
  rw [if_neg (by decide), decide_eq_true rfl, Bool.true_or, Bool.and_true]
theorem item2 (d : PyData) : itemB 2 d = wholeB 1 1000000000 d := by
  unfold itemB
  rw [if_neg (by decide), decide_eq_false (by decide), Bool.false_or]
  cases d with
  | int i =>
    unfold wholeB asInt
    rw [Bool.eq_iff_iff]
    simp only [Bool.and_eq_true, decide_eq_true_eq]
    omega
  | _ => rfl
theorem mes_news (w : Str) (ds : List PyData) : (mesB (.tuple (.str w :: ds)) && isHeard w) = newsB (.tuple (.str w :: ds)) := by
  have n01 := wS_ne 0 (by decide) 1 (by decide) (by decide)
  have n02 := wS_ne 0 (by decide) 2 (by decide) (by decide)
  have n03 := wS_ne 0 (by decide) 3 (by decide) (by decide)
  have n10 := wS_ne 1 (by decide) 0 (by decide) (by decide)
  have n12 := wS_ne 1 (by decide) 2 (by decide) (by decide)
  have n13 := wS_ne 1 (by decide) 3 (by decide) (by decide)
  have n20 := wS_ne 2 (by decide) 0 (by decide) (by decide)
  have n21 := wS_ne 2 (by decide) 1 (by decide) (by decide)
  have n23 := wS_ne 2 (by decide) 3 (by decide) (by decide)
  have n30 := wS_ne 3 (by decide) 0 (by decide) (by decide)
  have n31 := wS_ne 3 (by decide) 1 (by decide) (by decide)
  have n32 := wS_ne 3 (by decide) 2 (by decide) (by decide)
  by_cases h0 : w = wS 0
  · subst h0
    have e : mesB (.tuple (.str (wS 0) :: ds)) = (decide (ds.length = 1) && (List.zipWith itemB [1] ds).all id) := by simp only [mesB, form0]; rfl
    rw [e]
    match ds with
    | [] => simp [newsB, n03]
    | [d] => simp [newsB, isHeard, item1]
    | [d, e] => simp [newsB, n01]
    | d :: e :: f :: r => simp [newsB]
  by_cases h1 : w = wS 1
  · subst h1
    have e : mesB (.tuple (.str (wS 1) :: ds)) = (decide (ds.length = 2) && (List.zipWith itemB [2, 0] ds).all id) := by simp only [mesB, form1]; rfl
    rw [e]
    match ds with
    | [] => simp [newsB, n13]
    | [d] => simp [newsB, n10, n12]
    | [d, e] => simp [newsB, isHeard, item2, item0]
    | d :: e :: f :: r => simp [newsB]
  by_cases h2 : w = wS 2
  · subst h2
    have e : mesB (.tuple (.str (wS 2) :: ds)) = (decide (ds.length = 1) && (List.zipWith itemB [1] ds).all id) := by simp only [mesB, form2]; rfl
    rw [e]
    match ds with
    | [] => simp [newsB, n23]
    | [d] => simp [newsB, isHeard, item1]
    | [d, e] => simp [newsB, n21]
    | d :: e :: f :: r => simp [newsB]
  by_cases h3 : w = wS 3
  · subst h3
    have e : mesB (.tuple (.str (wS 3) :: ds)) = (decide (ds.length = 0) && (List.zipWith itemB [] ds).all id) := by simp only [mesB, form3]; rfl
    rw [e]
    match ds with
    | [] => simp [newsB, isHeard]
    | [d] => simp [newsB, n30, n32]
    | [d, e] => simp [newsB, n31]
    | d :: e :: f :: r => simp [newsB]
  rw [show isHeard w = false by simp [isHeard, h0, h1, h2, h3], Bool.and_false]
  match ds with
  | [] => simp [newsB, h3]
  | [d] => simp [newsB, h0, h2]
  | [d, e] => simp [newsB, h1]
  | d :: e :: f :: r => simp [newsB]
/-- messages are tuples that begin with a text -/
theorem mes_shape {d : PyData} (h : mesB d = true) : ∃ w ds, d = .tuple (.str w :: ds) := by
  cases d with
  | tuple ds =>
    cases ds with
    | nil => cases h
    | cons e r =>
      cases e with
      | str w => exact ⟨w, r, rfl⟩
      | _ => cases h
  | _ => cases h
theorem news_shape {d : PyData} (h : newsB d = true) : ∃ w ds, d = .tuple (.str w :: ds) := by
  unfold newsB at h
  split at h
  · exact ⟨_, _, rfl⟩
  · exact ⟨_, _, rfl⟩
  · exact ⟨_, _, rfl⟩
  · cases h
theorem news_mes {d : PyData} (h : mesB d = false) : newsB d = false := by
  cases hn : newsB d with
  | false => rfl
  | true =>
    obtain ⟨w, ds, rfl⟩ := news_shape hn
    rw [← mes_news, h] at hn
    cases hn
theorem flat_an (an : List Nat) : (anV an).all flatV = true := by
  unfold anV
  rw [List.all_map, List.all_eq_true]
  intro k _
  rfl
theorem in_an (k : Nat) (an : List Nat) : inV (.int (k : Int)) (anV an) = decide (k ∈ an) := by
  unfold anV
  rw [Bool.eq_iff_iff, decide_eq_true_eq]
  unfold inV
  rw [List.any_eq_true]
  constructor
  · rintro ⟨y, hy, e⟩
    obtain ⟨z, hz, rfl⟩ := List.mem_map.mp hy
    have : k = z := by
      simp [eqV] at e
      omega
    rw [this]; exact hz
  · intro h
    exact ⟨_, List.mem_map.mpr ⟨k, h, rfl⟩, by simp [eqV]⟩
/-- sorted, with one more -/
theorem sorted_ins {an : List Nat} {k : Nat} {ns : List Int} (ha : an.Pairwise (· < ·)) (hk : k ∉ an) (hp : ns.Perm (an.map (fun j => ((j : Nat) : Int)) ++ [(k : Int)])) (hs : ns.Pairwise (· ≤ ·)) : ns = (insA k an).map fun j => ((j : Nat) : Int) := by
  have nd : (an.map (fun j => ((j : Nat) : Int)) ++ [(k : Int)]).Nodup := by
    rw [List.nodup_append]
    refine ⟨?_, by simp, fun a ha' b hb e => ?_⟩
    · exact (asc_int ha).imp fun {a b} h => by omega
    · obtain ⟨j, hj, rfl⟩ := List.mem_map.mp ha'
      rw [List.mem_singleton.mp hb] at e
      exact hk (by rw [← Int.ofNat.inj e]; exact hj)
  have nd2 : ns.Nodup := hp.nodup_iff.mpr nd
  refine asc_uniq ?_ (asc_int (insA_asc ha hk)) fun z => ?_
  · exact (hs.and nd2).imp fun {a b} h => by have := h.1; have := h.2; omega
  · rw [hp.mem_iff, List.mem_append, List.mem_map, List.mem_map, List.mem_singleton]
    constructor
    · rintro (⟨j, hj, rfl⟩ | rfl)
      · exact ⟨j, insA_mem.mpr (.inr hj), rfl⟩
      · exact ⟨k, insA_mem.mpr (.inl rfl), rfl⟩
    · rintro ⟨j, hj, rfl⟩
      rcases insA_mem.mp hj with rfl | hj
      · exact .inr rfl
      · exact .inl ⟨j, hj, rfl⟩
/-- with the news, or None -/
def NvP (p c : Addr) (H : Hp) (Q : VK) (o : Option Vw) : Prop := match o with
  | none => ∀ H', Same H H' → Q .non H'
  | some y => ∀ a b n H', Same H H' → VwA H' a b n y → Q (.ref a) H'
end Ag

end
/-! ## LB -/
section
set_option linter.all false
set_option maxRecDepth 100000
set_option maxHeartbeats 4000000
namespace Ag
open PySem PySem.Spec PyProof.Rows L2
open SX (S S_len S_cat S_inj)
theorem azS : (Str.ofString "abcdefghijklmnopqrstuvwxyz").cps.toList = (List.range 26).map (· + 97) := by decide +kernel
theorem mem_az {c : Nat} : decide (c ∈ (Str.ofString "abcdefghijklmnopqrstuvwxyz").cps.toList) = azC c := by
  rw [azS, Bool.eq_iff_iff, decide_eq_true_eq]
  unfold azC
  simp
  constructor
  · rintro ⟨a, h, rfl⟩
    omega
  · intro h
    exact ⟨c - 97, by omega, by omega⟩
theorem map_const {α : Type} (l : List α) : (l.map fun _ => (1 : Int)).map V.int = l.map fun _ => V.int 1 := by rw [List.map_map]; rfl
section
variable {P : Program} {w : World} {K : PySem.W.Frag} {mg : Str → Option Value} {base : Heap} {tn tw tb : Tok}
def spWhole : Sp := fun vs H Q _ => ∃ p c v d lo hi, vs = [v, .int lo, .int hi] ∧ Dg p c H v d ∧ Q (.bl (wholeB lo hi d)) H
theorem ok_whole {f : Addr} {fd : FuncData} (F : Fn K mg "_law_is_whole" s__law_is_whole ["_law_thing", "_law_low", "_law_high"] f fd) (B : Con mg tn tw tb) : FnOk P w K mg base CX0 1 f fd ["_law_thing", "_law_low", "_law_high"] spWhole := by
  refine F.F.ok sc__law_is_whole (fun vs H Q E h => ?_) (fun cdv A outer s H vs Q E hr h => ?_)
  · obtain ⟨p, c, x, d, lo, hi, rfl, _⟩ := h
    rfl
  · obtain ⟨p, c, x, d, lo, hi, rfl, hd, q⟩ := h
    refine ⟨_, (pss_one (ps_ret (pe_and (pe_callB call_isi (by rfl) B.n_isinstance (by decide +kernel) (pa_cons (pv 0) (pa_cons (pe_bltn (v := .ty "int") (by rfl) B.n_int (by decide +kernel) rfl) pa_nil))) (pe_and (pe_not (pe_callB call_isi (by rfl) B.n_isinstance (by decide +kernel) (pa_cons (pv 0) (pa_cons (pe_bltn (v := .ty "bool") (by rfl) B.n_bool (by decide +kernel) rfl) pa_nil)))) (pe_one (pe_chain op_le op_le (pv 1) (pv 0) (pv 2))))))), ?_⟩
    refine ⟨x, rfl, x, .ty "int", _, _, _, rfl, .ty "int", hd.tyx, isi_I d, _, rfl, ite2 (fun h => ?_) (fun h => ?_)⟩
    · refine ⟨_, rfl, x, .ty "bool", _, _, _, rfl, .ty "bool", hd.tyx, isi_B d, _, rfl, _, rfl, ?_⟩
      cases hd with
      | int i =>
        refine iteT ⟨_, rfl, _, rfl, _, _, rfl, rfl, _, rfl, ?_⟩
        simp only [wholeB] at q
        refine ite2 (fun h1 => ?_) (fun h1 => ?_)
        · rw [h1, Bool.true_and] at q
          exact ⟨_, rfl, _, _, rfl, rfl, q⟩
        · rw [Bool.eq_false_iff.mpr h1, Bool.false_and] at q
          exact q
      | bl b => exact iteF q
      | _ => exact absurd h (by simp [isI])
    · cases d <;> first | exact q | exact absurd rfl h
def spLWord : Sp := fun vs H Q _ => ∃ p c v d q n b, vs = [v] ∧ Dg p c H v d ∧ Gd q d n b ∧ ∀ H', Same H H' → Q (.bl (wordB d)) H'
theorem ok_lword {f : Addr} {fd : FuncData} (F : Fn K mg "_law_is_word" s__law_is_word ["_law_thing"] f fd) (B : Con mg tn tw tb) : FnOk P w K mg base CX0 1 f fd ["_law_thing"] spLWord := by
  refine F.F.ok sc__law_is_word (fun vs H Q E h => ?_) (fun cdv A outer s H vs Q E hr h => ?_)
  · obtain ⟨p, c, x, d, _, _, _, rfl, _⟩ := h
    rfl
  · obtain ⟨p, c, x, d, qq, n, b, rfl, hd, hg, q⟩ := h
    refine ⟨_, (pss_cons (ps_if (PW.pt (pw_or (pt_not (pt_val (pe_callB call_isi (by rfl) B.n_isinstance (by decide +kernel) (pa_cons (pv 0) (pa_cons (pe_bltn (v := .ty "str") (by rfl) B.n_str (by decide +kernel) rfl) pa_nil))))) (pw_or1 (pt_not (pt_chain op_le op_le pe_int (pe_callB call_len_str (by rfl) B.n_len PySem.boot_len (pa_cons (pv 0) pa_nil)) pe_int)))))
      (pss_one (ps_ret pe_bl))
      pss_nil)
      (pss_one (ps_ret (pe_cmpR (op_eqD hr.units) (pe_lc (own := [("_law_sign", 1)]) rfl sc__law_is_word.nd (pi_str (pv 0)) (blkOk_by (N := N__law_is_word) (sc := defScope s__law_is_word) (by decide +kernel)) (fun _ _ _ _ _ => (pg_name (i := 1) sc__law_is_word.nd rfl (Or.inl rfl))) (fun _ _ _ _ _ => (pts_one (pt_cmpR op_notIn_sign (pv 1) pe_str rfl))) (fun _ _ _ _ _ => pe_int)) (pe_lst pa_nil) (nomark _))))), ?_⟩
    refine ⟨_, rfl, x, .ty "str", _, _, _, rfl, .ty "str", hd.tyx, isi_S d, _, rfl, ?_⟩
    cases hd with
    | str x =>
      obtain ⟨h1, h2⟩ := hg.strlen
      have hx : x = S x.cps.toList := rfl
      generalize x.cps.toList = l at h1 h2 hx q
      subst hx
      refine iteF ?_
      refine ⟨.str (S l), rfl, S l, rfl, sz (by rw [S_len]; omega), _, _, rfl, rfl, _, rfl, ?_⟩
      rw [S_len]
      have q : ∀ H', Same H H' → Q (.bl (wordL l)) H' := q
      unfold wordL at q
      have e1 : decide ((1 : Int) ≤ (l.length : Int)) = decide (1 ≤ l.length) := by
        rw [Bool.eq_iff_iff, decide_eq_true_eq, decide_eq_true_eq]
        omega
      have e2 : decide ((l.length : Int) ≤ 10) = decide (l.length ≤ 10) := by
        rw [Bool.eq_iff_iff, decide_eq_true_eq, decide_eq_true_eq]
        omega
      rw [e1]
      cases h3 : decide (1 ≤ l.length) with
      | false =>
        rw [h3, Bool.false_and, Bool.false_and] at q
        exact iteF ⟨_, rfl, iteT (q _ (Same.refl _))⟩
      | true =>
        rw [h3, Bool.true_and] at q
        refine iteT ?_
        refine ⟨_, _, rfl, rfl, _, rfl, ?_⟩
        rw [e2]
        cases h4 : decide (l.length ≤ 10) with
        | false =>
          rw [h4, Bool.false_and] at q
          exact iteT (q _ (Same.refl _))
        | true =>
          rw [h4, Bool.true_and] at q
          refine iteF ?_
          have hzs : (S l).cps.size = l.length := by simp
          refine ⟨_, rfl, S l, rfl, fun D hD => ?_⟩
          refine lc_sel (walk_str (z := S l)) (fun i => !azC (l.getD i 0)) (fun _ => .int 1) (by rw [hzs]; omega) hD (fun _ _ => trivial) ?_ ?_
          · rintro i y H1 H2 k k0 hi s1 ⟨rfl, c', hc, rfl⟩ hk hk0
            have hc' : l[i]? = some c' := by simpa using hc
            rw [List.getD_eq_getElem?_getD, hc'] at hk hk0
            refine ⟨rfl, _, rfl, c', _, rfl, rfl, _, rfl, ?_⟩
            rw [mem_az]
            cases ha : azC c' with
            | false => exact iteT (hk (by show (!azC c') = true; rw [ha]; rfl) _ (Same.refl _))
            | true => exact iteF (hk0 (by show (!azC c') = false; rw [ha]; rfl) _ (Same.refl _))
          · intro H1 s1 h1
            rw [hzs] at h1
            refine ⟨Nat.zero_le _, fun t ht => ?_⟩
            have nD := ne_of_none h1 ht
            refine ⟨.list (((List.range l.length).filter fun i => !azC (l.getD i 0)).map fun _ => .int 1), .list [], .lst (SqL.of (by rw [upd_ne nD]; exact h1)) (dp_const _), .lst (SqL.of upd_same) .nil, shaped_const _, shaped_ints [], ?_⟩
            rw [eqv_map_nil, none_at l azC 0]
            exact q _ (s1.trans (same_new ht))
    | _ => exact iteT (iteT (q _ (Same.refl _)))
def spLBody : Sp := fun vs H Q _ => ∃ p c v d q n b, vs = [v] ∧ Dg p c H v d ∧ Gd q d n b ∧ ∀ H', Same H H' → Q (.bl (bodyB d)) H'
theorem ok_lbody {f : Addr} {fd : FuncData} (F : Fn K mg "_law_is_body" s__law_is_body ["_law_thing"] f fd) (B : Con mg tn tw tb) : FnOk P w K mg base CX0 1 f fd ["_law_thing"] spLBody := by
  refine F.F.ok sc__law_is_body (fun vs H Q E h => ?_) (fun cdv A outer s H vs Q E hr h => ?_)
  · obtain ⟨p, c, x, d, _, _, _, rfl, _⟩ := h
    rfl
  · obtain ⟨p, c, x, d, qq, n, b, rfl, hd, hg, q⟩ := h
    refine ⟨_, (pss_one (ps_ret (pe_and (pe_callB call_isi (by rfl) B.n_isinstance (by decide +kernel) (pa_cons (pv 0) (pa_cons (pe_bltn (v := .ty "str") (by rfl) B.n_str (by decide +kernel) rfl) pa_nil))) (pe_and (pe_cmpR op_le (pe_callB call_len_str (by rfl) B.n_len PySem.boot_len (pa_cons (pv 0) pa_nil)) pe_int (nomark _)) (pe_one (pe_cmpR (op_eqD hr.units) (pe_lc (own := [("_law_sign", 1)]) rfl sc__law_is_body.nd (pi_str (pv 0)) (blkOk_by (N := N__law_is_body) (sc := defScope s__law_is_body) (by decide +kernel)) (fun _ _ _ _ _ => (pg_name (i := 1) sc__law_is_body.nd rfl (Or.inl rfl))) (fun _ _ _ _ _ => (pts_one (pt_not (pt_chain op_le op_le pe_int (pe_callB call_ord (by rfl) B.n_ord (by decide +kernel) (pa_cons (pv 1) pa_nil)) pe_int)))) (fun _ _ _ _ _ => pe_int)) (pe_lst pa_nil) (nomark _))))))), ?_⟩
    refine ⟨_, rfl, x, .ty "str", _, _, _, rfl, .ty "str", hd.tyx, isi_S d, _, rfl, ?_⟩
    cases hd with
    | str x =>
      obtain ⟨h1, h2⟩ := hg.strlen
      have hx : x = S x.cps.toList := rfl
      generalize x.cps.toList = l at h1 h2 hx q
      subst hx
      refine iteT ?_
      refine ⟨.str (S l), rfl, S l, rfl, sz (by rw [S_len]; omega), _, _, rfl, rfl, _, rfl, ?_⟩
      rw [S_len]
      have q : ∀ H', Same H H' → Q (.bl (decide (l.length ≤ 150) && plainL l)) H' := q
      have e2 : decide ((l.length : Int) ≤ 150) = decide (l.length ≤ 150) := by
        rw [Bool.eq_iff_iff, decide_eq_true_eq, decide_eq_true_eq]
        omega
      rw [e2]
      refine ite2 (fun h4 => ?_) (fun h4 => ?_)
      · rw [h4, Bool.true_and] at q
        have hzs : (S l).cps.size = l.length := by simp
        refine ⟨_, rfl, S l, rfl, fun D hD => ?_⟩
        refine lc_sel (walk_str (z := S l)) (fun i => !plainC (l.getD i 0)) (fun _ => .int 1) (by rw [hzs]; omega) hD (fun _ _ => trivial) ?_ ?_
        · rintro i y H1 H2 k k0 hi s1 ⟨rfl, c', hc, rfl⟩ hk hk0
          have hc' : l[i]? = some c' := by simpa using hc
          rw [List.getD_eq_getElem?_getD, hc'] at hk hk0
          have hp : plainC c' = (decide ((32 : Int) ≤ (c' : Int)) && decide ((c' : Int) ≤ 126)) := by
            unfold plainC
            rw [Bool.eq_iff_iff]
            simp
            omega
          have hk : plainC c' = false → ∀ H4, Same H2 H4 → k (.int 1) H4 := fun h => hk (by show (!plainC c') = true; rw [h]; rfl)
          have hk0 : plainC c' = true → ∀ H4, Same H2 H4 → k0 H4 := fun h => hk0 (by show (!plainC c') = false; rw [h]; rfl)
          refine ⟨rfl, _, rfl, _, rfl, rfl, _, _, rfl, rfl, _, rfl, ?_⟩
          refine show if decide ((32 : Int) ≤ (c' : Int)) = true then _ else _ from ?_
          cases ha : decide ((32 : Int) ≤ (c' : Int)) with
          | false =>
            refine iteF ⟨_, rfl, ?_⟩
            exact iteT (hk (by rw [hp, ha]; rfl) _ (Same.refl _))
          | true =>
            refine iteT ⟨_, _, rfl, rfl, _, rfl, ?_⟩
            refine show if (!decide ((c' : Int) ≤ 126)) = true then _ else _ from ?_
            cases hb : decide ((c' : Int) ≤ 126) with
            | false => exact iteT (hk (by rw [hp, ha, hb]; rfl) _ (Same.refl _))
            | true => exact iteF (hk0 (by rw [hp, ha, hb]; rfl) _ (Same.refl _))
        · intro H1 s1 h1
          rw [hzs] at h1
          refine ⟨Nat.zero_le _, fun t ht => ?_⟩
          have nD := ne_of_none h1 ht
          refine ⟨.list (((List.range l.length).filter fun i => !plainC (l.getD i 0)).map fun _ => .int 1), .list [], .lst (SqL.of (by rw [upd_ne nD]; exact h1)) (dp_const _), .lst (SqL.of upd_same) .nil, shaped_const _, shaped_ints [], ?_⟩
          rw [eqv_map_nil, none_at l plainC 0]
          exact q _ (s1.trans (same_new ht))
      · rw [Bool.eq_false_iff.mpr h4, Bool.false_and] at q
        exact q _ (Same.refl _)
    | _ => exact q _ (Same.refl _)
def spLNums : Sp := fun vs H Q _ => ∃ p c v d q n b m, vs = [v, .int m] ∧ Dg p c H v d ∧ Gd q d n b ∧ ∀ H', Same H H' → Q (.bl (cntB m d)) H'
theorem ok_lnums {f f1 : Addr} {fd fd1 : FuncData} (F : Fn K mg "_law_are_numbers" s__law_are_numbers ["_law_thing", "_law_high"] f fd) (B : Con mg tn tw tb) (F__law_is_whole : Fn K mg "_law_is_whole" s__law_is_whole ["_law_thing", "_law_low", "_law_high"] f1 fd1) :
    FnOk P w K mg base CX0 2 f fd ["_law_thing", "_law_high"] spLNums := by
  have G__law_is_whole : FnOk P w K mg base CX0 1 f1 fd1 ["_law_thing", "_law_low", "_law_high"] spWhole := ok_whole F__law_is_whole B
  refine F.F.ok sc__law_are_numbers (fun vs H Q E h => ?_) (fun cdv A outer s H vs Q E hr h => ?_)
  · obtain ⟨p, c, x, d, _, _, _, m, rfl, _⟩ := h
    rfl
  · obtain ⟨p, c, x, d, qq, n, b, m, rfl, hd, hg, q⟩ := h
    refine ⟨_, (pss_cons (ps_if (PW.pt (pw_or (pt_not (pt_val (pe_callB call_isi (by rfl) B.n_isinstance (by decide +kernel) (pa_cons (pv 0) (pa_cons (pe_bltn (v := .ty "tuple") (by rfl) B.n_tuple (by decide +kernel) rfl) pa_nil))))) (pw_or1 (pt_cmpR (op_neD hr.units) (pe_lc (own := [("_law_part", 2)]) rfl sc__law_are_numbers.nd (pi_tup (pv 0)) (blkOk_by (N := N__law_are_numbers) (sc := defScope s__law_are_numbers) (by decide +kernel)) (fun _ _ _ _ _ => (pg_name (i := 2) sc__law_are_numbers.nd rfl (Or.inl rfl))) (fun _ _ _ _ _ => (pts_one (pt_not (pt_val (pe_call G__law_is_whole (hr.mono (by decide)) (by rfl) F__law_is_whole.g F__law_is_whole.F.kp F__law_is_whole.b .nil pass0 (pa_cons (pv 2) (pa_cons pe_int (pa_cons (pv 1) pa_nil)))))))) (fun _ _ _ _ _ => pe_int)) (pe_lst pa_nil) (nomark _)))))
      (pss_one (ps_ret pe_bl))
      pss_nil)
      (pss_one (ps_ret (pe_cmpR (op_eqD hr.units) (pe_callTy call_list_of (by rfl) B.n_list (by decide +kernel) (pa_cons (pv 0) pa_nil)) (pe_callB (cr_sortedSet rfl) (by rfl) B.n_sorted (by decide +kernel) (pa_cons (pe_callTy (cr_setI rfl) (by rfl) B.n_set (by decide +kernel) (pa_cons (pe_callTy call_list_of (by rfl) B.n_list (by decide +kernel) (pa_cons (pv 0) pa_nil)) pa_nil)) pa_nil)) (nomark _))))), ?_⟩
    refine ⟨_, rfl, x, .ty "tuple", _, _, _, rfl, .ty "tuple", hd.tyx, isi_T d, _, rfl, ?_⟩
    cases hd with
    | tup ha hA =>
      rename_i a xs ds
      obtain ⟨hgA, hl⟩ := hg.untup
      have hxl : xs.length ≤ 60 := by rw [hA.len]; exact hl
      refine iteF ?_
      refine ⟨_, rfl, a, rfl, ⟨_, SqT.of ha.2.2⟩, fun D hD => ?_⟩
      refine lc_sel (walk_tup (K := K) (a := a) (xs := xs)) (fun i => !wholeB 1 m (ds.getD i .none)) (fun _ => .int 1) (by omega) hD (fun H' s => SqT.of (s _ _ ha.2.2)) ?_ ?_
      · rintro i y H1 H2 k k0 hi s1 ⟨rfl, hy⟩ hk hk0
        obtain ⟨d, hdi, hdg⟩ := hA.at_ hy
        rw [List.getD_eq_getElem?_getD, hdi] at hk hk0
        refine ⟨rfl, _, rfl, _, rfl, p, c, y, d, 1, m, rfl, hdg.to (.same s1), _, rfl, ?_⟩
        cases hw : wholeB 1 m d with
        | false => exact iteT (hk (by show (!wholeB 1 m d) = true; rw [hw]; rfl) _ (Same.refl _))
        | true => exact iteF (hk0 (by show (!wholeB 1 m d) = false; rw [hw]; rfl) _ (Same.refl _))
      · intro H1 s1 h1
        refine ⟨Nat.zero_le _, fun t ht => ?_⟩
        have nD := ne_of_none h1 ht
        rw [hA.len] at h1
        refine ⟨.list (((List.range ds.length).filter fun i => !wholeB 1 m (ds.getD i .none)).map fun _ => .int 1), .list [], .lst (SqL.of (by rw [upd_ne nD]; exact h1)) (dp_const _), .lst (SqL.of upd_same) .nil, shaped_const _, shaped_ints [], _, rfl, ?_⟩
        rw [eqv_map_nil, none_at ds (wholeB 1 m) .none]
        have s1 := s1.trans (same_new (o := .lst []) ht)
        generalize upd H1 t (.lst []) = H2 at s1 ⊢
        have q : ∀ H', Same H H' → Q (.bl (ds.all (wholeB 1 m) && ascI (ds.map asInt))) H' := q
        cases hall : ds.all (wholeB 1 m) with
        | false =>
          rw [hall, Bool.false_and] at q
          exact iteT (q _ s1)
        | true =>
          rw [hall, Bool.true_and] at q
          refine iteF ?_
          have hxs := ints_of_D hA hall
          generalize ds.map asInt = ns at hxs q
          subst hxs
          rw [List.length_map] at hxl
          refine ⟨_, rfl, a, _, rfl, .inr (SqT.of (s1 _ _ ha.2.2)), fun l hl => ?_⟩
          have s2 := s1.trans (same_new (o := .lst (ns.map V.int)) hl)
          have hl2 : upd H2 l (.lst (ns.map V.int)) l = some (.lst (ns.map V.int)) := upd_same
          generalize upd H2 l (.lst (ns.map V.int)) = H3 at s2 hl2 ⊢
          refine ⟨_, rfl, a, _, rfl, .inr (SqT.of (s2 _ _ ha.2.2)), fun l2 hll2 => ?_⟩
          have n2 := ne_of_none hl2 hll2
          have s3 := s2.trans (same_new (o := .lst (ns.map V.int)) hll2)
          have hl3 : upd H3 l2 (.lst (ns.map V.int)) l = some (.lst (ns.map V.int)) := by rw [upd_ne n2]; exact hl2
          have hl4 : upd H3 l2 (.lst (ns.map V.int)) l2 = some (.lst (ns.map V.int)) := upd_same
          generalize upd H3 l2 (.lst (ns.map V.int)) = H4 at s3 hl3 hl4 ⊢
          refine ⟨l2, ns, rfl, .inl (SqL.of hl4), by omega, fun st L hst nd hm hll => ?_⟩
          have nls : l ≠ st := ne_of_none hl3 hst
          refine ⟨st, _, _, rfl, upd_same, by omega, fun ns' r hpw hmem hlen hr => ?_⟩
          have nlr : l ≠ r := ne_of_none (by rw [upd_ne nls]; exact hl3) hr
          refine ⟨.list (ns.map .int), .list (ns'.map .int), .lst (SqL.of (by rw [upd_ne nlr, upd_ne nls]; exact hl3)) (dpIntsG _), .lst (SqL.of upd_same) (dpIntsG _), shaped_ints _, shaped_ints _, ?_⟩
          have e2 : PyData.eqv (.list (ns.map .int)) (.list (ns'.map .int)) = ascI ns := by
            rw [PyData.eqv, eqv_ints, Bool.eq_iff_iff, decide_eq_true_eq, ascI_iff]
            constructor
            · rintro rfl
              exact hpw
            · intro h
              exact asc_uniq h hpw fun k => by rw [hmem k, decide_eq_true_eq]
          rw [e2]
          exact q _ ((s3.trans (same_new hst)).trans (same_new hr))
    | _ => exact iteT (iteT (q _ (Same.refl _)))
end
end Ag

end
/-! ## LC -/
section
set_option linter.all false
set_option maxRecDepth 100000
set_option maxHeartbeats 4000000
namespace Ag
open PySem PySem.Spec PyProof.Rows L2
open SX (S S_len S_cat S_inj)
/-! ### the law's own look at what was heard -/
def lastLe (ms : List Int) (x : Int) : Bool := match ms.getLast? with
  | none => true
  | some y => decide (y ≤ x)
def topOk (ns ms : List Int) : Bool := match ns with
  | [] => true
  | x :: l => l.all (fun y => decide (y = x)) && lastLe ms x
def lseenB (many : Nat) (bt an aw up : PyData) : Bool :=
  ((endsL aw up).all (wholeB 0 many) && cntB many an) && (topOk ((endsL aw up).map asInt) (intsT an) && (!isN bt || (isT0 an && (endsL aw up).isEmpty)))
theorem asc_snoc : ∀ {l : List Int} {y : Int}, ascI (l ++ [y]) = true → ∀ x ∈ l, x < y
  | a :: l, y, h, x, hx => by
    rw [List.cons_append, ascI, Bool.and_eq_true, List.all_eq_true] at h
    rcases List.mem_cons.mp hx with rfl | hx
    · simpa using h.1 y (by simp)
    · exact asc_snoc h.2 x hx
  | [], _, _, x, hx => by cases hx
theorem whole_int {lo hi : Int} {d : PyData} (h : wholeB lo hi d = true) : d = .int (asInt d) ∧ lo ≤ asInt d ∧ asInt d ≤ hi := by
  cases d with
  | int i =>
    simp only [wholeB, Bool.and_eq_true, decide_eq_true_eq] at h
    exact ⟨rfl, h.1, h.2⟩
  | _ => simp [wholeB] at h
theorem int_whole {lo hi : Int} {d : PyData} (h : d = .int (asInt d)) (h1 : lo ≤ asInt d) (h2 : asInt d ≤ hi) : wholeB lo hi d = true := by
  rw [h]
  simp only [wholeB, Bool.and_eq_true, decide_eq_true_eq]
  exact ⟨h1, h2⟩
theorem cnt_last {i many : Int} (h : i ≤ many) (an : PyData) : cntB i an = (cntB many an && lastLe (intsT an) i) := by
  cases an with
  | tuple xs =>
    simp only [cntB, intsT]
    rw [Bool.eq_iff_iff]
    simp only [Bool.and_eq_true, List.all_eq_true]
    constructor
    · rintro ⟨a, b⟩
      refine ⟨⟨fun d hd => ?_, b⟩, ?_⟩
      · obtain ⟨e, h1, h2⟩ := whole_int (a d hd)
        exact int_whole e h1 (by omega)
      · unfold lastLe
        cases hl : (xs.map asInt).getLast? with
        | none => rfl
        | some y =>
          have hm := List.mem_of_getLast? hl
          obtain ⟨d, hd, rfl⟩ := List.mem_map.mp hm
          exact decide_eq_true (whole_int (a d hd)).2.2
    · rintro ⟨⟨a, b⟩, c⟩
      refine ⟨fun d hd => ?_, b⟩
      obtain ⟨e, h1, h2⟩ := whole_int (a d hd)
      refine int_whole e h1 ?_
      have hm : asInt d ∈ xs.map asInt := List.mem_map_of_mem hd
      generalize xs.map asInt = ms at b c hm
      unfold lastLe at c
      cases hl : ms.getLast? with
      | none =>
        rw [List.getLast?_eq_none_iff] at hl
        subst hl
        cases hm
      | some y =>
        rw [hl] at c
        have c : y ≤ i := of_decide_eq_true c
        obtain ⟨ini, rfl⟩ := List.getLast?_eq_some_iff.mp hl
        rcases List.mem_append.mp hm with hm | hm
        · have := asc_snoc b _ hm
          omega
        · rw [List.mem_singleton.mp hm]
          exact c
  | _ => rfl
theorem ends_empty (aw up : PyData) : (endsL aw up).isEmpty = (isN aw && isN up) := by
  unfold endsL
  cases isN aw <;> cases isN up <;> rfl
theorem num_whole {many : Nat} (hm : many ≤ 1000000000) : numE many = wholeB 0 many := by
  funext d
  unfold numE
  cases d with
  | int i =>
    refine show ((decide (0 ≤ i) && decide (i ≤ 1000000000)) && decide (i ≤ (many : Int))) = (decide (0 ≤ i) && decide (i ≤ (many : Int))) from ?_
    by_cases h : i ≤ (many : Int)
    · rw [decide_eq_true h, decide_eq_true (show i ≤ 1000000000 by omega)]
      simp
    · rw [decide_eq_false h]
      simp
  | _ => rfl
theorem seen_eq {many : Nat} {bt an aw up : PyData} (hm : many ≤ 1000000000) (hb : (isN bt || wholeB 0 1000000000 bt) = true) : lseenB many bt an aw up = seenB many bt an aw up := by
  unfold lseenB seenB
  rw [ends_empty]
  cases hn : isN bt with
  | true =>
    rw [if_pos rfl, Bool.not_true, Bool.false_or]
    cases ht : isT0 an with
    | false => simp
    | true =>
      have e : an = .tuple [] := by
        cases an with
        | tuple xs => cases xs with
          | nil => rfl
          | cons _ _ => simp [isT0] at ht
        | _ => simp [isT0] at ht
      subst e
      cases ha : isN aw with
      | false => simp
      | true =>
        cases hu : isN up with
        | false => simp
        | true =>
          have : endsL aw up = [] := by unfold endsL; rw [ha, hu]; rfl
          rw [this]
          rfl
  | false =>
    rw [hn, Bool.false_or] at hb
    rw [if_neg (by decide), hb, num_whole hm, Bool.not_false, Bool.true_or, Bool.and_true, Bool.true_and, Bool.and_assoc]
    have hl := ends_le aw up
    generalize endsL aw up = E at hl ⊢
    cases he : E.all (wholeB 0 many) with
    | false => rfl
    | true =>
      rw [Bool.true_and, Bool.true_and]
      rw [List.all_eq_true] at he
      match E, hl, he with
      | [], _, _ => simp [topOk, oneB, minE]
      | [x], _, he =>
        obtain ⟨_, h1, h2⟩ := whole_int (he x (by simp))
        simp only [List.map_cons, List.map_nil, topOk, oneB, minE, List.all_nil, Bool.true_and]
        rw [Int.min_eq_left h2]
        exact (cnt_last h2 an).symm
      | [x, y], _, he =>
        obtain ⟨_, h1, h2⟩ := whole_int (he x (by simp))
        obtain ⟨_, h3, h4⟩ := whole_int (he y (by simp))
        simp only [List.map_cons, List.map_nil, topOk, oneB, minE, List.all_nil, List.all_cons, Bool.and_true]
        by_cases hxy : asInt x = asInt y
        · rw [decide_eq_true hxy.symm, decide_eq_true hxy, Bool.true_and, Bool.true_and, ← hxy, Int.min_eq_left h2, Int.min_self]
          exact (cnt_last h2 an).symm
        · rw [decide_eq_false (fun e => hxy e.symm), decide_eq_false hxy]
          simp
theorem eqv_tup_nil (l : List Int) : PyData.eqv (.tuple (l.map PyData.int)) (.tuple []) = decide (l = []) := by
  cases l <;> simp [PyData.eqv, PyData.eqvAll]
theorem eqv_lst_nil (l : List Int) : PyData.eqv (.list (l.map PyData.int)) (.list []) = decide (l = []) := by
  cases l <;> simp [PyData.eqv, PyData.eqvAll]
theorem shaped_tup (cs : List Int) : SeqAt.shaped (.tuple (cs.map PyData.int)) = true := by
  simp [SeqAt.shaped, PyData.canLay0, PyData.depth, lay_ints, depth_ints]
theorem testIf {t : TT} {σ : L2.St} {H : Hp} {Q : Bool → Hp → Prop} (I : Bool → Hp → Prop) (h : ∀ Q' : Bool → Hp → Prop, (∀ b H', I b H' → Q' b H') → t σ H Q') (k : ∀ b H', I b H' → Q b H') : t σ H Q := h Q k
theorem cnt_ints {m : Int} {an : PyData} (h : cntB m an = true) : ∃ xs, an = .tuple xs ∧ xs.all (wholeB 1 m) = true := by
  cases an with
  | tuple xs =>
    rw [cntB, Bool.and_eq_true] at h
    exact ⟨xs, rfl, h.1⟩
  | _ => simp [cntB] at h
section
variable {P : Program} {w : World} {K : PySem.W.Frag} {mg : Str → Option Value} {base : Heap} {tn tw tb : Tok}
def spLSeen : Sp := fun vs H Q _ => ∃ p c v0 d0 v3 d3 v4 d4 v5 d5 q n b, ∃ many : Nat, vs = [v0, .int many, v3, v4, v5] ∧ Dg p c H v0 d0 ∧ Dg p c H v3 d3 ∧ Gd q d3 n b ∧ Dg p c H v4 d4 ∧ Dg p c H v5 d5 ∧ ∀ H', Same H H' → Q (.bl (lseenB many d0 d3 d4 d5)) H'
theorem ok_lseen {f f1 f2 : Addr} {fd fd1 fd2 : FuncData} (F : Fn K mg "_law_is_seen" s__law_is_seen ["_law_boot", "_law_many", "_law_replied", "_law_away", "_law_upto"] f fd) (B : Con mg tn tw tb)
    (F__law_is_whole : Fn K mg "_law_is_whole" s__law_is_whole ["_law_thing", "_law_low", "_law_high"] f1 fd1) (F__law_are_numbers : Fn K mg "_law_are_numbers" s__law_are_numbers ["_law_thing", "_law_high"] f2 fd2) :
    FnOk P w K mg base CX0 3 f fd ["_law_boot", "_law_many", "_law_replied", "_law_away", "_law_upto"] spLSeen := by
  have G__law_is_whole : FnOk P w K mg base CX0 1 f1 fd1 ["_law_thing", "_law_low", "_law_high"] spWhole := ok_whole F__law_is_whole B
  have G__law_are_numbers : FnOk P w K mg base CX0 2 f2 fd2 ["_law_thing", "_law_high"] spLNums := ok_lnums F__law_are_numbers B F__law_is_whole
  refine F.F.ok sc__law_is_seen (fun vs H Q E h => ?_) (fun cdv A outer s H vs Q E hr h => ?_)
  · obtain ⟨p, c, v0, d0, v3, d3, v4, d4, v5, d5, _, _, _, many, rfl, _⟩ := h
    rfl
  · obtain ⟨p, c, v0, d0, v3, d3, v4, d4, v5, d5, qq, n, b, many, rfl, g0, g3, k3, g4, g5, q⟩ := h
    refine ⟨_, (pss_cons (ps_setLc (i := 5) (own := [("_law_end", 6)]) rfl sc__law_is_seen.nd rfl rfl (sw_true rfl rfl rfl (by decide +kernel)) (pi_tup (pe_tup (pa_cons (pv 3) (pa_cons (pv 4) pa_nil)))) (blkOk_by (N := N__law_is_seen) (sc := defScope s__law_is_seen) (by decide +kernel)) (fun _ _ _ _ _ => (pg_name (i := 6) sc__law_is_seen.nd rfl (Or.inl rfl))) (fun _ _ _ _ _ => (pts_one (pt_cmpR op_notN (pv 6) pe_non (nomark _)))) (fun _ _ _ _ _ => (pv 6)))
      (pss_cons (ps_if (PW.pt (pw_or (pt_cmpR (op_neD hr.units) (pe_lc (own := [("_law_end", 6)]) rfl sc__law_is_seen.nd (pi_list (pv 5)) (blkOk_by (N := N__law_is_seen) (sc := defScope s__law_is_seen) (by decide +kernel)) (fun _ _ _ _ _ => (pg_name (i := 6) sc__law_is_seen.nd rfl (Or.inl rfl))) (fun _ _ _ _ _ => (pts_one (pt_not (pt_val (pe_call G__law_is_whole (hr.mono (by decide)) (by rfl) F__law_is_whole.g F__law_is_whole.F.kp F__law_is_whole.b .nil pass0 (pa_cons (pv 6) (pa_cons pe_int (pa_cons (pv 1) pa_nil)))))))) (fun _ _ _ _ _ => pe_int)) (pe_lst pa_nil) (nomark _)) (pw_or1 (pt_not (pt_val (pe_call G__law_are_numbers (hr.mono (by decide)) (by rfl) F__law_are_numbers.g F__law_are_numbers.F.kp F__law_are_numbers.b .nil pass0 (pa_cons (pv 2) (pa_cons (pv 1) pa_nil))))))))
      (pss_one (ps_ret pe_bl))
      pss_nil)
      (pss_cons (ps_if (PW.pt (pw_and (pt_cmpR (op_neD hr.units) (pv 5) (pe_lst pa_nil) (nomark _)) (pw_and1 (PW.pt (pw_or (pt_cmpR op_ne (pe_callB (cr_min rfl) (by rfl) B.n_min (by decide +kernel) (pa_cons (pv 5) pa_nil)) (pe_callB (cr_max rfl) (by rfl) B.n_max (by decide +kernel) (pa_cons (pv 5) pa_nil)) (nomark _)) (pw_or1 (PW.pt (pw_and (pt_cmpR (op_neD hr.units) (pv 2) (pe_tup pa_nil) (nomark _)) (pw_and1 (pt_cmpR op_gt (pe_ix ix_tup (pv 2) (pe_un un_neg pe_int) (fun _ _ => rfl)) (pe_ix ix_list (pv 5) pe_int (fun _ _ => rfl)) (nomark _)))))))))))
      (pss_one (ps_ret pe_bl))
      pss_nil)
      (pss_one (ps_ret (pe_or (pe_cmpR op_notN (pv 0) pe_non (nomark _)) (pe_one (pe_and (pe_cmpR (op_eqD hr.units) (pv 2) (pe_tup pa_nil) (nomark _)) (pe_one (pe_cmpR (op_eqD hr.units) (pv 5) (pe_lst pa_nil) (nomark _))))))))))), ?_⟩
    refine ⟨_, rfl, _, rfl, sz (by show 2 ≤ 16000000; decide), fun T hT => ?_⟩
    have s1 := same_new (o := .tup [v4, v5]) hT
    have hT1 : upd H T (.tup [v4, v5]) T = some (.tup [v4, v5]) := upd_same
    generalize upd H T (.tup [v4, v5]) = H1 at s1 hT1 ⊢
    refine ⟨T, rfl, ⟨_, SqT.of hT1⟩, fun D hD => ?_⟩
    refine lc_sel (walk_tup (K := K) (a := T) (xs := [v4, v5])) (fun i => !decide (([v4, v5] : List V).getD i .non = .non)) (fun i => ([v4, v5] : List V).getD i .non) (by show 2 ≤ _; decide) hD (fun H' s => SqT.of (s _ _ hT1)) ?_ ?_
    · rintro i y H4 H5 k kf hi s4 ⟨rfl, hy⟩ hk hk0
      have ey : ([v4, v5] : List V).getD i .non = y := by rw [List.getD_eq_getElem?_getD, hy]; rfl
      rw [ey] at hk hk0
      refine ⟨rfl, _, rfl, rfl, _, rfl, ?_⟩
      cases hn : decide (y = V.non) with
      | false => exact iteT ⟨_, rfl, hk (by rw [hn]; rfl) _ (Same.refl _)⟩
      | true => exact iteF (hk0 (by rw [hn]; rfl) _ (Same.refl _))
    intro H2 s2 h2
    have s2 := s1.trans s2
    rw [show ([v4, v5] : List V).length = 2 from rfl, sel_ends] at h2
    have hE := dg_ends (g4.to (.same s2)) (g5.to (.same s2))
    have hEl := ends_le d4 d5
    unfold lseenB at q
    generalize evsL v4 v5 = vs at h2 hE
    generalize endsL d4 d5 = E at hE hEl q
    -- all ends are numbers
    refine ⟨_, rfl, D, rfl, ⟨_, SqL.of h2⟩, fun D2 hD2 => ?_⟩
    refine lc_sel (walk_list (K := K) (a := D) (xs := vs)) (fun i => !wholeB 0 many (E.getD i .none)) (fun _ => .int 1) (by rw [hE.len]; omega) hD2 (fun H' s => SqL.of (s _ _ h2)) ?_ ?_
    · rintro i y H4 H5 k k0 hi s4 ⟨rfl, hy⟩ hk hk0
      obtain ⟨d, hdi, hdg⟩ := hE.at_ hy
      rw [List.getD_eq_getElem?_getD, hdi] at hk hk0
      refine ⟨rfl, _, rfl, _, rfl, p, c, y, d, 0, many, rfl, hdg.to (.same s4), _, rfl, ?_⟩
      cases hw : wholeB 0 many d with
      | false => exact iteT (hk (by show (!wholeB 0 many d) = true; rw [hw]; rfl) _ (Same.refl _))
      | true => exact iteF (hk0 (by show (!wholeB 0 many d) = false; rw [hw]; rfl) _ (Same.refl _))
    intro H3 s3 h3
    have h23 := s3 _ _ h2
    have s3 := s2.trans s3
    refine ⟨Nat.zero_le _, fun t ht => ?_⟩
    have nD := ne_of_none h3 ht
    rw [hE.len] at h3
    refine ⟨.list (((List.range E.length).filter fun i => !wholeB 0 many (E.getD i .none)).map fun _ => .int 1), .list [], .lst (SqL.of (by rw [upd_ne nD]; exact h3)) (dp_const _), .lst (SqL.of upd_same) .nil, shaped_const _, shaped_ints [], _, rfl, ?_⟩
    rw [eqv_map_nil, none_at E (wholeB 0 many) .none]
    have h24 := same_new (o := .lst []) ht _ _ h23
    have s4 := s3.trans (same_new (o := .lst []) ht)
    clear h3 h23 nD h2
    generalize upd H3 t (.lst []) = H4 at s4 h24 ⊢
    cases he : E.all (wholeB 0 many) with
    | false =>
      rw [he, Bool.false_and, Bool.false_and] at q
      exact iteT (iteT (q _ s4))
    | true =>
    rw [he, Bool.true_and] at q
    refine iteF ?_
    refine ⟨_, rfl, _, rfl, p, c, v3, d3, qq, _, _, many, rfl, g3.to (.same s4), k3, fun H5 s5 => ⟨_, rfl, ?_⟩⟩
    have h25 := s5 _ _ h24
    have s5 := s4.trans s5
    cases hc : cntB many d3 with
    | false =>
      rw [hc, Bool.false_and] at q
      exact iteT (q _ s5)
    | true =>
    rw [hc, Bool.true_and] at q
    refine iteF ?_
    obtain ⟨rs, rfl, hrs⟩ := cnt_ints hc
    have g3 := g3.to (.same s5)
    cases g3 with
    | @tup a3 zs _ ha3 hA3 =>
    have hvs := ints_of_D hE he
    have hzs := ints_of_D hA3 hrs
    have hns : (E.map asInt).length ≤ 2 := by rw [List.length_map]; exact hEl
    have hei : E.isEmpty = decide (E.map asInt = []) := by cases E <;> rfl
    have hti : isT0 (.tuple rs) = decide (rs.map asInt = []) := by cases rs <;> rfl
    have hii : intsT (.tuple rs) = rs.map asInt := rfl
    rw [hei, hti, hii] at q
    generalize E.map asInt = ns at hvs hns q
    generalize rs.map asInt = ms at hzs q
    subst hvs
    subst hzs
    unfold tNext
    dsimp only
    unfold tSeq
    dsimp only
    unfold tIfS
    refine testIf (fun b H' => Same H5 H' ∧ b = !topOk ns ms) (fun Q' hQ' => ?_) ?_
    · refine ⟨_, rfl, Nat.zero_le _, fun t2 ht2 => ?_⟩
      have nD := ne_of_none h25 ht2
      refine ⟨.list (ns.map .int), .list [], .lst (SqL.of (by rw [upd_ne nD]; exact h25)) (dpIntsG _), .lst (SqL.of upd_same) .nil, shaped_ints _, shaped_ints [], _, rfl, ?_⟩
      rw [eqv_lst_nil]
      have s6 := same_new (o := .lst []) ht2
      have h26 := s6 _ _ h25
      have ha6 := ha3.kp (.same s6)
      generalize upd H5 t2 (.lst []) = H6 at s6 h26 ha6 ⊢
      match ns, hns, h26, hQ' with
      | [], _, _, hQ' => exact iteF (hQ' _ _ ⟨s6, rfl⟩)
      | x :: l, hns, h26, hQ' =>
        refine iteT ?_
        refine ⟨_, rfl, D, x :: l, rfl, SqL.of h26, by simp, fun lo l1 l2 => ⟨_, rfl, D, x :: l, rfl, SqL.of h26, by simp, fun hi u1 u2 => ⟨rfl, _, rfl, ?_⟩⟩⟩
        have hmm : (!decide (V.int lo = V.int hi)) = !(l.all fun y => decide (y = x)) := by
          congr 1
          rw [Bool.eq_iff_iff, decide_eq_true_eq, List.all_eq_true]
          constructor
          · intro e y hy
            injection e with e
            have a1 := l2 y (List.mem_cons_of_mem _ hy)
            have a2 := u2 y (List.mem_cons_of_mem _ hy)
            have a3 := l2 x List.mem_cons_self
            have a4 := u2 x List.mem_cons_self
            exact decide_eq_true (by omega)
          · intro h
            have e1 : lo = x := by
              rcases List.mem_cons.mp l1 with e | e
              · exact e
              · exact of_decide_eq_true (h lo e)
            have e2 : hi = x := by
              rcases List.mem_cons.mp u1 with e | e
              · exact e
              · exact of_decide_eq_true (h hi e)
            rw [e1, e2]
        rw [hmm]
        cases hall : (l.all fun y => decide (y = x)) with
        | false =>
          exact iteT (hQ' _ _ ⟨s6, by simp only [topOk, hall]; rfl⟩)
        | true =>
          refine iteF ?_
          refine ⟨_, rfl, sz (Nat.zero_le _), fun t3 ht3 => ?_⟩
          refine ⟨.tuple (ms.map .int), .tuple [], .tup (SqT.of ((ha6.kp (.same (same_new ht3))).2.2)) (dpIntsG _), .tup (SqT.of upd_same) .nil, shaped_tup _, shaped_tup [], _, rfl, ?_⟩
          rw [eqv_tup_nil]
          have s7 := same_new (o := .tup []) ht3
          have h27 := s7 _ _ h26
          have ha7 := ha6.kp (.same s7)
          have s7 := s6.trans s7
          generalize upd H6 t3 (.tup []) = H7 at s7 h27 ha7 ⊢
          cases hl : ms.getLast? with
          | none =>
            have hl0 := List.getLast?_eq_none_iff.mp hl
            subst hl0
            refine iteF (hQ' _ _ ⟨s7, ?_⟩)
            simp only [topOk, hall, lastLe, List.getLast?_nil]
            rfl
          | some y =>
            obtain ⟨ini, rfl⟩ := List.getLast?_eq_some_iff.mp hl
            rw [decide_eq_false (by simp)]
            refine iteT ?_
            refine ⟨_, rfl, _, rfl, a3, _, _, .int y, rfl, rfl, SqT.of ha7.2.2, ?_, ?_⟩
            · rw [List.map_append]
              exact atI_last _ _
            refine ⟨_, rfl, D, _, _, .int x, rfl, rfl, SqL.of h27, atI_nat (j := 0) rfl, _, _, rfl, rfl, _, rfl, ?_⟩
            have e : decide (x < y) = !topOk (x :: l) (ini ++ [y]) := by
              simp only [topOk, hall, lastLe, hl, Bool.true_and]
              rw [Bool.eq_iff_iff]
              simp
            have hq := hQ' _ H7 ⟨s7, e⟩
            exact hq
    · rintro bb H6 ⟨s6, rfl⟩
      have h26 := s6 _ _ h25
      have ha6 := ha3.kp (.same s6)
      have s6 := s5.trans s6
      cases ht : topOk ns ms with
      | false =>
        rw [ht, Bool.false_and] at q
        exact iteT (q _ s6)
      | true =>
        rw [ht, Bool.true_and] at q
        refine iteF ?_
        refine ⟨_, rfl, rfl, _, rfl, ?_⟩
        rw [g0.isN]
        cases hb : isN d0 with
        | false =>
          rw [hb, Bool.not_false, Bool.true_or] at q
          exact iteT (q _ s6)
        | true =>
          rw [hb, Bool.not_true, Bool.false_or] at q
          refine iteF ?_
          refine ⟨_, rfl, sz (Nat.zero_le _), fun t3 ht3 => ?_⟩
          refine ⟨.tuple (ms.map .int), .tuple [], .tup (SqT.of ((ha6.kp (.same (same_new ht3))).2.2)) (dpIntsG _), .tup (SqT.of upd_same) .nil, shaped_tup _, shaped_tup [], _, rfl, ?_⟩
          rw [eqv_tup_nil]
          have s7 := same_new (o := .tup []) ht3
          have h27 := s7 _ _ h26
          have s7 := s6.trans s7
          generalize upd H6 t3 (.tup []) = H7 at s7 h27 ⊢
          cases hm : decide (ms = []) with
          | false =>
            rw [hm, Bool.false_and] at q
            exact iteF (q _ s7)
          | true =>
            rw [hm, Bool.true_and] at q
            refine iteT ?_
            refine ⟨_, rfl, Nat.zero_le _, fun t4 ht4 => ?_⟩
            have nD := ne_of_none h27 ht4
            refine ⟨.list (ns.map .int), .list [], .lst (SqL.of (by rw [upd_ne nD]; exact h27)) (dpIntsG _), .lst (SqL.of upd_same) .nil, shaped_ints _, shaped_ints [], ?_⟩
            rw [eqv_lst_nil]
            exact q _ (s7.trans (same_new ht4))
end
end Ag

end
/-! ## LD -/
section
set_option linter.all false
set_option maxRecDepth 100000
set_option maxHeartbeats 4000000
namespace Ag
open PySem PySem.Spec PyProof.Rows L2
open SX (S S_len S_cat S_inj)
theorem seen_no {many : Nat} {bt an aw up : PyData} (h1 : isN bt = false) (h2 : wholeB 0 1000000000 bt = false) : seenB many bt an aw up = false := by
  unfold seenB
  rw [h1, if_neg (by decide), h2, Bool.false_and]
section
variable {P : Program} {w : World} {K : PySem.W.Frag} {mg : Str → Option Value} {base : Heap} {tn tw tb : Tok}
def spLView : Sp := fun vs H Q _ => ∃ p c v d q n b, vs = [v] ∧ Dg p c H v d ∧ Gd q d n b ∧ ∀ H', Same H H' → Q (.bl (viewB d)) H'
theorem ok_lview {f f1 f2 f3 f4 : Addr} {fd fd1 fd2 fd3 fd4 : FuncData} (F : Fn K mg "_law_is_view" s__law_is_view ["_law_thing"] f fd) (B : Con mg tn tw tb)
    (F__law_is_word : Fn K mg "_law_is_word" s__law_is_word ["_law_thing"] f1 fd1) (F__law_is_whole : Fn K mg "_law_is_whole" s__law_is_whole ["_law_thing", "_law_low", "_law_high"] f2 fd2)
    (F__law_is_body : Fn K mg "_law_is_body" s__law_is_body ["_law_thing"] f3 fd3)
    (F__law_is_seen : Fn K mg "_law_is_seen" s__law_is_seen ["_law_boot", "_law_many", "_law_replied", "_law_away", "_law_upto"] f4 fd4) (G__law_is_seen : FnOk P w K mg base CX0 3 f4 fd4 ["_law_boot", "_law_many", "_law_replied", "_law_away", "_law_upto"] spLSeen) :
    FnOk P w K mg base CX0 4 f fd ["_law_thing"] spLView := by
  have G__law_is_whole : FnOk P w K mg base CX0 1 f2 fd2 ["_law_thing", "_law_low", "_law_high"] spWhole := ok_whole F__law_is_whole B
  have G__law_is_word : FnOk P w K mg base CX0 1 f1 fd1 ["_law_thing"] spLWord := ok_lword F__law_is_word B
  have G__law_is_body : FnOk P w K mg base CX0 1 f3 fd3 ["_law_thing"] spLBody := ok_lbody F__law_is_body B
  refine F.F.ok sc__law_is_view (fun vs H Q E h => ?_) (fun cdv A outer s H vs Q E hr h => ?_)
  · obtain ⟨p, c, x, d, _, _, _, rfl, _⟩ := h
    rfl
  · obtain ⟨p, c, x, d, qq, n, b, rfl, hd, hg, q⟩ := h
    refine ⟨_, (pss_cons (ps_if (PW.pt (pw_or (pt_not (pt_val (pe_callB call_isi (by rfl) B.n_isinstance (by decide +kernel) (pa_cons (pv 0) (pa_cons (pe_bltn (v := .ty "tuple") (by rfl) B.n_tuple (by decide +kernel) rfl) pa_nil))))) (pw_or (pt_cmpR op_ne (pe_callB call_len_seq (by rfl) B.n_len PySem.boot_len (pa_cons (pv 0) pa_nil)) pe_int (nomark _)) (pw_or1 (pt_not (pt_val (pe_call G__law_is_word (hr.mono (by decide)) (by rfl) F__law_is_word.g F__law_is_word.F.kp F__law_is_word.b .nil pass0 (pa_cons (pe_ix ix_tup (pv 0) pe_int (fun _ _ => rfl)) pa_nil))))))))
      (pss_one (ps_ret pe_bl))
      pss_nil)
      (pss_cons (ps_if (PW.pt (pw_and (pt_cmpR op_notN (pe_ix ix_tup (pv 0) pe_int (fun _ _ => rfl)) pe_non (nomark _)) (pw_and1 (pt_not (pt_val (pe_call G__law_is_whole (hr.mono (by decide)) (by rfl) F__law_is_whole.g F__law_is_whole.F.kp F__law_is_whole.b .nil pass0 (pa_cons (pe_ix ix_tup (pv 0) pe_int (fun _ _ => rfl)) (pa_cons pe_int (pa_cons (pe_op op_pow pe_int pe_int) pa_nil)))))))))
      (pss_one (ps_ret pe_bl))
      pss_nil)
      (pss_cons (ps_if (PW.pt (pw_or (pt_not (pt_val (pe_callB call_isi (by rfl) B.n_isinstance (by decide +kernel) (pa_cons (pe_ix ix_tup (pv 0) pe_int (fun _ _ => rfl)) (pa_cons (pe_bltn (v := .ty "tuple") (by rfl) B.n_tuple (by decide +kernel) rfl) pa_nil))))) (pw_or1 (pt_cmpR (op_neD hr.units) (pe_lc (own := [("_law_body_here", 1)]) rfl sc__law_is_view.nd (pi_tup (pe_ix ix_tup (pv 0) pe_int (fun _ _ => rfl))) (blkOk_by (N := N__law_is_view) (sc := defScope s__law_is_view) (by decide +kernel)) (fun _ _ _ _ _ => (pg_name (i := 1) sc__law_is_view.nd rfl (Or.inl rfl))) (fun _ _ _ _ _ => (pts_one (pt_not (pt_val (pe_call G__law_is_body (hr.mono (by decide)) (by rfl) F__law_is_body.g F__law_is_body.F.kp F__law_is_body.b .nil pass0 (pa_cons (pv 1) pa_nil)))))) (fun _ _ _ _ _ => pe_int)) (pe_lst pa_nil) (nomark _)))))
      (pss_one (ps_ret pe_bl))
      pss_nil)
      (pss_cons (ps_if (PW.pt (pw_or (pt_not (pt_val (pe_callB call_isi (by rfl) B.n_isinstance (by decide +kernel) (pa_cons (pe_ix ix_tup (pv 0) pe_int (fun _ _ => rfl)) (pa_cons (pe_bltn (v := .ty "str") (by rfl) B.n_str (by decide +kernel) rfl) pa_nil))))) (pw_or1 (pt_cmpR (op_notIn2 hr.units) (pe_ix ix_tup (pv 0) pe_int (fun _ _ => rfl)) (pe_tup (pa_cons pe_str (pa_cons pe_str pa_nil))) rfl))))
      (pss_one (ps_ret pe_bl))
      pss_nil)
      (pss_one (ps_ret (pe_call G__law_is_seen (hr.mono (by decide)) (by rfl) F__law_is_seen.g F__law_is_seen.F.kp F__law_is_seen.b .nil pass0 (pa_cons (pe_ix ix_tup (pv 0) pe_int (fun _ _ => rfl)) (pa_cons (pe_callB call_len_seq (by rfl) B.n_len PySem.boot_len (pa_cons (pe_ix ix_tup (pv 0) pe_int (fun _ _ => rfl)) pa_nil)) (pa_cons (pe_ix ix_tup (pv 0) pe_int (fun _ _ => rfl)) (pa_cons (pe_ix ix_tup (pv 0) pe_int (fun _ _ => rfl)) (pa_cons (pe_ix ix_tup (pv 0) pe_int (fun _ _ => rfl)) pa_nil)))))))))))), ?_⟩
    refine ⟨_, rfl, x, .ty "tuple", _, _, _, rfl, .ty "tuple", hd.tyx, isi_T d, _, rfl, ?_⟩
    cases hd with
    | @tup a xs ds ha hA =>
      have hgA := hg.untup.1
      refine iteF ?_
      refine ⟨_, rfl, a, xs, rfl, .inr (SqT.of ha.2.2), rfl, _, rfl, ?_⟩
      have hlen := hA.len
      by_cases h7 : ds.length = 7
      · have e7 : (!decide (V.int (xs.length : Nat) = V.int 7)) = false := by
          rw [hlen, h7]
          rfl
        rw [e7]
        refine iteF ?_
        obtain ⟨d0, d1, d2, d3, d4, d5, d6, rfl⟩ := len7 h7
        obtain ⟨x0, x1, x2, x3, x4, x5, x6, rfl⟩ := len7 (hlen.trans h7)
        match hA with
        | .cons g0 (.cons g1 (.cons g2 (.cons g3 (.cons g4 (.cons g5 (.cons g6 .nil)))))) =>
        have k0 := hgA.hd.1
        have k2 := hgA.hd.2.hd.2.hd.1
        have k3 := hgA.hd.2.hd.2.hd.2.hd.1
        have k6 := hgA.hd.2.hd.2.hd.2.hd.2.hd.2.hd.2.hd.1
        have q : ∀ H', Same H H' → Q (.bl ((wordB d0 && stB d6) && (bodiesB d2 && seenB (lenT d2) d1 d3 d4 d5))) H' := q
        refine ⟨_, rfl, a, _, _, x0, rfl, rfl, SqT.of ha.2.2, atI_nat (j := 0) rfl, p, c, x0, d0, qq, _, _, rfl, g0, k0, fun H1 s1 => ⟨_, rfl, ?_⟩⟩
        cases hw : wordB d0 with
        | false =>
          rw [hw, Bool.false_and, Bool.false_and] at q
          exact iteT (q _ s1)
        | true =>
        rw [hw, Bool.true_and] at q
        refine iteF ?_
        have ha1 := ha.kp (.same s1)
        have bad : isN d1 = false → wholeB 0 1000000000 d1 = false → ∀ H', Same H H' → Q (.bl false) H' := fun b1 b2 H' s' => by
          have := q H' s'
          rw [seen_no b1 b2, Bool.and_false, Bool.and_false] at this
          exact this
        unfold tNext
        dsimp only
        unfold tSeq
        dsimp only
        unfold tIfS
        refine testIf (fun b H' => H' = H1 ∧ b = !(isN d1 || wholeB 0 1000000000 d1)) (fun Q' hQ' => ?_) ?_
        · refine ⟨_, rfl, a, _, _, x1, rfl, rfl, SqT.of ha1.2.2, atI_nat (j := 1) rfl, rfl, _, rfl, ?_⟩
          rw [g1.isN]
          cases hb1 : isN d1 with
          | true => exact iteF (hQ' _ _ ⟨rfl, by rw [hb1]; rfl⟩)
          | false =>
            refine iteT ?_
            refine ⟨_, rfl, a, _, _, x1, rfl, rfl, SqT.of ha1.2.2, atI_nat (j := 1) rfl, _, _, rfl, rfl, ⟨by decide, by decide, by decide⟩, p, c, x1, d1, 0, 1000000000, rfl, g1.to (.same s1), _, rfl, ?_⟩
            exact hQ' _ _ ⟨rfl, by rw [hb1, Bool.false_or]⟩
        rintro bb H2 ⟨rfl, rfl⟩
        cases hbt : (isN d1 || wholeB 0 1000000000 d1) with
        | false =>
          rw [Bool.or_eq_false_iff] at hbt
          exact iteT (bad hbt.1 hbt.2 _ s1)
        | true =>
        refine iteF ?_
        refine ⟨_, rfl, a, _, _, x2, rfl, rfl, SqT.of ha1.2.2, atI_nat (j := 2) rfl, x2, .ty "tuple", _, _, _, rfl, .ty "tuple", (g2.to (.same s1)).tyx, isi_T d2, _, rfl, ?_⟩
        have g2 := g2.to (.same s1)
        cases g2 with
        | @tup a2 ys es hb hB =>
          obtain ⟨k2A, hel⟩ := k2.untup
          have hyl : ys.length ≤ 60 := by rw [hB.len]; exact hel
          refine iteF ?_
          refine ⟨_, rfl, a, _, _, .ref a2, rfl, rfl, SqT.of ha1.2.2, atI_nat (j := 2) rfl, a2, rfl, ⟨_, SqT.of hb.2.2⟩, fun D hD => ?_⟩
          refine lc_sel (walk_tup (K := K) (a := a2) (xs := ys)) (fun i => !bodyB (es.getD i .none)) (fun _ => .int 1) (by omega) hD (fun H' s => SqT.of (s _ _ hb.2.2)) ?_ ?_
          · rintro i y H4 H5 k k0 hi s4 ⟨rfl, hy⟩ hk hk0
            obtain ⟨d, hdi, hdg⟩ := hB.at_ hy
            rw [List.getD_eq_getElem?_getD, hdi] at hk hk0
            refine ⟨rfl, _, rfl, p, c, y, d, qq, _, _, rfl, hdg.to (.same s4), k2A.mem d (List.mem_of_getElem? hdi), fun H6 s6 => ⟨_, rfl, ?_⟩⟩
            cases hw : bodyB d with
            | false => exact iteT (hk (by show (!bodyB d) = true; rw [hw]; rfl) _ s6)
            | true => exact iteF (hk0 (by show (!bodyB d) = false; rw [hw]; rfl) _ s6)
          intro H3 s12 h3
          have s3 := s1.trans s12
          have ha3 := ha1.kp (.same s12)
          have hb3 := hb.kp (.same s12)
          refine ⟨Nat.zero_le _, fun t ht => ?_⟩
          have nD := ne_of_none h3 ht
          rw [hB.len] at h3
          refine ⟨.list (((List.range es.length).filter fun i => !bodyB (es.getD i .none)).map fun _ => .int 1), .list [], .lst (SqL.of (by rw [upd_ne nD]; exact h3)) (dp_const _), .lst (SqL.of upd_same) .nil, shaped_const _, shaped_ints [], _, rfl, ?_⟩
          rw [eqv_map_nil, none_at es bodyB .none]
          have s4n := same_new (o := .lst []) ht
          have ha4 := ha3.kp (.same s4n)
          have hb4 := hb3.kp (.same s4n)
          have s4 := s3.trans s4n
          clear h3 nD s4n
          generalize upd H3 t (.lst []) = H4 at s4 ha4 hb4 ⊢
          have q : ∀ H', Same H H' → Q (.bl (stB d6 && (es.all bodyB && seenB es.length d1 d3 d4 d5))) H' := q
          cases hbs : es.all bodyB with
          | false =>
            rw [hbs, Bool.false_and, Bool.and_false] at q
            exact iteT (q _ s4)
          | true =>
          rw [hbs, Bool.true_and] at q
          refine iteF ?_
          have g6 := g6.to (.same s4)
          refine ⟨_, rfl, a, _, _, x6, rfl, rfl, SqT.of ha4.2.2, atI_nat (j := 6) rfl, x6, .ty "str", _, _, _, rfl, .ty "str", g6.tyx, isi_S d6, _, rfl, ?_⟩
          have notS : isS d6 = false → stB d6 = false := fun h => by
            cases d6 with
            | str z => simp [isS] at h
            | _ => rfl
          cases hS : isS d6 with
          | false =>
            rw [notS hS, Bool.false_and] at q
            exact iteT (iteT (q _ s4))
          | true =>
          refine iteF ?_
          refine ⟨_, rfl, a, _, _, x6, rfl, rfl, SqT.of ha4.2.2, atI_nat (j := 6) rfl, sz (by show 2 ≤ 16000000; decide), fun t2 ht2 => ?_⟩
          have s5n := same_new (o := .tup [V.str (Str.ofString "open"), V.str (Str.ofString "broken")]) ht2
          refine ⟨p, c, d6, t2, _, _, g6.to (.same s5n), rfl, upd_same, _, rfl, ?_⟩
          refine show if (!stB d6) = true then _ else _ from ?_
          have ha5 := ha4.kp (.same s5n)
          have hb5 := hb4.kp (.same s5n)
          have s5 := s4.trans s5n
          clear s5n
          generalize upd H4 t2 (.tup [V.str (Str.ofString "open"), V.str (Str.ofString "broken")]) = H5 at s5 ha5 hb5 ⊢
          cases hst : stB d6 with
          | false =>
            rw [hst, Bool.false_and] at q
            exact iteT (q _ s5)
          | true =>
          rw [hst, Bool.true_and] at q
          refine iteF ?_
          have at5 : SqT K H5 a _ := SqT.of ha5.2.2
          refine ⟨_, rfl, a, _, _, x1, rfl, rfl, at5, atI_nat (j := 1) rfl, _, rfl, a, _, _, .ref a2, rfl, rfl, at5, atI_nat (j := 2) rfl, a2, ys, rfl, .inr (SqT.of hb5.2.2), _, rfl, a, _, _, x3, rfl, rfl, at5, atI_nat (j := 3) rfl, _, rfl, a, _, _, x4, rfl, rfl, at5, atI_nat (j := 4) rfl, _, rfl, a, _, _, x5, rfl, rfl, at5, atI_nat (j := 5) rfl, ?_⟩
          refine ⟨p, c, x1, d1, x3, d3, x4, d4, x5, d5, qq, _, _, ys.length, rfl, g1.to (.same s5), g3.to (.same s5), k3, g4.to (.same s5), g5.to (.same s5), fun H6 s6 => ?_⟩
          rw [hB.len, seen_eq (by omega) hbt]
          exact q _ (s5.trans s6)
        | _ =>
          have e : ∀ H', Same H H' → Q (.bl false) H' := fun H' s' => by
            have := q H' s'
            rw [show bodiesB _ = false from rfl, Bool.false_and, Bool.and_false] at this
            exact this
          exact iteT (iteT (e _ s1))
      · have e7 : (!decide (V.int (xs.length : Nat) = V.int 7)) = true := by
          rw [hlen]
          rw [decide_eq_false]
          · rfl
          · intro z
            injection z with z
            omega
        rw [e7]
        rw [view7 h7] at q
        exact iteT (iteT (q _ (Same.refl _)))
    | _ => exact iteT (iteT (q _ (Same.refl _)))
end
end Ag

end
/-! ## LE -/
section
set_option linter.all false
set_option maxRecDepth 100000
set_option maxHeartbeats 4000000
namespace Ag
open PySem PySem.Spec PyProof.Rows L2
open SX (S S_len S_cat S_inj)
theorem strs_of {P : List Nat → Prop} : ∀ {xs : List V}, (∀ (i : Nat) y, xs[i]? = some y → ∃ z, P z ∧ y = V.str (S z)) → ∃ zs : List (List Nat), xs = (zs.map S).map V.str ∧ ∀ z ∈ zs, P z
  | [], _ => ⟨[], rfl, fun _ h => by cases h⟩
  | x :: xs, h => by
    obtain ⟨z, hz, rfl⟩ := h 0 x rfl
    obtain ⟨zs, rfl, hp⟩ := strs_of (xs := xs) fun i y hy => h (i + 1) y (by simpa using hy)
    refine ⟨z :: zs, rfl, fun u hu => ?_⟩
    rcases List.mem_cons.mp hu with rfl | hu
    · exact hz
    · exact hp u hu
theorem joinL_nil : ∀ zs : List (List Nat), TL.joinL [] zs = zs.flatten
  | [] => rfl
  | [p] => by simp [TL.joinL]
  | p :: q :: r => by
    show p ++ ([] ++ TL.joinL [] (q :: r)) = _
    rw [joinL_nil (q :: r)]
    simp
theorem len_sum {zs : List (List Nat)} : ((zs.map S).map (·.length)).sum = zs.flatten.length := by
  rw [SX.lens, List.length_flatten]
theorem flat_le {zs : List (List Nat)} {k : Nat} (h : ∀ z ∈ zs, z.length ≤ k) : zs.flatten.length ≤ zs.length * k := by
  induction zs with
  | nil => simp
  | cons z zs ih =>
    have h1 := h z List.mem_cons_self
    have h2 := ih fun u hu => h u (List.mem_cons_of_mem _ hu)
    simp only [List.flatten_cons, List.length_append, List.length_cons, Nat.add_mul, Nat.one_mul]
    omega
theorem lc_some {J : It} {n : Nat} {G : Hp → Prop} {Y : Nat → Hp → V → Hp → Prop} (w : Walk J n G Y) {g : TG} {tt : TT} {te : TE} {vs : List Nat} {σ : L2.St} {H1 : Hp} {D : Addr} {Qd : Hp → Prop} (R : Hp → Prop) (v : V → Prop) (hn : n ≤ 16000000) (r0 : R H1) (rD : ∀ H o, R H → R (upd H D o)) (hG : ∀ H, R H → G H)
    (hs : ∀ i x H H' xs (k : VK) (k0 : Hp → Prop), i < n → R H → H D = some (.lst xs) → Y i H x H' → (∀ y H4, v y → R H4 → H4 D = some (.lst xs) → k y H4) → (∀ H4, R H4 → H4 D = some (.lst xs) → k0 H4) →
      g x (wipe σ vs) H' fun σ2 H2 => wipe σ2 vs = wipe σ vs ∧ tt σ2 H2 fun b H3 => if b = true then te σ2 H3 k else k0 H3)
    (hd : ∀ H xs, xs.length ≤ n → (∀ y ∈ xs, v y) → R H → H D = some (.lst xs) → Qd H) :
    ∃ W : Nat → Nat → Hp → Prop, (∃ m, W 0 m (upd H1 D (.lst []))) ∧ ∀ i m H, W i m H →
      (J.stop i H ∧ Qd H) ∨ (J.go i H ∧ ∃ Nx : Hp → Prop, (∀ H', Nx H' → ∃ m', m' < m ∧ W (i + 1) m' H') ∧ ∀ x H', J.yld i H x H' → g x (wipe σ vs) H' fun σ2 H2 => wipe σ2 vs = wipe σ vs ∧ tt σ2 H2 fun b H3 =>
        if b = true then te σ2 H3 fun y H4 => ∃ acc, H4 D = some (.lst acc) ∧ acc.length < sizeLine ∧ Nx (upd H4 D (.lst (acc ++ [y]))) else Nx H3) := by
  refine lc_it (g := g) (tt := tt) (te := te) (vs := vs) (σ := σ) w (fun i H => ∃ xs : List V, xs.length ≤ i ∧ (∀ y ∈ xs, v y) ∧ R H ∧ H D = some (.lst xs)) ⟨[], Nat.le_refl _, fun y h => by simp at h, rD _ _ r0, upd_same⟩ (fun i H hi p => ?_) (fun i x H H' hi p hy => ?_) (fun H p => ?_)
  · obtain ⟨xs, _, _, r, _⟩ := p
    exact hG H r
  · obtain ⟨xs, hl, hv, r, hD⟩ := p
    refine hs i x H H' xs _ _ hi r hD hy ?_ ?_
    · rintro y H4 hvy r4 h4
      refine ⟨xs, h4, ?_, xs ++ [y], by simp; omega, fun z hz => ?_, rD _ _ r4, upd_same⟩
      · rw [sizeLine_eq]; omega
      · rcases List.mem_append.mp hz with hz | hz
        · exact hv z hz
        · rw [List.mem_singleton.mp hz]
          exact hvy
    · rintro H4 r4 h4
      exact ⟨xs, by omega, hv, r4, h4⟩
  · obtain ⟨xs, hl, hv, r, hD⟩ := p
    exact hd H xs hl hv r hD
theorem emptyS : (Str.ofString "") = S [] := by decide +kernel
theorem tildeS : (Str.ofString "~") = S [126] := by decide +kernel
theorem aS : (Str.ofString "a") = S [97] := by decide +kernel
theorem bS : (Str.ofString "b") = S [98] := by decide +kernel
theorem menuS : (Str.ofString "abcxyz 019:,~!") = S [97,98,99,120,121,122,32,48,49,57,58,44,126,33] := by decide +kernel
theorem azzS : (Str.ofString "abcdefghijklmnopqrstuvwxyz") = S ((List.range 26).map (· + 97)) := by decide +kernel
def asc (l : List Nat) : Prop := l.all (· < 128) = true
theorem asc_flat {zs : List (List Nat)} (h : ∀ z ∈ zs, asc z) : asc zs.flatten := by
  unfold asc at *
  rw [List.all_flatten, List.all_eq_true]
  exact h
theorem okS {l : List Nat} (h : asc l) (h2 : l.length ≤ 300) : strOkB (S l) = true := by
  simp only [strOkB, Bool.and_eq_true, decide_eq_true_eq]
  exact ⟨h, by rw [show (S l).cps.size = l.length from List.size_toArray ..]; exact h2⟩
theorem szS (l : List Nat) : (S l).cps.size = l.length := List.size_toArray ..
theorem Gx.kp {p c : Addr} {H H' : Hp} (g : Gx p c H H') : Kp p c H H' := g.1
/-- any good data comes out -/
def Outs (p c : Addr) (H : Hp) (G : PyData → Prop) (Q : VK) : Prop := ∀ v d H', Gx p c H H' → Dg p c H' v d → G d → Q v H'
section
variable {P : Program} {w : World} {K : PySem.W.Frag} {mg : Str → Option Value} {base : Heap} {tn tw tb : Tok}
def okB (x : Str) : Prop := strOkB x = true ∧ x.cps.size ≤ 150
def spMkBody : Sp := fun vs H Q _ => ∃ (p c : Addr), vs = [.ref p] ∧ Dk p c H ∧ ∀ (x : Str) H', okB x → Gx p c H H' → Q (.str x) H'
theorem ok_mkbody {f f1 f2 : Addr} {fd fd1 fd2 : FuncData} (F : Fn K mg "_law_body" s__law_body ["_law_deck"] f fd) (B : Con mg tn tw tb) (F__law_draw : Fn K mg "_law_draw" s__law_draw ["_law_deck", "_law_many"] f1 fd1) (F__law_pick : Fn K mg "_law_pick" s__law_pick ["_law_deck", "_law_some"] f2 fd2) :
    FnOk P w K mg base CX0 3 f fd ["_law_deck"] spMkBody := by
  have G__law_draw : FnOk P w K mg base CX0 1 f1 fd1 ["_law_deck", "_law_many"] spDraw := ok_draw F__law_draw B.toBlt
  have G__law_pick : FnOk P w K mg base CX0 2 f2 fd2 ["_law_deck", "_law_some"] spPick := ok_pick F__law_pick B.toBlt F__law_draw
  refine F.F.ok sc__law_body (fun vs H Q E h => ?_) (fun cdv A outer s H vs Q E hr h => ?_)
  · obtain ⟨p, c, rfl, _⟩ := h
    rfl
  · obtain ⟨p, c, rfl, dk, q⟩ := h
    refine ⟨_, (pss_cons (ps_set (i := 1) sc__law_body.nd rfl (.inl rfl) (pe_call G__law_draw (hr.mono (by decide)) (by rfl) F__law_draw.g F__law_draw.F.kp F__law_draw.b .nil pass0 (pa_cons (pv 0) (pa_cons pe_int pa_nil))))
      (pss_cons (ps_if (pt_cmpR op_lt (pv 1) pe_int (nomark _))
      (pss_one (ps_ret (pe_join pe_str (pe_lc (own := [("_law_sign", 2)]) rfl sc__law_body.nd (pi_range1 (by rfl) B.n_range (pa_cons (pe_call G__law_draw (hr.mono (by decide)) (by rfl) F__law_draw.g F__law_draw.F.kp F__law_draw.b .nil pass0 (pa_cons (pv 0) (pa_cons pe_int pa_nil))) pa_nil)) (blkOk_by (N := N__law_body) (sc := defScope s__law_body) (by decide +kernel)) (fun _ _ _ _ _ => (pg_name (i := 2) sc__law_body.nd rfl (Or.inl rfl))) (fun _ _ _ _ _ => pts_nil) (fun _ _ _ _ _ => (pe_call G__law_pick (hr.mono (by decide)) (by rfl) F__law_pick.g F__law_pick.F.kp F__law_pick.b .nil pass0 (pa_cons (pv 0) (pa_cons pe_str pa_nil))))))))
      pss_nil)
      (pss_one (ps_ret (pe_call G__law_pick (hr.mono (by decide)) (by rfl) F__law_pick.g F__law_pick.F.kp F__law_pick.b .nil pass0 (pa_cons (pv 0) (pa_cons (pe_lst (pa_cons pe_str (pa_cons pe_str (pa_cons pe_str (pa_cons pe_str (pa_cons (pe_op op_rep_str pe_str pe_int) (pa_cons (pe_op op_rep_str pe_str pe_int) (pa_cons pe_str (pa_cons (pe_op op_rep_str pe_str pe_int) pa_nil))))))))) pa_nil))))))), ?_⟩
    refine ⟨_, rfl, p, c, 8, rfl, dk, by decide, by decide, fun way H1 hway g1 => ?_⟩
    refine ⟨_, rfl, _, _, rfl, rfl, _, rfl, ite2 (fun _ => ?_) (fun _ => ?_)⟩
    · refine ⟨⟨_, rfl⟩, _, rfl, p, c, 7, rfl, g1.2, by decide, by decide, fun m H2 hm g2 => ⟨_, rfl, by omega, by omega, fun D hD => ?_⟩⟩
      have g2 := g1.trans g2
      have nD := g2.2.ne hD
      have hD0 := g2.free dk hD
      have hmm : ((m : Int)).toNat = m := by simp
      refine lc_all (walk_range (lo := 0) (n := ((m : Int)).toNat)) (fun H' => Gx p c H H') (fun _ y => ∃ z, (asc z ∧ z.length ≤ 1) ∧ y = .str (S z)) (by rw [hmm]; omega) g2 (fun H' o g => g.put dk hD0 nD) (fun _ _ => trivial) ?_ ?_
      · rintro i x Ha Hb xs k hi g hxs ⟨rfl, rfl⟩ hk
        refine ⟨rfl, _, rfl, p, c, _, rfl, g.2, .inr ⟨_, congrArg V.str menuS, by decide, by decide, fun r d H8 hd g8 => ?_⟩⟩
        refine hk _ _ ⟨[d], ⟨?_, by simp⟩, rfl⟩ (g.trans g8) (g8.1 D _ nD.1 nD.2 hxs)
        have : ∀ d ∈ ([97,98,99,120,121,122,32,48,49,57,58,44,126,33] : List Nat), d < 128 := by decide
        have := this d (List.mem_of_getElem? hd)
        unfold asc
        simpa using this
      · rintro H' xs hl hv g hxs
        obtain ⟨zs, rfl, hz⟩ := strs_of (P := fun z => asc z ∧ z.length ≤ 1) (fun i y hy => hv i y hy)
        have hzl : zs.length = m := by rw [← hmm, ← hl]; simp
        have hfl : zs.flatten.length ≤ m := by
          have := flat_le (k := 1) fun z hz' => (hz z hz').2
          omega
        refine ⟨_, D, zs.map S, rfl, rfl, .inl (SqL.of hxs), ?_, ?_⟩
        · rw [len_sum, emptyS, S_len, List.length_nil, Nat.mul_zero]
          omega
        · rw [emptyS, SX.join_S, joinL_nil]
          exact q _ _ ⟨okS (asc_flat fun z hz' => (hz z hz').1) (by omega), by rw [szS]; omega⟩ g
    · have rp : ∀ n : Nat, n ≤ 150 → ∀ ch : Nat, ch < 128 → okB (S (List.replicate n [ch]).flatten) := by
        intro n hn ch hch
        have hl : (List.replicate n [ch]).flatten.length = n := by rw [List.length_flatten]; simp
        refine ⟨okS (asc_flat fun z hz => ?_) (by omega), by rw [szS]; omega⟩
        rw [(List.mem_replicate.mp hz).2]
        unfold asc
        simpa using hch
      refine ⟨_, rfl, [126], 9, congrArg V.str tildeS, rfl, by decide, by decide, by decide, [97], 150, congrArg V.str aS, rfl, by decide, by decide, by decide, [98], 30, congrArg V.str bS, rfl, by decide, by decide, by decide, sz (by show 8 ≤ 16000000; decide), fun a ha => ?_⟩
      have g2 := g1.trans (Gx.new (o := .lst [.str (Str.ofString ""), .str (Str.ofString "x"), .str (Str.ofString "ab"), .str (Str.ofString " "), .str (S (List.replicate 9 [126]).flatten), .str (S (List.replicate 150 [97]).flatten), .str (Str.ofString "0:,"), .str (S (List.replicate 30 [98]).flatten)]) g1.2 ha)
      have a2 := At.new (o := .lst [.str (Str.ofString ""), .str (Str.ofString "x"), .str (Str.ofString "ab"), .str (Str.ofString " "), .str (S (List.replicate 9 [126]).flatten), .str (S (List.replicate 150 [97]).flatten), .str (Str.ofString "0:,"), .str (S (List.replicate 30 [98]).flatten)]) g1.2 ha
      refine ⟨p, c, .ref a, rfl, g2.2, .inl ⟨a, _, rfl, a2, (by show 1 ≤ 8; decide), (by show 8 ≤ 100000; decide), fun r x H8 hx g8 => ?_⟩⟩
      have mem := List.mem_of_getElem? hx
      have fin : ∀ t : Str, okB t → x = .str t → Q x H8 := fun t ht e => by
        rw [e]
        exact q t H8 ht (g2.trans g8)
      simp only [List.mem_cons, List.not_mem_nil, or_false] at mem
      rcases mem with h | h | h | h | h | h | h | h
      · exact fin _ (by unfold okB; decide +kernel) h
      · exact fin _ (by unfold okB; decide +kernel) h
      · exact fin _ (by unfold okB; decide +kernel) h
      · exact fin _ (by unfold okB; decide +kernel) h
      · exact fin _ (rp 9 (by decide) 126 (by decide)) h
      · exact fin _ (rp 150 (by decide) 97 (by decide)) h
      · exact fin _ (by unfold okB; decide +kernel) h
      · exact fin _ (rp 30 (by decide) 98 (by decide)) h
def bodiesG (many : Nat) (d : PyData) : Prop := ∃ ds, d = .tuple ds ∧ ds.length = many ∧ (∀ q, GdA q ds 0 (many * 151)) ∧ ∀ d ∈ ds, ∃ x : Str, d = .str x ∧ okB x
def spMkBodies : Sp := fun vs H Q _ => ∃ (p c : Addr) (many : Nat), vs = [.ref p, .int many] ∧ Dk p c H ∧ many ≤ 40 ∧ Outs p c H (bodiesG many) Q
theorem strs_dg {p c : Addr} {H : Hp} : ∀ {xs : List V}, (∀ (i : Nat) y, xs[i]? = some y → ∃ x : Str, okB x ∧ y = V.str x) → ∃ ds, DgA p c H xs ds ∧ ds.length = xs.length ∧ (∀ q, GdA q ds 0 (xs.length * 151)) ∧ ∀ d ∈ ds, ∃ x : Str, d = .str x ∧ okB x
  | [], _ => ⟨[], .nil, rfl, fun _ => .nil, fun d hd => by cases hd⟩
  | x :: xs, h => by
    obtain ⟨z, hz, rfl⟩ := h 0 x rfl
    obtain ⟨ds, h1, h2, h3, h4⟩ := strs_dg (p := p) (c := c) (H := H) (xs := xs) fun i y hy => h (i + 1) y (by simpa using hy)
    refine ⟨.str z :: ds, .cons (.str z) h1, by simp [h2], fun q => .cons (b1 := 150) (.str hz.1 hz.2) (h3 q) ?_, fun d hd => ?_⟩
    · rw [List.length_cons]
      omega
    · rcases List.mem_cons.mp hd with rfl | hd
      · exact ⟨z, rfl, hz⟩
      · exact h4 d hd
def spMkWord : Sp := fun vs H Q _ => ∃ (p c : Addr), vs = [.ref p] ∧ Dk p c H ∧ ∀ (x : Str) H', strOkB x = true → x.cps.size ≤ 10 → Gx p c H H' → Q (.str x) H'
theorem ok_mkword {f f2 f1 : Addr} {fd fd2 fd1 : FuncData} (F : Fn K mg "_law_word" s__law_word ["_law_deck"] f fd) (B : Con mg tn tw tb) (F__law_draw : Fn K mg "_law_draw" s__law_draw ["_law_deck", "_law_many"] f1 fd1) (F__law_pick : Fn K mg "_law_pick" s__law_pick ["_law_deck", "_law_some"] f2 fd2) :
    FnOk P w K mg base CX0 3 f fd ["_law_deck"] spMkWord := by
  have G__law_pick : FnOk P w K mg base CX0 2 f2 fd2 ["_law_deck", "_law_some"] spPick := ok_pick F__law_pick B.toBlt F__law_draw
  refine F.F.ok sc__law_word (fun vs H Q E h => ?_) (fun cdv A outer s H vs Q E hr h => ?_)
  · obtain ⟨p, c, rfl, _⟩ := h
    rfl
  · obtain ⟨p, c, rfl, dk, q⟩ := h
    refine ⟨_, (pss_cons (ps_setLc (i := 1) (own := [("_law_sign", 2)]) rfl sc__law_word.nd rfl rfl (sw_true rfl rfl rfl (by decide +kernel)) (pi_range1 (by rfl) B.n_range (pa_cons (pe_call G__law_pick (hr.mono (by decide)) (by rfl) F__law_pick.g F__law_pick.F.kp F__law_pick.b .nil pass0 (pa_cons (pv 0) (pa_cons (pe_lst (pa_cons pe_int (pa_cons pe_int (pa_cons pe_int (pa_cons pe_int pa_nil))))) pa_nil))) pa_nil)) (blkOk_by (N := N__law_word) (sc := defScope s__law_word) (by decide +kernel)) (fun _ _ _ _ _ => (pg_name (i := 2) sc__law_word.nd rfl (Or.inl rfl))) (fun _ _ _ _ _ => pts_nil) (fun _ _ _ _ _ => (pe_call G__law_pick (hr.mono (by decide)) (by rfl) F__law_pick.g F__law_pick.F.kp F__law_pick.b .nil pass0 (pa_cons (pv 0) (pa_cons pe_str pa_nil)))))
      (pss_one (ps_ret (pe_join pe_str (pv 1))))), ?_⟩
    refine ⟨_, rfl, sz (by show 4 ≤ 16000000; decide), fun a ha => ?_⟩
    have g1 := Gx.new (o := .lst [.int 3, .int 1, .int 10, .int 2]) dk ha
    have a1 := At.new (o := .lst [.int 3, .int 1, .int 10, .int 2]) dk ha
    refine ⟨p, c, .ref a, rfl, g1.2, .inl ⟨a, _, rfl, a1, (by show 1 ≤ 4; decide), (by show 4 ≤ 100000; decide), fun r x H2 hx g2 => ?_⟩⟩
    have g2 := g1.trans g2
    obtain ⟨m, hm, rfl⟩ : ∃ m : Nat, m ≤ 10 ∧ x = .int (m : Int) := by
      have mem := List.mem_of_getElem? hx
      simp only [List.mem_cons, List.not_mem_nil, or_false] at mem
      rcases mem with rfl | rfl | rfl | rfl
      · exact ⟨3, by decide, rfl⟩
      · exact ⟨1, by decide, rfl⟩
      · exact ⟨10, by decide, rfl⟩
      · exact ⟨2, by decide, rfl⟩
    refine ⟨_, rfl, by omega, by omega, fun D hD => ?_⟩
    have nD := g2.2.ne hD
    have hD0 := g2.free dk hD
    have hmm : ((m : Int)).toNat = m := by simp
    refine lc_all (walk_range (lo := 0) (n := ((m : Int)).toNat)) (fun H' => Gx p c H H') (fun _ y => ∃ z, (asc z ∧ z.length ≤ 1) ∧ y = .str (S z)) (by rw [hmm]; omega) g2 (fun H' o g => g.put dk hD0 nD) (fun _ _ => trivial) ?_ ?_
    · rintro i x Ha Hb xs k hi g hxs ⟨rfl, rfl⟩ hk
      refine ⟨rfl, _, rfl, p, c, _, rfl, g.2, .inr ⟨_, congrArg V.str azzS, by decide, by decide, fun r d H8 hd g8 => ?_⟩⟩
      refine hk _ _ ⟨[d], ⟨?_, by simp⟩, rfl⟩ (g.trans g8) (g8.1 D _ nD.1 nD.2 hxs)
      have := List.mem_of_getElem? hd
      obtain ⟨e, he, rfl⟩ := List.mem_map.mp this
      have he := List.mem_range.mp he
      unfold asc
      simp
      omega
    · rintro H' xs hl hv g hxs
      obtain ⟨zs, rfl, hz⟩ := strs_of (P := fun z => asc z ∧ z.length ≤ 1) (fun i y hy => hv i y hy)
      have hzl : zs.length = m := by rw [← hmm, ← hl]; simp
      have hfl : zs.flatten.length ≤ m := by
        have := flat_le (k := 1) fun z hz' => (hz z hz').2
        omega
      refine ⟨⟨_, rfl⟩, _, rfl, _, D, zs.map S, rfl, rfl, .inl (SqL.of hxs), ?_, ?_⟩
      · rw [len_sum, emptyS, S_len, List.length_nil, Nat.mul_zero]
        omega
      · rw [emptyS, SX.join_S, joinL_nil]
        exact q _ _ (okS (asc_flat fun z hz' => (hz z hz').1) (by omega)) (by rw [szS]; omega) g
def someG (many : Nat) (d : PyData) : Prop := ∃ ns : List Int, d = .tuple (ns.map .int) ∧ ns.length ≤ many ∧ ∀ k ∈ ns, 1 ≤ k ∧ k ≤ many
def spSome : Sp := fun vs H Q _ => ∃ (p c : Addr) (many : Nat), vs = [.ref p, .int many] ∧ Dk p c H ∧ many ≤ 41 ∧ Outs p c H (someG many) Q
theorem dg_ints {p c : Addr} {H : Hp} : ∀ ns : List Int, DgA p c H (ns.map V.int) (ns.map PyData.int)
  | [] => .nil
  | n :: ns => .cons (.int n) (dg_ints ns)
theorem gd_ints {q : Bool} {n : Nat} : ∀ {ns : List Int}, (∀ k ∈ ns, intOk k = true) → GdA q (ns.map PyData.int) n ns.length
  | [], _ => .nil
  | k :: ns, h => by
    rw [List.map_cons]
    exact .cons (b1 := 0) (.int (h k List.mem_cons_self)) (gd_ints fun j hj => h j (List.mem_cons_of_mem _ hj)) (by rw [List.length_cons]; omega)
theorem ints_some {many : Nat} : ∀ {xs : List V}, (∀ y ∈ xs, ∃ k : Int, (1 ≤ k ∧ k ≤ many) ∧ y = V.int k) → ∃ ns : List Int, xs = ns.map V.int ∧ ∀ k ∈ ns, 1 ≤ k ∧ k ≤ many
  | [], _ => ⟨[], rfl, fun _ h => by cases h⟩
  | x :: xs, h => by
    obtain ⟨k, hk, rfl⟩ := h x List.mem_cons_self
    obtain ⟨ns, rfl, hn⟩ := ints_some (xs := xs) fun y hy => h y (List.mem_cons_of_mem _ hy)
    refine ⟨k :: ns, rfl, fun j hj => ?_⟩
    rcases List.mem_cons.mp hj with rfl | hj
    · exact hk
    · exact hn j hj
end
end Ag

end
/-! ## LF -/
section
set_option linter.all false
set_option maxRecDepth 100000
set_option maxHeartbeats 4000000
namespace Ag
open PySem PySem.Spec PyProof.Rows L2
open SX (S S_len S_cat S_inj)
theorem At.to {p c a : Addr} {H H' : Hp} {o : HO} (h : At p c H a o) (g : Kp p c H H') : At p c H' a o := h.kp g
theorem Dg.lstE {p c t : Addr} {H : Hp} {ds : List PyData} (h : Dg p c H (.ref t) (.list ds)) : ∃ xs, At p c H t (.lst xs) ∧ DgA p c H xs ds := by
  cases h with
  | lst a b => exact ⟨_, a, b⟩
theorem Dg.tupE {p c t : Addr} {H : Hp} {ds : List PyData} (h : Dg p c H (.ref t) (.tuple ds)) : ∃ xs, At p c H t (.tup xs) ∧ DgA p c H xs ds := by
  cases h with
  | tup a b => exact ⟨_, a, b⟩
/-- small data of any kind -/
def oddB (d : PyData) : Bool := ((okV true d && !isT d) || okV false d) && (decide (d.depth ≤ 3) && decide (d.bulk ≤ 400))
def oddG (d : PyData) : Prop := ∃ q, Gd q d 3 400 ∧ (isT d = true → q = false)
theorem odd_good {ds : List PyData} (h : ds.all oddB = true) {d : PyData} (hd : d ∈ ds) : oddG d := by
  have := List.all_eq_true.mp h d hd
  unfold oddB at this
  rw [Bool.and_eq_true, Bool.and_eq_true, decide_eq_true_eq, decide_eq_true_eq, Bool.or_eq_true] at this
  rcases this.1 with h1 | h1
  · rw [Bool.and_eq_true, Bool.not_eq_true'] at h1
    exact ⟨true, ⟨h1.1, this.2.1, this.2.2⟩, fun z => by rw [h1.2] at z; cases z⟩
  · exact ⟨false, ⟨h1, this.2.1, this.2.2⟩, fun _ => rfl⟩
section
variable {P : Program} {w : World} {K : PySem.W.Frag} {mg : Str → Option Value} {base : Heap} {tn tw tb : Tok}
def spOdd : Sp := fun vs H Q _ => ∃ (p c : Addr), vs = [.ref p] ∧ Dk p c H ∧ Outs p c H oddG Q
theorem ok_odd {f f2 f1 : Addr} {fd fd2 fd1 : FuncData} (F : Fn K mg "_law_odd" s__law_odd ["_law_deck"] f fd) (B : Con mg tn tw tb) (F__law_draw : Fn K mg "_law_draw" s__law_draw ["_law_deck", "_law_many"] f1 fd1) (F__law_pick : Fn K mg "_law_pick" s__law_pick ["_law_deck", "_law_some"] f2 fd2) :
    FnOk P w K mg base CX0 3 f fd ["_law_deck"] spOdd := by
  have G__law_pick : FnOk P w K mg base CX0 2 f2 fd2 ["_law_deck", "_law_some"] spPick := ok_pick F__law_pick B.toBlt F__law_draw
  refine F.F.ok sc__law_odd (fun vs H Q E h => ?_) (fun cdv A outer s H vs Q E hr h => ?_)
  · obtain ⟨p, c, rfl, _⟩ := h
    rfl
  · obtain ⟨p, c, rfl, dk, q⟩ := h
    refine ⟨_, (pss_cons (ps_set (i := 1) sc__law_odd.nd rfl (.inl rfl) (pe_lst (pa_cons pe_non (pa_cons pe_bl (pa_cons pe_bl (pa_cons (pe_un un_neg pe_int) (pa_cons pe_int (pa_cons pe_int (pa_cons pe_int (pa_cons (pe_op op_pow pe_int pe_int) (pa_cons (pe_op op_add (pe_op op_pow pe_int pe_int) pe_int) (pa_cons (pe_op op_pow pe_int pe_int) (pa_cons pe_str (pa_cons pe_str (pa_cons pe_str (pa_cons pe_str (pa_cons pe_str (pa_cons pe_str (pa_cons (pe_tup pa_nil) (pa_cons (pe_tup (pa_cons pe_int pa_nil)) (pa_cons (pe_tup (pa_cons pe_int pa_nil)) pa_nil)))))))))))))))))))))
      (pss_cons (ps_set (i := 1) sc__law_odd.nd rfl (.inl rfl) (pe_op op_cat (pv 1) (pe_lst (pa_cons (pe_lst pa_nil) (pa_cons pe_dnewK (pa_cons (pe_lst (pa_cons pe_str pa_nil)) (pa_cons (pe_disp (pps_cons pe_str pe_int pps_nil) (by rfl) (by rfl) (fun z => by cases z) (by decide)) (pa_cons (pe_tup (pa_cons pe_str pa_nil)) (pa_cons pe_str (pa_cons pe_str (pa_cons pe_str (pa_cons (pe_op op_rep_str pe_str pe_int) (pa_cons (pe_tup (pa_cons pe_int (pa_cons pe_int pa_nil))) (pa_cons (pe_tup (pa_cons pe_int (pa_cons pe_int pa_nil))) (pa_cons (pe_tup (pa_cons pe_non pa_nil)) (pa_cons (pe_tup (pa_cons pe_bl pa_nil)) (pa_cons pe_str (pa_cons pe_int pa_nil))))))))))))))))))
      (pss_one (ps_ret (pe_call G__law_pick (hr.mono (by decide)) (by rfl) F__law_pick.g F__law_pick.F.kp F__law_pick.b .nil pass0 (pa_cons (pv 0) (pa_cons (pe_op op_cat (pv 1) (pe_lst (pa_cons (pe_tup (pa_cons pe_str (pa_cons pe_int pa_nil))) (pa_cons (pe_tup (pa_cons pe_str pa_nil)) (pa_cons (pe_tup (pa_cons pe_str (pa_cons pe_int pa_nil))) (pa_cons (pe_tup (pa_cons pe_str pa_nil)) (pa_cons (pe_tup (pa_cons pe_str pa_nil)) (pa_cons (pe_tup (pa_cons (pe_tup (pa_cons pe_str pa_nil)) pa_nil)) (pa_cons (pe_tup (pa_cons (pe_tup pa_nil) (pa_cons (pe_tup pa_nil) pa_nil))) (pa_cons pe_int (pa_cons pe_int pa_nil))))))))))) pa_nil))))))), ?_⟩
    have g0 := Gx.refl dk
    refine ⟨_, rfl, _, _, rfl, rfl, ⟨by decide, by decide, by decide⟩, _, _, rfl, rfl, ⟨by decide, by decide, by decide⟩, _, _, rfl, rfl, _, _, rfl, rfl, ⟨by decide, by decide, by decide⟩, sz (by show 0 ≤ 16000000; decide), fun t1 ht1 => ?_⟩
    have s1 := same_new (o := .tup []) ht1
    have a1 := At.new (o := .tup []) g0.2 ht1
    have g1 := g0.trans (Gx.same g0.2 s1)
    have x1 : Dg p c (upd H t1 (.tup [])) (.ref t1) (.tuple []) := .tup a1 (.nil)
    generalize upd H t1 (.tup []) = H1 at g1 x1 ⊢
    refine ⟨sz (by show 1 ≤ 16000000; decide), fun t2 ht2 => ?_⟩
    have s2 := same_new (o := .tup [.int 0]) ht2
    have a2 := At.new (o := .tup [.int 0]) g1.2 ht2
    have g2 := g1.trans (Gx.same g1.2 s2)
    have x1 := x1.to (.same s2)
    have x2 : Dg p c (upd H1 t2 (.tup [.int 0])) (.ref t2) (.tuple [.int 0]) := .tup a2 (.cons (.int 0) (.nil))
    generalize upd H1 t2 (.tup [.int 0]) = H2 at g2 x2 x1 ⊢
    refine ⟨sz (by show 1 ≤ 16000000; decide), fun t3 ht3 => ?_⟩
    have s3 := same_new (o := .tup [.int 1]) ht3
    have a3 := At.new (o := .tup [.int 1]) g2.2 ht3
    have g3 := g2.trans (Gx.same g2.2 s3)
    have x1 := x1.to (.same s3)
    have x2 := x2.to (.same s3)
    have x3 : Dg p c (upd H2 t3 (.tup [.int 1])) (.ref t3) (.tuple [.int 1]) := .tup a3 (.cons (.int 1) (.nil))
    generalize upd H2 t3 (.tup [.int 1]) = H3 at g3 x3 x1 x2 ⊢
    refine ⟨sz (by show 19 ≤ 16000000; decide), fun t4 ht4 => ?_⟩
    have s4 := same_new (o := .lst [.non, .bl true, .bl false, .int (-1), .int 0, .int 1, .int 2, .int ((10 : Int) ^ (9 : Int).toNat), .int (((10 : Int) ^ (9 : Int).toNat) + 1), .int ((10 : Int) ^ (39 : Int).toNat), .str (Str.ofString ""), .str (Str.ofString "a"), .str (Str.ofString "A"), .str (Str.ofString "abcdefghijk"), .str (Str.ofString "a b"), .str (Str.ofString "a\n"), .ref t1, .ref t2, .ref t3]) ht4
    have a4 := At.new (o := .lst [.non, .bl true, .bl false, .int (-1), .int 0, .int 1, .int 2, .int ((10 : Int) ^ (9 : Int).toNat), .int (((10 : Int) ^ (9 : Int).toNat) + 1), .int ((10 : Int) ^ (39 : Int).toNat), .str (Str.ofString ""), .str (Str.ofString "a"), .str (Str.ofString "A"), .str (Str.ofString "abcdefghijk"), .str (Str.ofString "a b"), .str (Str.ofString "a\n"), .ref t1, .ref t2, .ref t3]) g3.2 ht4
    have g4 := g3.trans (Gx.same g3.2 s4)
    have x1 := x1.to (.same s4)
    have x2 := x2.to (.same s4)
    have x3 := x3.to (.same s4)
    have x4 : Dg p c (upd H3 t4 (.lst [.non, .bl true, .bl false, .int (-1), .int 0, .int 1, .int 2, .int ((10 : Int) ^ (9 : Int).toNat), .int (((10 : Int) ^ (9 : Int).toNat) + 1), .int ((10 : Int) ^ (39 : Int).toNat), .str (Str.ofString ""), .str (Str.ofString "a"), .str (Str.ofString "A"), .str (Str.ofString "abcdefghijk"), .str (Str.ofString "a b"), .str (Str.ofString "a\n"), .ref t1, .ref t2, .ref t3])) (.ref t4) (.list [.none, .bool true, .bool false, .int (-1), .int 0, .int 1, .int 2, .int ((10 : Int) ^ (9 : Int).toNat), .int (((10 : Int) ^ (9 : Int).toNat) + 1), .int ((10 : Int) ^ (39 : Int).toNat), .str (Str.ofString ""), .str (Str.ofString "a"), .str (Str.ofString "A"), .str (Str.ofString "abcdefghijk"), .str (Str.ofString "a b"), .str (Str.ofString "a\n"), .tuple [], .tuple [.int 0], .tuple [.int 1]]) := .lst a4 (.cons (.non) (.cons (.bl true) (.cons (.bl false) (.cons (.int (-1)) (.cons (.int 0) (.cons (.int 1) (.cons (.int 2) (.cons (.int ((10 : Int) ^ (9 : Int).toNat)) (.cons (.int (((10 : Int) ^ (9 : Int).toNat) + 1)) (.cons (.int ((10 : Int) ^ (39 : Int).toNat)) (.cons (.str (Str.ofString "")) (.cons (.str (Str.ofString "a")) (.cons (.str (Str.ofString "A")) (.cons (.str (Str.ofString "abcdefghijk")) (.cons (.str (Str.ofString "a b")) (.cons (.str (Str.ofString "a\n")) (.cons x1 (.cons x2 (.cons x3 (.nil))))))))))))))))))))
    generalize upd H3 t4 (.lst [.non, .bl true, .bl false, .int (-1), .int 0, .int 1, .int 2, .int ((10 : Int) ^ (9 : Int).toNat), .int (((10 : Int) ^ (9 : Int).toNat) + 1), .int ((10 : Int) ^ (39 : Int).toNat), .str (Str.ofString ""), .str (Str.ofString "a"), .str (Str.ofString "A"), .str (Str.ofString "abcdefghijk"), .str (Str.ofString "a b"), .str (Str.ofString "a\n"), .ref t1, .ref t2, .ref t3]) = H4 at g4 x4 ⊢
    have y1 := x4
    refine ⟨_, rfl, sz (by show 0 ≤ 16000000; decide), fun t5 ht5 => ?_⟩
    have s5 := same_new (o := .lst []) ht5
    have a5 := At.new (o := .lst []) g4.2 ht5
    have g5 := g4.trans (Gx.same g4.2 s5)
    have y1 := y1.to (.same s5)
    have x5 : Dg p c (upd H4 t5 (.lst [])) (.ref t5) (.list []) := .lst a5 (.nil)
    generalize upd H4 t5 (.lst []) = H5 at g5 x5 y1 ⊢
    refine fun t6 ht6 => ?_
    have s6 := same_new (o := .dK []) ht6
    have a6 := At.new (o := .dK []) g5.2 ht6
    have g6 := g5.trans (Gx.same g5.2 s6)
    have y1 := y1.to (.same s6)
    have x5 := x5.to (.same s6)
    have x6 : Dg p c (upd H5 t6 (.dK [])) (.ref t6) (.dict []) := .dic a6 .nil
    generalize upd H5 t6 (.dK []) = H6 at g6 x6 y1 x5 ⊢
    refine ⟨sz (by show 1 ≤ 16000000; decide), fun t7 ht7 => ?_⟩
    have s7 := same_new (o := .lst [.str (Str.ofString "a")]) ht7
    have a7 := At.new (o := .lst [.str (Str.ofString "a")]) g6.2 ht7
    have g7 := g6.trans (Gx.same g6.2 s7)
    have y1 := y1.to (.same s7)
    have x5 := x5.to (.same s7)
    have x6 := x6.to (.same s7)
    have x7 : Dg p c (upd H6 t7 (.lst [.str (Str.ofString "a")])) (.ref t7) (.list [.str (Str.ofString "a")]) := .lst a7 (.cons (.str (Str.ofString "a")) (.nil))
    generalize upd H6 t7 (.lst [.str (Str.ofString "a")]) = H7 at g7 x7 y1 x5 x6 ⊢
    refine fun t8 ht8 => ?_
    refine ⟨upd_same, [(Sum.inr (Str.ofString "a"), .int 1)], rfl, by show 1 ≤ 15; decide, ?_⟩
    rw [show mergeK [] [(Sum.inr (Str.ofString "a"), .int 1)] = [(Sum.inr (Str.ofString "a"), .int 1)] from by simp [mergeK, putK], upd_upd]
    have s8 := same_new (o := .dK [(Sum.inr (Str.ofString "a"), .int 1)]) ht8
    have a8 := At.new (o := .dK [(Sum.inr (Str.ofString "a"), .int 1)]) g7.2 ht8
    have g8 := g7.trans (Gx.same g7.2 s8)
    have y1 := y1.to (.same s8)
    have x5 := x5.to (.same s8)
    have x6 := x6.to (.same s8)
    have x7 := x7.to (.same s8)
    have x8 : Dg p c (upd H7 t8 (.dK [(Sum.inr (Str.ofString "a"), .int 1)])) (.ref t8) (.dict [(.str (Str.ofString "a"), .int 1)]) := .dic a8 (.cons (k := Sum.inr (Str.ofString "a")) (.int 1) (.nil))
    generalize upd H7 t8 (.dK [(Sum.inr (Str.ofString "a"), .int 1)]) = H8 at g8 x8 y1 x5 x6 x7 ⊢
    refine ⟨sz (by show 1 ≤ 16000000; decide), fun t9 ht9 => ?_⟩
    have s9 := same_new (o := .tup [.str (Str.ofString "a")]) ht9
    have a9 := At.new (o := .tup [.str (Str.ofString "a")]) g8.2 ht9
    have g9 := g8.trans (Gx.same g8.2 s9)
    have y1 := y1.to (.same s9)
    have x5 := x5.to (.same s9)
    have x6 := x6.to (.same s9)
    have x7 := x7.to (.same s9)
    have x8 := x8.to (.same s9)
    have x9 : Dg p c (upd H8 t9 (.tup [.str (Str.ofString "a")])) (.ref t9) (.tuple [.str (Str.ofString "a")]) := .tup a9 (.cons (.str (Str.ofString "a")) (.nil))
    generalize upd H8 t9 (.tup [.str (Str.ofString "a")]) = H9 at g9 x9 y1 x5 x6 x7 x8 ⊢
    refine ⟨[97], 151, congrArg V.str (by decide +kernel), rfl, by decide, by decide, by decide, sz (by show 2 ≤ 16000000; decide), fun t10 ht10 => ?_⟩
    have s10 := same_new (o := .tup [.int 1, .int 1]) ht10
    have a10 := At.new (o := .tup [.int 1, .int 1]) g9.2 ht10
    have g10 := g9.trans (Gx.same g9.2 s10)
    have y1 := y1.to (.same s10)
    have x5 := x5.to (.same s10)
    have x6 := x6.to (.same s10)
    have x7 := x7.to (.same s10)
    have x8 := x8.to (.same s10)
    have x9 := x9.to (.same s10)
    have x10 : Dg p c (upd H9 t10 (.tup [.int 1, .int 1])) (.ref t10) (.tuple [.int 1, .int 1]) := .tup a10 (.cons (.int 1) (.cons (.int 1) (.nil)))
    generalize upd H9 t10 (.tup [.int 1, .int 1]) = H10 at g10 x10 y1 x5 x6 x7 x8 x9 ⊢
    refine ⟨sz (by show 2 ≤ 16000000; decide), fun t11 ht11 => ?_⟩
    have s11 := same_new (o := .tup [.int 2, .int 1]) ht11
    have a11 := At.new (o := .tup [.int 2, .int 1]) g10.2 ht11
    have g11 := g10.trans (Gx.same g10.2 s11)
    have y1 := y1.to (.same s11)
    have x5 := x5.to (.same s11)
    have x6 := x6.to (.same s11)
    have x7 := x7.to (.same s11)
    have x8 := x8.to (.same s11)
    have x9 := x9.to (.same s11)
    have x10 := x10.to (.same s11)
    have x11 : Dg p c (upd H10 t11 (.tup [.int 2, .int 1])) (.ref t11) (.tuple [.int 2, .int 1]) := .tup a11 (.cons (.int 2) (.cons (.int 1) (.nil)))
    generalize upd H10 t11 (.tup [.int 2, .int 1]) = H11 at g11 x11 y1 x5 x6 x7 x8 x9 x10 ⊢
    refine ⟨sz (by show 1 ≤ 16000000; decide), fun t12 ht12 => ?_⟩
    have s12 := same_new (o := .tup [.non]) ht12
    have a12 := At.new (o := .tup [.non]) g11.2 ht12
    have g12 := g11.trans (Gx.same g11.2 s12)
    have y1 := y1.to (.same s12)
    have x5 := x5.to (.same s12)
    have x6 := x6.to (.same s12)
    have x7 := x7.to (.same s12)
    have x8 := x8.to (.same s12)
    have x9 := x9.to (.same s12)
    have x10 := x10.to (.same s12)
    have x11 := x11.to (.same s12)
    have x12 : Dg p c (upd H11 t12 (.tup [.non])) (.ref t12) (.tuple [.none]) := .tup a12 (.cons (.non) (.nil))
    generalize upd H11 t12 (.tup [.non]) = H12 at g12 x12 y1 x5 x6 x7 x8 x9 x10 x11 ⊢
    refine ⟨sz (by show 1 ≤ 16000000; decide), fun t13 ht13 => ?_⟩
    have s13 := same_new (o := .tup [.bl true]) ht13
    have a13 := At.new (o := .tup [.bl true]) g12.2 ht13
    have g13 := g12.trans (Gx.same g12.2 s13)
    have y1 := y1.to (.same s13)
    have x5 := x5.to (.same s13)
    have x6 := x6.to (.same s13)
    have x7 := x7.to (.same s13)
    have x8 := x8.to (.same s13)
    have x9 := x9.to (.same s13)
    have x10 := x10.to (.same s13)
    have x11 := x11.to (.same s13)
    have x12 := x12.to (.same s13)
    have x13 : Dg p c (upd H12 t13 (.tup [.bl true])) (.ref t13) (.tuple [.bool true]) := .tup a13 (.cons (.bl true) (.nil))
    generalize upd H12 t13 (.tup [.bl true]) = H13 at g13 x13 y1 x5 x6 x7 x8 x9 x10 x11 x12 ⊢
    refine ⟨sz (by show 15 ≤ 16000000; decide), fun t14 ht14 => ?_⟩
    have s14 := same_new (o := .lst [.ref t5, .ref t6, .ref t7, .ref t8, .ref t9, .str (Str.ofString "open"), .str (Str.ofString "broken"), .str (Str.ofString "closed"), .str (S (List.replicate 151 [97]).flatten), .ref t10, .ref t11, .ref t12, .ref t13, .str (Str.ofString "\n"), .int 41]) ht14
    have a14 := At.new (o := .lst [.ref t5, .ref t6, .ref t7, .ref t8, .ref t9, .str (Str.ofString "open"), .str (Str.ofString "broken"), .str (Str.ofString "closed"), .str (S (List.replicate 151 [97]).flatten), .ref t10, .ref t11, .ref t12, .ref t13, .str (Str.ofString "\n"), .int 41]) g13.2 ht14
    have g14 := g13.trans (Gx.same g13.2 s14)
    have y1 := y1.to (.same s14)
    have x5 := x5.to (.same s14)
    have x6 := x6.to (.same s14)
    have x7 := x7.to (.same s14)
    have x8 := x8.to (.same s14)
    have x9 := x9.to (.same s14)
    have x10 := x10.to (.same s14)
    have x11 := x11.to (.same s14)
    have x12 := x12.to (.same s14)
    have x13 := x13.to (.same s14)
    have x14 : Dg p c (upd H13 t14 (.lst [.ref t5, .ref t6, .ref t7, .ref t8, .ref t9, .str (Str.ofString "open"), .str (Str.ofString "broken"), .str (Str.ofString "closed"), .str (S (List.replicate 151 [97]).flatten), .ref t10, .ref t11, .ref t12, .ref t13, .str (Str.ofString "\n"), .int 41])) (.ref t14) (.list [.list [], .dict [], .list [.str (Str.ofString "a")], .dict [(.str (Str.ofString "a"), .int 1)], .tuple [.str (Str.ofString "a")], .str (Str.ofString "open"), .str (Str.ofString "broken"), .str (Str.ofString "closed"), .str (S (List.replicate 151 [97]).flatten), .tuple [.int 1, .int 1], .tuple [.int 2, .int 1], .tuple [.none], .tuple [.bool true], .str (Str.ofString "\n"), .int 41]) := .lst a14 (.cons x5 (.cons x6 (.cons x7 (.cons x8 (.cons x9 (.cons (.str (Str.ofString "open")) (.cons (.str (Str.ofString "broken")) (.cons (.str (Str.ofString "closed")) (.cons (.str (S (List.replicate 151 [97]).flatten)) (.cons x10 (.cons x11 (.cons x12 (.cons x13 (.cons (.str (Str.ofString "\n")) (.cons (.int 41) (.nil))))))))))))))))
    generalize upd H13 t14 (.lst [.ref t5, .ref t6, .ref t7, .ref t8, .ref t9, .str (Str.ofString "open"), .str (Str.ofString "broken"), .str (Str.ofString "closed"), .str (S (List.replicate 151 [97]).flatten), .ref t10, .ref t11, .ref t12, .ref t13, .str (Str.ofString "\n"), .int 41]) = H14 at g14 x14 y1 ⊢
    obtain ⟨xs1, at1, da1⟩ := Dg.lstE y1
    obtain ⟨xs2, at2, da2⟩ := Dg.lstE x14
    refine ⟨_, _, xs1, xs2, rfl, rfl, at1.2.2, at2.2.2, by rw [da1.len, da2.len]; exact sz (by decide +kernel), fun tc htc => ?_⟩
    have sc := same_new (o := .lst (xs1 ++ xs2)) htc
    have atc := At.new (o := .lst (xs1 ++ xs2)) g14.2 htc
    have gc := g14.trans (Gx.same g14.2 sc)
    have y2 := Dg.lst atc ((da1.to (.same sc)).app (da2.to (.same sc)))
    generalize upd H14 tc (.lst (xs1 ++ xs2)) = Hc at gc y2 ⊢
    refine ⟨_, rfl, _, rfl, sz (by show 2 ≤ 16000000; decide), fun t15 ht15 => ?_⟩
    have s15 := same_new (o := .tup [.str (Str.ofString "take"), .int 1]) ht15
    have a15 := At.new (o := .tup [.str (Str.ofString "take"), .int 1]) gc.2 ht15
    have g15 := gc.trans (Gx.same gc.2 s15)
    have y2 := y2.to (.same s15)
    have x15 : Dg p c (upd Hc t15 (.tup [.str (Str.ofString "take"), .int 1])) (.ref t15) (.tuple [.str (Str.ofString "take"), .int 1]) := .tup a15 (.cons (.str (Str.ofString "take")) (.cons (.int 1) (.nil)))
    generalize upd Hc t15 (.tup [.str (Str.ofString "take"), .int 1]) = H15 at g15 x15 y2 ⊢
    refine ⟨sz (by show 1 ≤ 16000000; decide), fun t16 ht16 => ?_⟩
    have s16 := same_new (o := .tup [.str (Str.ofString "begin")]) ht16
    have a16 := At.new (o := .tup [.str (Str.ofString "begin")]) g15.2 ht16
    have g16 := g15.trans (Gx.same g15.2 s16)
    have y2 := y2.to (.same s16)
    have x15 := x15.to (.same s16)
    have x16 : Dg p c (upd H15 t16 (.tup [.str (Str.ofString "begin")])) (.ref t16) (.tuple [.str (Str.ofString "begin")]) := .tup a16 (.cons (.str (Str.ofString "begin")) (.nil))
    generalize upd H15 t16 (.tup [.str (Str.ofString "begin")]) = H16 at g16 x16 y2 x15 ⊢
    refine ⟨sz (by show 2 ≤ 16000000; decide), fun t17 ht17 => ?_⟩
    have s17 := same_new (o := .tup [.str (Str.ofString "answer"), .int 1]) ht17
    have a17 := At.new (o := .tup [.str (Str.ofString "answer"), .int 1]) g16.2 ht17
    have g17 := g16.trans (Gx.same g16.2 s17)
    have y2 := y2.to (.same s17)
    have x15 := x15.to (.same s17)
    have x16 := x16.to (.same s17)
    have x17 : Dg p c (upd H16 t17 (.tup [.str (Str.ofString "answer"), .int 1])) (.ref t17) (.tuple [.str (Str.ofString "answer"), .int 1]) := .tup a17 (.cons (.str (Str.ofString "answer")) (.cons (.int 1) (.nil)))
    generalize upd H16 t17 (.tup [.str (Str.ofString "answer"), .int 1]) = H17 at g17 x17 y2 x15 x16 ⊢
    refine ⟨sz (by show 1 ≤ 16000000; decide), fun t18 ht18 => ?_⟩
    have s18 := same_new (o := .tup [.str (Str.ofString "leave")]) ht18
    have a18 := At.new (o := .tup [.str (Str.ofString "leave")]) g17.2 ht18
    have g18 := g17.trans (Gx.same g17.2 s18)
    have y2 := y2.to (.same s18)
    have x15 := x15.to (.same s18)
    have x16 := x16.to (.same s18)
    have x17 := x17.to (.same s18)
    have x18 : Dg p c (upd H17 t18 (.tup [.str (Str.ofString "leave")])) (.ref t18) (.tuple [.str (Str.ofString "leave")]) := .tup a18 (.cons (.str (Str.ofString "leave")) (.nil))
    generalize upd H17 t18 (.tup [.str (Str.ofString "leave")]) = H18 at g18 x18 y2 x15 x16 x17 ⊢
    refine ⟨sz (by show 1 ≤ 16000000; decide), fun t19 ht19 => ?_⟩
    have s19 := same_new (o := .tup [.str (Str.ofString "close")]) ht19
    have a19 := At.new (o := .tup [.str (Str.ofString "close")]) g18.2 ht19
    have g19 := g18.trans (Gx.same g18.2 s19)
    have y2 := y2.to (.same s19)
    have x15 := x15.to (.same s19)
    have x16 := x16.to (.same s19)
    have x17 := x17.to (.same s19)
    have x18 := x18.to (.same s19)
    have x19 : Dg p c (upd H18 t19 (.tup [.str (Str.ofString "close")])) (.ref t19) (.tuple [.str (Str.ofString "close")]) := .tup a19 (.cons (.str (Str.ofString "close")) (.nil))
    generalize upd H18 t19 (.tup [.str (Str.ofString "close")]) = H19 at g19 x19 y2 x15 x16 x17 x18 ⊢
    refine ⟨sz (by show 1 ≤ 16000000; decide), fun t20 ht20 => ?_⟩
    have s20 := same_new (o := .tup [.str (Str.ofString "begin")]) ht20
    have a20 := At.new (o := .tup [.str (Str.ofString "begin")]) g19.2 ht20
    have g20 := g19.trans (Gx.same g19.2 s20)
    have y2 := y2.to (.same s20)
    have x15 := x15.to (.same s20)
    have x16 := x16.to (.same s20)
    have x17 := x17.to (.same s20)
    have x18 := x18.to (.same s20)
    have x19 := x19.to (.same s20)
    have x20 : Dg p c (upd H19 t20 (.tup [.str (Str.ofString "begin")])) (.ref t20) (.tuple [.str (Str.ofString "begin")]) := .tup a20 (.cons (.str (Str.ofString "begin")) (.nil))
    generalize upd H19 t20 (.tup [.str (Str.ofString "begin")]) = H20 at g20 x20 y2 x15 x16 x17 x18 x19 ⊢
    refine ⟨sz (by show 1 ≤ 16000000; decide), fun t21 ht21 => ?_⟩
    have s21 := same_new (o := .tup [.ref t20]) ht21
    have a21 := At.new (o := .tup [.ref t20]) g20.2 ht21
    have g21 := g20.trans (Gx.same g20.2 s21)
    have y2 := y2.to (.same s21)
    have x15 := x15.to (.same s21)
    have x16 := x16.to (.same s21)
    have x17 := x17.to (.same s21)
    have x18 := x18.to (.same s21)
    have x19 := x19.to (.same s21)
    have x20 := x20.to (.same s21)
    have x21 : Dg p c (upd H20 t21 (.tup [.ref t20])) (.ref t21) (.tuple [.tuple [.str (Str.ofString "begin")]]) := .tup a21 (.cons x20 (.nil))
    generalize upd H20 t21 (.tup [.ref t20]) = H21 at g21 x21 y2 x15 x16 x17 x18 x19 ⊢
    refine ⟨sz (by show 0 ≤ 16000000; decide), fun t22 ht22 => ?_⟩
    have s22 := same_new (o := .tup []) ht22
    have a22 := At.new (o := .tup []) g21.2 ht22
    have g22 := g21.trans (Gx.same g21.2 s22)
    have y2 := y2.to (.same s22)
    have x15 := x15.to (.same s22)
    have x16 := x16.to (.same s22)
    have x17 := x17.to (.same s22)
    have x18 := x18.to (.same s22)
    have x19 := x19.to (.same s22)
    have x21 := x21.to (.same s22)
    have x22 : Dg p c (upd H21 t22 (.tup [])) (.ref t22) (.tuple []) := .tup a22 (.nil)
    generalize upd H21 t22 (.tup []) = H22 at g22 x22 y2 x15 x16 x17 x18 x19 x21 ⊢
    refine ⟨sz (by show 0 ≤ 16000000; decide), fun t23 ht23 => ?_⟩
    have s23 := same_new (o := .tup []) ht23
    have a23 := At.new (o := .tup []) g22.2 ht23
    have g23 := g22.trans (Gx.same g22.2 s23)
    have y2 := y2.to (.same s23)
    have x15 := x15.to (.same s23)
    have x16 := x16.to (.same s23)
    have x17 := x17.to (.same s23)
    have x18 := x18.to (.same s23)
    have x19 := x19.to (.same s23)
    have x21 := x21.to (.same s23)
    have x22 := x22.to (.same s23)
    have x23 : Dg p c (upd H22 t23 (.tup [])) (.ref t23) (.tuple []) := .tup a23 (.nil)
    generalize upd H22 t23 (.tup []) = H23 at g23 x23 y2 x15 x16 x17 x18 x19 x21 x22 ⊢
    refine ⟨sz (by show 2 ≤ 16000000; decide), fun t24 ht24 => ?_⟩
    have s24 := same_new (o := .tup [.ref t22, .ref t23]) ht24
    have a24 := At.new (o := .tup [.ref t22, .ref t23]) g23.2 ht24
    have g24 := g23.trans (Gx.same g23.2 s24)
    have y2 := y2.to (.same s24)
    have x15 := x15.to (.same s24)
    have x16 := x16.to (.same s24)
    have x17 := x17.to (.same s24)
    have x18 := x18.to (.same s24)
    have x19 := x19.to (.same s24)
    have x21 := x21.to (.same s24)
    have x22 := x22.to (.same s24)
    have x23 := x23.to (.same s24)
    have x24 : Dg p c (upd H23 t24 (.tup [.ref t22, .ref t23])) (.ref t24) (.tuple [.tuple [], .tuple []]) := .tup a24 (.cons x22 (.cons x23 (.nil)))
    generalize upd H23 t24 (.tup [.ref t22, .ref t23]) = H24 at g24 x24 y2 x15 x16 x17 x18 x19 x21 ⊢
    refine ⟨sz (by show 9 ≤ 16000000; decide), fun t25 ht25 => ?_⟩
    have s25 := same_new (o := .lst [.ref t15, .ref t16, .ref t17, .ref t18, .ref t19, .ref t21, .ref t24, .int 3, .int 40]) ht25
    have a25 := At.new (o := .lst [.ref t15, .ref t16, .ref t17, .ref t18, .ref t19, .ref t21, .ref t24, .int 3, .int 40]) g24.2 ht25
    have g25 := g24.trans (Gx.same g24.2 s25)
    have y2 := y2.to (.same s25)
    have x15 := x15.to (.same s25)
    have x16 := x16.to (.same s25)
    have x17 := x17.to (.same s25)
    have x18 := x18.to (.same s25)
    have x19 := x19.to (.same s25)
    have x21 := x21.to (.same s25)
    have x24 := x24.to (.same s25)
    have x25 : Dg p c (upd H24 t25 (.lst [.ref t15, .ref t16, .ref t17, .ref t18, .ref t19, .ref t21, .ref t24, .int 3, .int 40])) (.ref t25) (.list [.tuple [.str (Str.ofString "take"), .int 1], .tuple [.str (Str.ofString "begin")], .tuple [.str (Str.ofString "answer"), .int 1], .tuple [.str (Str.ofString "leave")], .tuple [.str (Str.ofString "close")], .tuple [.tuple [.str (Str.ofString "begin")]], .tuple [.tuple [], .tuple []], .int 3, .int 40]) := .lst a25 (.cons x15 (.cons x16 (.cons x17 (.cons x18 (.cons x19 (.cons x21 (.cons x24 (.cons (.int 3) (.cons (.int 40) (.nil))))))))))
    generalize upd H24 t25 (.lst [.ref t15, .ref t16, .ref t17, .ref t18, .ref t19, .ref t21, .ref t24, .int 3, .int 40]) = H25 at g25 x25 y2 ⊢
    obtain ⟨xs3, at3, da3⟩ := Dg.lstE y2
    obtain ⟨xs4, at4, da4⟩ := Dg.lstE x25
    refine ⟨_, _, xs3, xs4, rfl, rfl, at3.2.2, at4.2.2, by rw [da3.len, da4.len]; exact sz (by decide +kernel), fun td htd => ?_⟩
    have sd := same_new (o := .lst (xs3 ++ xs4)) htd
    have atd := At.new (o := .lst (xs3 ++ xs4)) g25.2 htd
    have gd := g25.trans (Gx.same g25.2 sd)
    have da := (da3.to (.same sd)).app (da4.to (.same sd))
    refine ⟨p, c, .ref td, rfl, gd.2, .inl ⟨td, _, rfl, atd, by rw [da.len]; decide +kernel, by rw [da.len]; decide +kernel, fun r x H9 hx g9 => ?_⟩⟩
    obtain ⟨d, hd, hdg⟩ := da.at_ hx
    exact q x d H9 (gd.trans g9) (hdg.to g9.kp) (odd_good (by decide +kernel) (List.mem_of_getElem? hd))
end
end Ag

end
/-! ## W2 -/
section
set_option linter.all false
set_option maxRecDepth 100000
set_option maxHeartbeats 1000000
namespace Ag
open PySem PySem.Spec PyProof.Rows L2
open SX (S S_len S_cat S_inj)
/-! ### what is told of a call -/
def nm5 (k : Nat) : Str := match k with
  | 0 => Str.ofString "BadBody"
  | 1 => Str.ofString "BadMessage"
  | 2 => Str.ofString "BadNews"
  | 3 => Str.ofString "BadNumber"
  | _ => Str.ofString "Broken"
abbrev retS : Str := Str.ofString "returned"
theorem nm5_ne (k : Nat) : nm5 k ≠ retS := by
  unfold nm5
  split <;> decide +kernel
def OcA (p c : Addr) (H : Hp) (t : Addr) (o : Oc) : Prop := match o with
  | .ret y => ∃ a b n, H t = some (.tup [.str retS, .ref a]) ∧ VwA H a b n y
  | .bad k d => ∃ v, H t = some (.tup [.str (nm5 k), v]) ∧ Dg p c H v d
def ocD : Oc → PyData
  | .ret y => .tuple [.str retS, vwD y]
  | .bad k d => .tuple [.str (nm5 k), d]
section
variable {p c t : Addr} {H H' : Hp} {o : Oc}
theorem OcA.dg (h : OcA p c H t o) (d : Dk p c H) : Dg p c H (.ref t) (ocD o) := by
  cases o with
  | ret y =>
    obtain ⟨a, b, n, h1, h2⟩ := h
    exact .tup (d.tp h1) (.cons (.str _) (.cons (h2.dg d) .nil))
  | bad k e =>
    obtain ⟨v, h1, h2⟩ := h
    exact .tup (d.tp h1) (.cons (.str _) (.cons h2 .nil))
theorem OcA.kt (h : OcA p c H t o) (d : Dk p c H) (g : Kt p c H H') : OcA p c H' t o := by
  cases o with
  | ret y =>
    obtain ⟨a, b, n, h1, h2⟩ := h
    exact ⟨a, b, n, Ts.kt d g _ _ h1, h2.to (Ts.kt d g)⟩
  | bad k e =>
    obtain ⟨v, h1, h2⟩ := h
    exact ⟨v, Ts.kt d g _ _ h1, h2.kt g⟩
end
/-- a thing that is drawn -/
def ThG (d : PyData) : Prop := ∃ q, Gd q d 3 600 ∧ (isT d = true → q = false)
def OkO (x : Vw) (o : Oc) : Prop := match o with
  | .ret y => y.ok 40
  | .bad _ d => d = .str x.h ∨ ThG d
theorem odd_th {d : PyData} (h : oddG d) : ThG d := by
  obtain ⟨q, h1, h2⟩ := h
  exact ⟨q, h1.mono (by decide) (by decide), h2⟩
theorem str_th {s : Str} (h : strOkB s = true) (h2 : s.cps.size ≤ 600) : ThG (.str s) := ⟨false, .str h h2, fun z => by cases z⟩
theorem OkO.sh {x : Vw} {o : Oc} (hw : wordB (.str x.h) = true) (h : OkO x o) : (ocD o).showable = true ∧ ((ocD o).hasDict = true → noL (ocD o) = true) ∧ (ocD o).depth ≤ 64 ∧ (ocD o).shown.length ≤ sizeLine := by
  cases o with
  | ret y =>
    have o : y.ok 40 := h
    refine (Gd.tup (q := false) (n := 2) (b := 7100) (.cons (b1 := 50) (b2 := 7001) (.str (by decide +kernel) (by decide +kernel)) (.cons (b1 := 7000) (b2 := 0) (o.gd false) .nil (by decide)) (by decide)) (Nat.le_of_ble_eq_true rfl)).fit (by decide) (by decide)
  | bad k d =>
    have ht : ThG d := by
      rcases h with rfl | h
      · obtain ⟨w1, w2⟩ := word_ok hw
        exact str_th w1 (by omega)
      · exact h
    obtain ⟨q, hg, _⟩ := ht
    refine (Gd.tup (q := q) (n := 3) (b := 1000) (.cons (b1 := 50) (b2 := 601) (.str ?_ ?_) (.cons (b1 := 600) (b2 := 0) hg .nil (by decide)) (by decide)) (Nat.le_of_ble_eq_true rfl)).fit (by decide) (by decide)
    · unfold nm5
      split <;> decide +kernel
    · unfold nm5
      split <;> decide +kernel
/-! bounds -/
def enI (o : Option Nat) : List Int := match o with
  | none => []
  | some k => [(k : Int)]
def ensI (x : Vw) : List Int := enI x.aw ++ enI x.up
theorem evs_int (a u : Option Nat) : evsL (nV a) (nV u) = (enI a ++ enI u).map V.int := by
  cases a <;> cases u <;> rfl
theorem ens_int (a u : Option Nat) : (endsL (nD a) (nD u)).map asInt = enI a ++ enI u := by
  cases a <;> cases u <;> rfl
theorem an_int (an : List Nat) : (anD an).map asInt = an.map fun k => ((k : Nat) : Int) := by
  unfold anD
  rw [List.map_map]
  rfl
theorem lo_eq (x : Vw) : loD (vwD x) = maxE 0 ((x.an.map fun k => ((k : Nat) : Int)) ++ ensI x) := by
  show maxE 0 ((anD x.an).map asInt ++ (endsL (nD x.aw) (nD x.up)).map asInt) = _
  rw [ens_int, an_int]
  rfl
theorem hi_eq (x : Vw) : hiD (vwD x) = minE (x.bs.length : Int) (ensI x) := by
  show minE (lenT (.tuple (bsD x.bs)) : Int) ((endsL (nD x.aw) (nD x.up)).map asInt) = _
  rw [ens_int, bs_len]
  rfl
theorem numE_le {m : Nat} {k : Nat} (h : numE m (nD (some k)) = true) : (k : Int) ≤ m := by
  unfold numE at h
  rw [Bool.and_eq_true, decide_eq_true_eq] at h
  exact h.2
theorem hi_head {x : Vw} (h : viewB (vwD x) = true) : (ensI x ++ [((x.bs.length : Nat) : Int)]).head? = some (hiD (vwD x)) := by
  rw [hi_eq]
  obtain ⟨_, _, h3⟩ := vw_parts h
  unfold seenB at h3
  unfold ensI
  split at h3
  · simp only [Bool.and_eq_true] at h3
    cases ha : x.aw with
    | some k => rw [ha] at h3; exact absurd h3.2.1 (by simp [nD, isN])
    | none =>
      cases hu : x.up with
      | some k => rw [hu] at h3; exact absurd h3.2.2 (by simp [nD, isN])
      | none => simp [enI, minE]
  · simp only [Bool.and_eq_true, List.all_eq_true] at h3
    obtain ⟨_, h4, h5, _⟩ := h3
    rw [ens_int] at h5
    cases ha : x.aw with
    | none =>
      cases hu : x.up with
      | none => simp [enI, minE]
      | some k =>
        rw [ha, hu] at h4
        have := numE_le (h4 (nD (some k)) (by simp [endsL, nD, isN]))
        simp only [enI, List.nil_append, List.singleton_append, List.head?_cons, minE, Option.some.injEq]
        omega
    | some j =>
      cases hu : x.up with
      | none =>
        rw [ha, hu] at h4
        have := numE_le (h4 (nD (some j)) (by simp [endsL, nD, isN]))
        simp only [enI, List.append_nil, List.singleton_append, List.head?_cons, minE, Option.some.injEq]
        omega
      | some k =>
        rw [ha, hu] at h4 h5
        have h6 := numE_le (h4 (nD (some j)) (by simp [endsL, nD, isN]))
        have h7 : (j : Int) = k := of_decide_eq_true h5
        simp only [enI, List.singleton_append, List.cons_append, List.nil_append, List.head?_cons, minE, Option.some.injEq]
        omega
end Ag

end
/-! ## EqL -/
section
set_option linter.all false
set_option maxRecDepth 100000
set_option maxHeartbeats 4000000
namespace Ag
open PySem PySem.Spec PyProof.Rows L2
open SX (S S_len S_cat S_inj)
open SeqAt
/-! ### any data == a text; a list == [], a list != [] -/
section
variable {A : Around} {s : Shared}
theorem rc_dictS {z : Addr} {o : Obj} {es : Array DictEntry} {e1 : Nat} (b : Str) (k : Tok) (ho : s.heap.get? z = some o) (hc : o.cls = .type "dict") (hd : o.data = .dict es e1) (hu : A.units < cLine) : RcAt A s (.ref z) (.str b k) false := by
  intro pr w E Q y
  obtain ⟨cls, q, data, sl⟩ := o
  simp only at hc hd
  subst hc hd
  refine rc_eq_decline_or (k := false) ⟨_, ho, rfl⟩ (typeIs_str s b k) (by decide) F.sub_str_dict F.slot_dict_eq F.slot_str_eq_refl ?_ ?_ ?_ (.inr hu) y
  · exact fun _ hq => call_meets F.slot_dict_eq ⟨_, ho, rfl⟩ F.entry_dict_eq (F.args_dict_eq_2 _ _) (dctS z es e1 q sl b k) ⟨ho, hq⟩
  · exact fun _ hq => call_meets F.slot_str_eq_refl (typeIs_str s b k) F.entry_str_eq (F.args_str_eq_2 _ _) (strD b k z es e1 q sl) ⟨ho, hq⟩
  · exact fun _ hq => wpAny_of_eq (rfl : isSame (.ref z) (.str b k) = pure false) hq
end
section
variable {X : Cx}
/-- any data == a text -/
def eqDS (b : Str) : PyData → Bool
  | .str x => x == b
  | _ => false
def rEqS : R2 := fun x y H Q => ∃ p c d b, Dg p c H x d ∧ y = .str b ∧ Q (.bl (eqDS b d)) H
theorem op_eqSA (hu : X.A.units + 64 < cLine) : OpR X (compareOp .Eq) rEqS := by
  intro pins s σ H x y v u Q I rx ry h
  obtain ⟨p, c, d, b, hd, rfl, q⟩ := h
  obtain ⟨k, rfl⟩ := ry
  have hu0 : X.A.units < cLine := by omega
  cases hd with
  | non => cases rx; exact RcAt.none_str b k _ _ _ _ ⟨.bl _, H, I, rfl, q⟩
  | bl i => cases rx; exact RcAt.bool_str i b k _ _ _ _ ⟨.bl _, H, I, rfl, q⟩
  | int i => obtain ⟨t, rfl⟩ := rx; exact RcAt.int_str i t b k _ _ _ _ ⟨.bl _, H, I, rfl, q⟩
  | str z => obtain ⟨t, rfl⟩ := rx; exact RcAt.str_str z t b k _ _ _ _ ⟨.bl _, H, I, rfl, q⟩
  | lst e _ =>
    cases rx
    obtain ⟨its2, rv2, hL, _⟩ := I.list (SqL.of e.2.2)
    exact RcAt.list_str b k hL.isList hu0 _ _ _ _ ⟨.bl _, H, I, rfl, q⟩
  | tup e _ =>
    cases rx
    obtain ⟨its2, rv2, hL, _⟩ := I.tuple (SqT.of e.2.2)
    exact RcAt.tuple_str b k hL hu0 _ _ _ _ ⟨.bl _, H, I, rfl, q⟩
  | dic e _ =>
    cases rx
    obtain ⟨_, _, vs, _, o, es, ep, ho, hex, hdt, _⟩ := I.hok _ _ e.2.2
    exact rc_dictS b k ho hex.1 hdt hu0 _ _ _ _ ⟨.bl _, H, I, rfl, q⟩
/-- a list == [], a list != [] -/
def rEqL0 : R2 := fun x y H Q => ∃ a xs t, x = .ref a ∧ H a = some (.lst xs) ∧ y = .ref t ∧ H t = some (.lst []) ∧ Q (.bl (decide (xs = []))) H
def rNeL0 : R2 := fun x y H Q => ∃ a xs t, x = .ref a ∧ H a = some (.lst xs) ∧ y = .ref t ∧ H t = some (.lst []) ∧ Q (.bl (!decide (xs = []))) H
theorem op_eqL0 (hu : X.A.units + 64 < cLine) : OpR X (compareOp .Eq) rEqL0 := by
  intro pins s σ H x y v u Q I rx ry h
  obtain ⟨a, xs, t, rfl, ha, rfl, ht, q⟩ := h
  cases rx
  cases ry
  have hu0 : X.A.units < cLine := by omega
  obtain ⟨its, rv, hT, _⟩ := I.list (SqL.of ht)
  cases rv
  obtain ⟨its2, rv2, hT2, _⟩ := I.list (SqL.of ha)
  cases rv2 with
  | nil => exact RcAt.lists (e := fun _ => true) hT2.isList hT.isList rfl hu0 (fun j h1 _ => by simp at h1) _ _ _ _ ⟨.bl _, H, I, rfl, q⟩
  | cons h1 h2 => exact RcAt.lists_lengths hT2.isList hT.isList (by simp) hu0 _ _ _ _ ⟨.bl _, H, I, rfl, q⟩
theorem op_neL0 (hu : X.A.units + 64 < cLine) : OpR X (compareOp .NotEq) rNeL0 := by
  intro pins s σ H x y v u Q I rx ry h
  obtain ⟨a, xs, t, rfl, ha, rfl, ht, q⟩ := h
  cases rx
  cases ry
  have hu0 : X.A.units < cLine := by omega
  obtain ⟨its, rv, hT, _⟩ := I.list (SqL.of ht)
  cases rv
  obtain ⟨its2, rv2, hT2, _⟩ := I.list (SqL.of ha)
  cases rv2 with
  | nil => exact RcNeAt.lists (e := fun _ => true) hT2.isList hT.isList rfl hu0 (fun j h1 _ => by simp at h1) _ _ _ _ ⟨.bl _, H, I, rfl, q⟩
  | cons h1 h2 => exact RcNeAt.lists_lengths hT2.isList hT.isList (by simp) hu0 _ _ _ _ ⟨.bl _, H, I, rfl, q⟩
end
end Ag

end
/-! ## Q1 -/
section
set_option linter.all false
set_option maxRecDepth 100000
set_option maxHeartbeats 4000000
namespace Ag
open PySem PySem.Spec PyProof.Rows L2
open SX (S S_len S_cat S_inj)
/-! ### the law's own bounds, fates and news -/
theorem news_rest {w : Str} {ds : List PyData} (h0 : w ≠ wS 0) (h1 : w ≠ wS 1) (h2 : w ≠ wS 2) : newsB (.tuple (.str w :: ds)) = PyData.eqv (.tuple (.str w :: ds)) (.tuple [.str (wS 3)]) := by
  match ds with
  | [] =>
    simp only [newsB, PyData.eqv, PyData.eqvAll, Bool.and_true]
    rw [beq_dec, Bool.eq_iff_iff, decide_eq_true_eq, decide_eq_true_eq]
    exact eq_comm
  | [d] => simp [newsB, h0, h2, PyData.eqv, PyData.eqvAll]
  | [d, e] => simp [newsB, h1, PyData.eqv, PyData.eqvAll]
  | d :: e :: f :: r => simp [newsB, PyData.eqv, PyData.eqvAll]
theorem sl_t {K : PySem.W.Frag} {Q : VK} {H : Hp} {a : Addr} {xs : List V} {lo hi : Option Int} (ha : H a = some (.tup xs)) (k : ∀ a' H', Same H H' → H' a' = some (.tup (cutV xs lo hi)) → Q (.ref a') H') : rSlA K (.ref a) lo hi H Q := by
  refine ⟨a, xs, rfl, SqT.of ha, fun h => k a H (Same.refl _) ?_, fun _ q hq => k q _ (same_new hq) upd_same⟩
  have e : cutV xs lo hi = xs := by
    unfold cutV
    rw [h.1, h.2]
    simp
  rw [e]
  exact ha
theorem cat_t {K : PySem.W.Frag} {Q : VK} {H : Hp} {a b : Addr} {xs ys : List V} (ha : H a = some (.tup xs)) (hb : H b = some (.tup ys)) (hz : xs.length + ys.length ≤ 1000000) (k : ∀ a' H', Same H H' → H' a' = some (.tup (xs ++ ys)) → Q (.ref a') H') : rCatA K (.ref a) (.ref b) H Q := by
  refine ⟨a, b, xs, ys, rfl, rfl, SqT.of ha, SqT.of hb, sz (by omega), fun h => ?_, fun _ h => ?_, fun _ _ q hq => k q _ (same_new hq) upd_same⟩
  · subst h
    exact k b H (Same.refl _) hb
  · subst h
    rw [List.append_nil] at k
    exact k a H (Same.refl _) ha
section
variable {P : Program} {w : World} {K : PySem.W.Frag} {mg : Str → Option Value} {base : Heap} {tn tw tb : Tok}
def spLH : Sp := fun vs H Q _ => ∃ a b n x, vs = [.ref a] ∧ VwA H a b n x ∧ x.ok 40 ∧ ∀ t H', Same H H' → H' t = some (.tup [.int (loD (vwD x)), .int (hiD (vwD x))]) → Q (.ref t) H'
theorem ok_lh {f : Addr} {fd : FuncData} (F : Fn K mg "_law_low_high" s__law_low_high ["_law_view"] f fd) (B : Con mg tn tw tb) : FnOk P w K mg base CX0 1 f fd ["_law_view"] spLH := by
  refine F.F.ok sc__law_low_high (fun vs H Q E h => ?_) (fun cdv A outer s H vs Q E hr h => ?_)
  · obtain ⟨a, b, n, x, rfl, _⟩ := h
    rfl
  · obtain ⟨a, b, n, x, rfl, vw, ok, q⟩ := h
    refine ⟨_, (pss_cons (ps_setLc (i := 1) (own := [("_law_end", 2)]) rfl sc__law_low_high.nd rfl rfl (sw_true rfl rfl rfl (by decide +kernel)) (pi_tup (pe_slice sl_tupA (pv 0) (po_some pe_int) (po_some pe_int))) (blkOk_by (N := N__law_low_high) (sc := defScope s__law_low_high) (by decide +kernel)) (fun _ _ _ _ _ => (pg_name (i := 2) sc__law_low_high.nd rfl (Or.inl rfl))) (fun _ _ _ _ _ => (pts_one (pt_cmpR op_notN (pv 2) pe_non (nomark _)))) (fun _ _ _ _ _ => (pv 2)))
      (pss_one (ps_ret (pe_tup (pa_cons (pe_callB (cr_max rfl) (by rfl) B.n_max (by decide +kernel) (pa_cons (pe_op op_cat (pe_op op_cat (pe_lst (pa_cons pe_int pa_nil)) (pe_callTy call_list_of (by rfl) B.n_list (by decide +kernel) (pa_cons (pe_ix ix_tup (pv 0) pe_int (fun _ _ => rfl)) pa_nil))) (pv 1)) pa_nil)) (pa_cons (pe_ix ix_list (pe_op op_cat (pv 1) (pe_lst (pa_cons (pe_callB call_len (by rfl) B.n_len PySem.boot_len (pa_cons (pe_ix ix_tup (pv 0) pe_int (fun _ _ => rfl)) pa_nil)) pa_nil))) pe_int (fun _ _ => rfl)) pa_nil)))))), ?_⟩
    refine ⟨_, rfl, _, rfl, _, rfl, ?_⟩
    refine sl_t vw.a fun T H3 s3 hT3 => ?_
    rw [show cutV (xsV x b n) (some 4) (some 6) = [nV x.aw, nV x.up] from rfl] at hT3
    refine ⟨T, rfl, ⟨_, SqT.of hT3⟩, fun D2 hD2 => ?_⟩
    refine lc_sel (walk_tup (K := K) (a := T) (xs := [nV x.aw, nV x.up])) (fun i => !decide (([nV x.aw, nV x.up] : List V).getD i .non = .non)) (fun i => ([nV x.aw, nV x.up] : List V).getD i .non) (by show 2 ≤ _; decide) hD2 (fun H' s => SqT.of (s _ _ hT3)) ?_ ?_
    · rintro i y H4 H5 k kf hi s4 ⟨rfl, hy⟩ hk hk0
      have ey : ([nV x.aw, nV x.up] : List V).getD i .non = y := by rw [List.getD_eq_getElem?_getD, hy]; rfl
      rw [ey] at hk hk0
      refine ⟨rfl, _, rfl, rfl, _, rfl, ?_⟩
      cases hn : decide (y = V.non) with
      | false => exact iteT ⟨_, rfl, hk (by rw [hn]; rfl) _ (Same.refl _)⟩
      | true => exact iteF (hk0 (by rw [hn]; rfl) _ (Same.refl _))
    · intro H4 s4 h4
      rw [show ([nV x.aw, nV x.up] : List V).length = 2 from rfl, sel_ends, evs_int] at h4
      have h4 : H4 D2 = some (.lst ((ensI x).map V.int)) := h4
      have s4 := s3.trans s4
      have vw := vw.to (.of s4)
      have en2 : (ensI x).length ≤ 2 := by
        unfold ensI enI
        cases x.aw <;> cases x.up <;> simp
      have bl : (bsV x.bs).length = x.bs.length := by unfold bsV; rw [List.length_map]
      have al : (anV x.an).length = x.an.length := by unfold anV; rw [List.length_map]
      have o1 := ok.l
      have o2 := ok.n
      -- max
      refine ⟨sz (Nat.le_of_ble_eq_true rfl), fun l0 hl0 => ?_⟩
      have s5 := same_new (o := .lst [.int 0]) hl0
      have e0 : upd H4 l0 (.lst [.int 0]) l0 = some (.lst [.int 0]) := upd_same
      generalize upd H4 l0 (.lst [.int 0]) = H5 at s5 e0 ⊢
      refine ⟨_, rfl, a, _, _, _, rfl, rfl, SqT.of (s5 _ _ vw.a), atI_nat (j := 3) rfl, n, _, rfl, .inr (SqT.of (s5 _ _ vw.n)), fun l1 hl1 => ?_⟩
      have s6 := same_new (o := .lst (anV x.an)) hl1
      have e1 : upd H5 l1 (.lst (anV x.an)) l1 = some (.lst (anV x.an)) := upd_same
      have e0 := s6 _ _ e0
      have s6 := s5.trans s6
      generalize upd H5 l1 (.lst (anV x.an)) = H6 at s6 e0 e1 ⊢
      refine ⟨l0, l1, _, _, rfl, rfl, e0, e1, sz (by rw [List.length_singleton, al]; omega), fun l2 hl2 => ?_⟩
      have s7 := s6.trans (same_new (o := .lst ([.int 0] ++ anV x.an)) hl2)
      have e2 : upd H6 l2 (.lst ([.int 0] ++ anV x.an)) l2 = some (.lst ([.int 0] ++ anV x.an)) := upd_same
      generalize upd H6 l2 (.lst ([.int 0] ++ anV x.an)) = H7 at s7 e2 ⊢
      refine ⟨_, rfl, l2, D2, _, _, rfl, rfl, e2, s7 _ _ h4, sz (by rw [List.length_append, List.length_singleton, al, List.length_map]; omega), fun l3 hl3 => ?_⟩
      have s8 := s7.trans (same_new (o := .lst (([.int 0] ++ anV x.an) ++ (ensI x).map V.int)) hl3)
      have e3 : upd H7 l3 (.lst (([.int 0] ++ anV x.an) ++ (ensI x).map V.int)) l3 = some (.lst (((0 : Int) :: ((x.an.map fun k => ((k : Nat) : Int)) ++ ensI x)).map V.int)) := by
        rw [upd_same]
        unfold anV
        simp
      generalize upd H7 l3 (.lst (([.int 0] ++ anV x.an) ++ (ensI x).map V.int)) = H8 at s8 e3 ⊢
      refine ⟨l3, _, rfl, SqL.of e3, by simp, fun lo' l1' l2' => ?_⟩
      have el := max_uniq l1' l2'
      rw [← lo_eq] at el
      subst el
      -- the first one
      refine ⟨_, rfl, _, rfl, a, _, _, _, rfl, rfl, SqT.of (s8 _ _ vw.a), atI_nat (j := 2) rfl, .ref b, _, rfl, .inr ⟨_, SqT.of (s8 _ _ vw.b), rfl⟩, sz (Nat.le_of_ble_eq_true rfl), fun l4 hl4 => ?_⟩
      rw [bl]
      have s9 := s8.trans (same_new (o := .lst [.int (x.bs.length : Int)]) hl4)
      have e4 : upd H8 l4 (.lst [.int (x.bs.length : Int)]) l4 = some (.lst [.int (x.bs.length : Int)]) := upd_same
      generalize upd H8 l4 (.lst [.int (x.bs.length : Int)]) = H9 at s9 e4 ⊢
      refine ⟨D2, l4, _, _, rfl, rfl, s9 _ _ h4, e4, sz (by rw [List.length_map, List.length_singleton]; omega), fun l5 hl5 => ?_⟩
      have s10 := s9.trans (same_new (o := .lst ((ensI x).map V.int ++ [.int (x.bs.length : Int)])) hl5)
      have e5 : upd H9 l5 (.lst ((ensI x).map V.int ++ [.int (x.bs.length : Int)])) l5 = some (.lst ((ensI x ++ [(x.bs.length : Int)]).map V.int)) := by
        rw [upd_same, List.map_append]
        rfl
      generalize upd H9 l5 (.lst ((ensI x).map V.int ++ [.int (x.bs.length : Int)])) = H10 at s10 e5 ⊢
      have hh := hi_head ok.v
      refine ⟨l5, _, _, .int (hiD (vwD x)), rfl, rfl, SqL.of e5, atI_nat (j := 0) ?_, sz (Nat.le_of_ble_eq_true rfl), fun t ht => q t _ ((s4.trans s10).trans (same_new ht)) upd_same⟩
      rw [List.getElem?_map, ← List.head?_eq_getElem?, hh]
      rfl
def spLFate : Sp := fun vs H Q _ => ∃ a b n x, ∃ k : Nat, vs = [.ref a, .int (k : Int)] ∧ VwA H a b n x ∧ x.ok 40 ∧ ∀ H', Same H H' → Q (.str (fateS (loD (vwD x)) (hiD (vwD x)) k)) H'
theorem ok_lfate {f f1 : Addr} {fd fd1 : FuncData} (F : Fn K mg "_law_fate" s__law_fate ["_law_view", "_law_n"] f fd) (F__law_low_high : Fn K mg "_law_low_high" s__law_low_high ["_law_view"] f1 fd1) (G__law_low_high : FnOk P w K mg base CX0 1 f1 fd1 ["_law_view"] spLH) : FnOk P w K mg base CX0 2 f fd ["_law_view", "_law_n"] spLFate := by
  refine F.F.ok sc__law_fate (fun vs H Q E h => ?_) (fun cdv A outer s H vs Q E hr h => ?_)
  · obtain ⟨a, b, n, x, k, rfl, _⟩ := h
    rfl
  · obtain ⟨a, b, n, x, k, rfl, vw, ok, q⟩ := h
    refine ⟨_, (pss_cons (ps_asg (pe_call G__law_low_high (hr.mono (by decide)) (by rfl) F__law_low_high.g F__law_low_high.F.kp F__law_low_high.b .nil pass0 (pa_cons (pv 0) pa_nil)) (pg_tup rfl (pgs_cons (pg_name (i := 2) sc__law_fate.nd rfl (Or.inl rfl)) (pgs_cons (pg_name (i := 3) sc__law_fate.nd rfl (Or.inl rfl)) pgs_nil))))
      (pss_one (ps_ret (pe_ifExp (pt_cmpR op_le (pv 1) (pv 2) (nomark _)) pe_str (pe_ifExp (pt_cmpR op_gt (pv 1) (pv 3) (nomark _)) pe_str pe_str))))), ?_⟩
    refine ⟨_, rfl, a, b, n, x, rfl, vw, ok, fun t H1 s1 ht => ⟨t, _, rfl, SqT.of ht, rfl, _, _, rfl, _, _, rfl, rfl, ?_⟩⟩
    have q := q H1 s1
    unfold fateS at q
    refine ⟨_, rfl, _, rfl, _, _, rfl, rfl, _, rfl, ite2 (fun z => ?_) (fun z => ?_)⟩
    · rw [if_pos (of_decide_eq_true z)] at q
      exact q
    · rw [if_neg (of_decide_eq_false (Bool.eq_false_iff.mpr z))] at q
      refine ⟨_, rfl, _, rfl, _, _, rfl, rfl, _, rfl, ite2 (fun z2 => ?_) (fun z2 => ?_)⟩
      · rw [if_pos (of_decide_eq_true z2)] at q
        exact q
      · rw [if_neg (of_decide_eq_false (Bool.eq_false_iff.mpr z2))] at q
        exact q
theorem at_new0 {p c a : Addr} {H : Hp} {o : HO} (hp : H p ≠ none) (hc : H c ≠ none) (h : H a = none) : At p c (upd H a o) a o := ⟨fun e => hp (e ▸ h), fun e => hc (e ▸ h), upd_same⟩
theorem sf {p : Addr} {H H' : Hp} (s : Same H H') (h : H' p = none) : H p = none := by
  cases e : H p with
  | none => rfl
  | some o => rw [s p o e] at h; cases h
def spLNews : Sp := fun vs H Q _ => ∃ p c v d, vs = [v] ∧ H p ≠ none ∧ H c ≠ none ∧ Dg p c H v d ∧ ThG d ∧ ∀ H', Same H H' → Q (.bl (newsB d)) H'
theorem ok_lnews {f f1 f2 : Addr} {fd fd1 fd2 : FuncData} (F : Fn K mg "_law_is_news" s__law_is_news ["_law_thing"] f fd) (B : Con mg tn tw tb) (F__law_is_whole : Fn K mg "_law_is_whole" s__law_is_whole ["_law_thing", "_law_low", "_law_high"] f1 fd1)
    (F__law_is_body : Fn K mg "_law_is_body" s__law_is_body ["_law_thing"] f2 fd2) : FnOk P w K mg base CX0 2 f fd ["_law_thing"] spLNews := by
  have G__law_is_whole : FnOk P w K mg base CX0 1 f1 fd1 ["_law_thing", "_law_low", "_law_high"] spWhole := ok_whole F__law_is_whole B
  have G__law_is_body : FnOk P w K mg base CX0 1 f2 fd2 ["_law_thing"] spLBody := ok_lbody F__law_is_body B
  refine F.F.ok sc__law_is_news (fun vs H Q E h => ?_) (fun cdv A outer s H vs Q E hr h => ?_)
  · obtain ⟨p, c, v, d, rfl, _⟩ := h
    rfl
  · obtain ⟨p, c, v, d, rfl, hp, hc, hd, ⟨gq, hg, hgq⟩, q⟩ := h
    refine ⟨_, (pss_cons (ps_if (PW.pt (pw_or (pt_not (pt_val (pe_callB call_isi (by rfl) B.n_isinstance (by decide +kernel) (pa_cons (pv 0) (pa_cons (pe_bltn (v := .ty "tuple") (by rfl) B.n_tuple (by decide +kernel) rfl) pa_nil))))) (pw_or (pt_cmpR (op_eqT0 (h64u hr)) (pv 0) (pe_tup pa_nil) (nomark _)) (pw_or1 (pt_not (pt_val (pe_callB call_isi (by rfl) B.n_isinstance (by decide +kernel) (pa_cons (pe_ix ix_tup (pv 0) pe_int (fun _ _ => rfl)) (pa_cons (pe_bltn (v := .ty "str") (by rfl) B.n_str (by decide +kernel) rfl) pa_nil)))))))))
      (pss_one (ps_ret pe_bl))
      pss_nil)
      (pss_cons (ps_if (pt_cmpR op_eq (pe_ix ix_tup (pv 0) pe_int (fun _ _ => rfl)) pe_str (nomark _))
      (pss_one (ps_ret (pe_and (pe_cmpR op_eq (pe_callB call_len_seq (by rfl) B.n_len PySem.boot_len (pa_cons (pv 0) pa_nil)) pe_int (nomark _)) (pe_and (pe_call G__law_is_whole (hr.mono (by decide)) (by rfl) F__law_is_whole.g F__law_is_whole.F.kp F__law_is_whole.b .nil pass0 (pa_cons (pe_ix ix_tup (pv 0) pe_int (fun _ _ => rfl)) (pa_cons pe_int (pa_cons (pe_op op_pow pe_int pe_int) pa_nil)))) (pe_one (pe_call G__law_is_body (hr.mono (by decide)) (by rfl) F__law_is_body.g F__law_is_body.F.kp F__law_is_body.b .nil pass0 (pa_cons (pe_ix ix_tup (pv 0) pe_int (fun _ _ => rfl)) pa_nil)))))))
      pss_nil)
      (pss_cons (ps_if (pt_cmpR op_in_seq (pe_ix ix_tup (pv 0) pe_int (fun _ _ => rfl)) (pe_tup (pa_cons pe_str (pa_cons pe_str pa_nil))) rfl)
      (pss_one (ps_ret (pe_and (pe_cmpR op_eq (pe_callB call_len_seq (by rfl) B.n_len PySem.boot_len (pa_cons (pv 0) pa_nil)) pe_int (nomark _)) (pe_one (pe_call G__law_is_whole (hr.mono (by decide)) (by rfl) F__law_is_whole.g F__law_is_whole.F.kp F__law_is_whole.b .nil pass0 (pa_cons (pe_ix ix_tup (pv 0) pe_int (fun _ _ => rfl)) (pa_cons pe_int (pa_cons (pe_op op_pow pe_int pe_int) pa_nil))))))))
      pss_nil)
      (pss_one (ps_ret (pe_cmpR (op_eqG (h64u hr)) (pv 0) (pe_tup (pa_cons pe_str pa_nil)) (nomark _))))))), ?_⟩
    refine ⟨v, rfl, v, .ty "tuple", _, _, _, rfl, .ty "tuple", hd.tyx, isi_T d, _, rfl, ?_⟩
    cases hd with
    | @tup m xs ds hm hA =>
      refine iteF ⟨_, rfl, sz (Nat.le_of_ble_eq_true rfl), fun e he => ?_⟩
      have s1 := same_new (o := .tup []) he
      have hm1 := hm.kp (.same s1)
      have hA1 := hA.to (.same s1)
      refine ⟨p, c, .tuple ds, e, .tup hm1 hA1, rfl, rfl, upd_same, _, rfl, ?_⟩
      have e1 : upd H e (.tup []) e = some (.tup []) := upd_same
      generalize upd H e (.tup []) = H1 at s1 hm1 hA1 e1 ⊢
      cases ds with
      | nil => exact iteT (q H1 s1)
      | cons d0 ds =>
      cases hA1 with
      | cons g0 gA =>
      rename_i x0 xs
      refine iteF ⟨_, rfl, m, _, _, x0, rfl, rfl, SqT.of hm1.2.2, atI_nat (j := 0) rfl, x0, .ty "str", _, _, _, rfl, .ty "str", g0.tyx, isi_S d0, _, rfl, ?_⟩
      have hgA := hg.untup.1
      cases g0 with
      | str wd =>
        refine iteF ⟨_, rfl, m, _, _, _, rfl, rfl, SqT.of hm1.2.2, atI_nat (j := 0) rfl, rfl, _, rfl, ?_⟩
        have e10 : (10 : Int) ^ (9 : Int).toNat = 1000000000 := by decide +kernel
        have q0 := q
        by_cases h1 : wd = wS 1
        · subst h1
          refine sT rfl ⟨_, rfl, m, _, rfl, .inr (SqT.of hm1.2.2), rfl, _, rfl, ?_⟩
          have q := q H1 s1
          cases gA with
          | nil =>
            rw [show newsB (.tuple [.str (wS 1)]) = false from decide_eq_false (wS_ne 1 (by decide) 3 (by decide) (by decide))] at q
            exact iteF q
          | @cons v1 _ d1 _ g1 gA =>
          cases gA with
          | nil =>
            rw [show newsB (.tuple [.str (wS 1), d1]) = false by simp [newsB, wS_ne 1 (by decide) 0 (by decide) (by decide), wS_ne 1 (by decide) 2 (by decide) (by decide)]] at q
            exact iteF q
          | @cons v2 _ d2 _ g2 gA =>
          cases gA with
          | cons g3 gA => exact iteF q
          | nil =>
            rw [show newsB (.tuple [.str (wS 1), d1, d2]) = (wholeB 1 1000000000 d1 && bodyB d2) by simp [newsB]] at q
            refine iteT ⟨_, rfl, m, _, _, _, rfl, rfl, SqT.of hm1.2.2, atI_nat (j := 1) rfl, _, _, rfl, rfl, ⟨by decide, by decide, by decide⟩, p, c, v1, d1, 1, _, rfl, g1, _, rfl, ?_⟩
            rw [e10]
            cases hw : wholeB 1 1000000000 d1 with
            | false =>
              rw [hw] at q
              exact iteF q
            | true =>
              rw [hw, Bool.true_and] at q
              exact iteT ⟨_, rfl, m, _, _, _, rfl, rfl, SqT.of hm1.2.2, atI_nat (j := 2) rfl, p, c, v2, d2, gq, _, _, rfl, g2, hgA.hd.2.hd.2.hd.1, fun H2 s2 => (q0 H2 (s1.trans s2)) |> fun z => by
                rw [show newsB (.tuple [.str (wS 1), d1, d2]) = (wholeB 1 1000000000 d1 && bodyB d2) by simp [newsB], hw, Bool.true_and] at z
                exact z⟩
        · refine sF h1 ⟨_, rfl, m, _, _, _, rfl, rfl, SqT.of hm1.2.2, atI_nat (j := 0) rfl, sz (Nat.le_of_ble_eq_true rfl), fun t ht => ?_⟩
          have s2 := same_new (o := .tup [.str (Str.ofString "hello"), .str (Str.ofString "away")]) ht
          have ht2 : upd H1 t (.tup [.str (Str.ofString "hello"), .str (Str.ofString "away")]) t = some (.tup [.str (wS 0), .str (wS 2)]) := upd_same
          have hm2 := hm1.kp (.same s2)
          replace gA := gA.to (.same s2)
          have s2 := s1.trans s2
          generalize upd H1 t (.tup [.str (Str.ofString "hello"), .str (Str.ofString "away")]) = H2 at s2 ht2 hm2 gA ⊢
          refine ⟨t, [.str (wS 0), .str (wS 2)], rfl, .inr (SqT.of ht2), rfl, rfl, _, rfl, ?_⟩
          rw [if_neg (by decide), show inV (.str wd) [.str (wS 0), .str (wS 2)] = (decide (wd = wS 0) || decide (wd = wS 2)) by
            show ((wS 0 == wd) || ((wS 2 == wd) || false)) = _
            rw [beq_dec, beq_dec, Bool.or_false]]
          have q := q H2 s2
          cases hh : (decide (wd = wS 0) || decide (wd = wS 2)) with
          | true =>
            refine iteT ⟨_, rfl, m, _, rfl, .inr (SqT.of hm2.2.2), rfl, _, rfl, ?_⟩
            have n3 : wd ≠ wS 3 := by
              rw [Bool.or_eq_true, decide_eq_true_eq, decide_eq_true_eq] at hh
              rcases hh with rfl | rfl
              · exact wS_ne 0 (by decide) 3 (by decide) (by decide)
              · exact wS_ne 2 (by decide) 3 (by decide) (by decide)
            cases gA with
            | nil =>
              rw [show newsB (.tuple [.str wd]) = false from decide_eq_false n3] at q
              exact iteF q
            | @cons v1 _ d1 _ g1 gA =>
            cases gA with
            | nil =>
              rw [show newsB (.tuple [.str wd, d1]) = wholeB 0 1000000000 d1 by simp only [newsB]; rw [hh, Bool.true_and]] at q
              refine iteT ⟨_, rfl, m, _, _, _, rfl, rfl, SqT.of hm2.2.2, atI_nat (j := 1) rfl, _, _, rfl, rfl, ⟨by decide, by decide, by decide⟩, p, c, v1, d1, 0, _, rfl, g1, ?_⟩
              rw [e10]
              exact q
            | @cons v2 _ d2 _ g2 gA =>
              cases gA with
              | nil =>
                rw [show newsB (.tuple [.str wd, d1, d2]) = false by simp [newsB, h1]] at q
                exact iteF q
              | cons g3 gA => exact iteF q
          | false =>
            rw [Bool.or_eq_false_iff, decide_eq_false_iff_not, decide_eq_false_iff_not] at hh
            refine iteF ⟨_, rfl, sz (Nat.le_of_ble_eq_true rfl), fun u hu => ?_⟩
            have s3 := same_new (o := .tup [.str (wS 3)]) hu
            have hq := hgq rfl
            subst hq
            refine ⟨p, c, .tuple (.str wd :: ds), .tuple [.str (wS 3)], .tup (hm2.kp (.same s3)) (.cons (.str _) (gA.to (.same s3))), .tup (at_new0 (fun z => hp (sf s2 z)) (fun z => hc (sf s2 z)) hu) (.cons (.str _) .nil), hg.shaped (by decide), by decide +kernel, ?_⟩
            rw [← news_rest hh.1 h1 hh.2]
            exact q0 _ (s2.trans s3)
      | _ => exact iteT (q H1 s1)
    | _ => exact iteT (q H (Same.refl _))
end
end Ag

end
/-! ## Q2 -/
section
set_option linter.all false
set_option maxRecDepth 100000
set_option maxHeartbeats 4000000
namespace Ag
open PySem PySem.Spec PyProof.Rows L2
open SX (S S_len S_cat S_inj)
/-! ### what the law says is due -/
def newsF (x : Vw) (d : PyData) : Option Vw := match newsV x d with
  | some y => if viewB (vwD y) = true then some y else none
  | none => none
theorem heardO_eq (x : Vw) (d : PyData) : heardO x d = if newsB d = true then (if x.br = true then .bad 4 (.str x.h) else match newsF x d with | some y => .ret y | none => .bad 2 d) else .bad 1 d := by
  unfold heardO newsF
  cases newsV x d with
  | none => rfl
  | some y =>
    by_cases h : viewB (vwD y) = true
    · simp [h]
    · simp [h]
theorem hello_view {x : Vw} {k : Nat} (h : viewB (vwD x) = true) (hb : x.bt = none) (hk : k ≤ 1000000000) : viewB (vwD { x with bt := some k }) = true := by
  obtain ⟨h1, h2, h3⟩ := vw_parts h
  refine vw_view (x := { x with bt := some k }) h1 h2 ?_
  rw [hb] at h3
  unfold seenB at h3
  rw [show isN (nD none) = true from rfl, if_pos rfl] at h3
  simp only [Bool.and_eq_true] at h3
  obtain ⟨a1, a2, a3⟩ := h3
  show seenB x.bs.length (.int (k : Int)) (.tuple (anD x.an)) (nD x.aw) (nD x.up) = true
  have e : endsL (nD x.aw) (nD x.up) = [] := by unfold endsL; rw [a2, a3]; rfl
  unfold seenB
  rw [e, show isN (.int (k : Int)) = false from rfl, if_neg (by decide)]
  have hw : wholeB 0 1000000000 (.int (k : Int)) = true := by
    simp only [wholeB, Bool.and_eq_true, decide_eq_true_eq]
    omega
  rw [hw]
  cases hx : anD x.an with
  | nil => rfl
  | cons y r => rw [hx] at a1; simp [isT0] at a1
theorem Dk.hp0 {p c : Addr} {H : Hp} (d : Dk p c H) : H p ≠ none := by
  obtain ⟨m, t, cs, h1, h2, _⟩ := d
  rw [h1]; simp
theorem Dk.hc0 {p c : Addr} {H : Hp} (d : Dk p c H) : H c ≠ none := by
  obtain ⟨m, t, cs, h1, h2, _⟩ := d
  rw [h2]; simp
def wyS (n : Nat) : Str := match n with
  | 0 => Str.ofString "asked"
  | 1 => Str.ofString "heard"
  | _ => Str.ofString "upto"
def ocO (n : Nat) (x : Vw) (d : PyData) : Oc := match n with
  | 0 => askO x d
  | 1 => heardO x d
  | _ => uptoO x d
section
variable {P : Program} {w : World} {K : PySem.W.Frag} {mg : Str → Option Value} {base : Heap} {tn tw tb : Tok}
/-- what was found, in its slot -/
def LnI (H : Hp) (o : Option Vw) (σ : L2.St) (H' : Hp) : Prop := Same H H' ∧ ((o = none ∧ σ[10]? = some (some .non)) ∨ ∃ y a b n, o = some y ∧ σ[10]? = some (some (.ref a)) ∧ VwA H' a b n y)
def spLNv : Sp := fun vs H Q _ => ∃ p c a b n x v d, vs = [.ref a, v] ∧ Dk p c H ∧ VwA H a b n x ∧ x.ok 40 ∧ Dg p c H v d ∧ newsB d = true ∧ d ≠ .tuple [.str (wS 3)] ∧ NvP p c H Q (newsF x d)
theorem ok_lnv {f f1 : Addr} {fd fd1 : FuncData} (F : Fn K mg "_law_news" s__law_news ["_law_view", "_law_thing"] f fd) (B : Con mg tn tw tb) (F__law_is_view : Fn K mg "_law_is_view" s__law_is_view ["_law_thing"] f1 fd1) (G__law_is_view : FnOk P w K mg base CX0 4 f1 fd1 ["_law_thing"] spLView) :
    FnOk P w K mg base CX0 5 f fd ["_law_view", "_law_thing"] spLNv := by
  refine F.F.ok sc__law_news (fun vs H Q E h => ?_) (fun cdv A outer s H vs Q E hr h => ?_)
  · obtain ⟨p, c, a, b, n, x, v, d, rfl, _⟩ := h
    rfl
  · obtain ⟨p, c, a, b, n, x, v, d, rfl, dk, vw, ok, hd, hn, nw, q⟩ := h
    refine ⟨_, (pss_cons (ps_asg (pv 0) (pg_tup rfl (pgs_cons (pg_name (i := 2) sc__law_news.nd rfl (Or.inl rfl)) (pgs_cons (pg_name (i := 3) sc__law_news.nd rfl (Or.inl rfl)) (pgs_cons (pg_name (i := 4) sc__law_news.nd rfl (Or.inl rfl)) (pgs_cons (pg_name (i := 5) sc__law_news.nd rfl (Or.inl rfl)) (pgs_cons (pg_name (i := 6) sc__law_news.nd rfl (Or.inl rfl)) (pgs_cons (pg_name (i := 7) sc__law_news.nd rfl (Or.inl rfl)) (pgs_cons (pg_name (i := 8) sc__law_news.nd rfl (Or.inl rfl)) pgs_nil)))))))))
      (pss_cons (ps_if (pt_cmpR op_eq (pe_ix ix_tup (pv 1) pe_int (fun _ _ => rfl)) pe_str (nomark _))
      (pss_one (ps_ret (pe_ifExp (pt_cmpR op_notN (pv 3) pe_non (nomark _)) pe_non (pe_tup (pa_cons (pv 2) (pa_cons (pe_ix ix_tup (pv 1) pe_int (fun _ _ => rfl)) (pa_cons (pv 4) (pa_cons (pv 5) (pa_cons (pv 6) (pa_cons (pv 7) (pa_cons (pv 8) pa_nil)))))))))))
      pss_nil)
      (C8.pss_cut (ps_if (pt_cmpR op_eq (pe_ix ix_tup (pv 1) pe_int (fun _ _ => rfl)) pe_str (nomark _))
      (pss_cons (ps_set (i := 9) sc__law_news.nd rfl (.inl rfl) (pe_callTy call_tuple_of (by rfl) B.n_tuple (by decide +kernel) (pa_cons (pe_callB (cr_sortedSet rfl) (by rfl) B.n_sorted (by decide +kernel) (pa_cons (pe_callTy (cr_setI rfl) (by rfl) B.n_set (by decide +kernel) (pa_cons (pe_op op_cat (pe_callTy call_list_of (by rfl) B.n_list (by decide +kernel) (pa_cons (pv 5) pa_nil)) (pe_lst (pa_cons (pe_ix ix_tup (pv 1) pe_int (fun _ _ => rfl)) pa_nil))) pa_nil)) pa_nil)) pa_nil)))
        (pss_one (ps_set (i := 10) sc__law_news.nd rfl (.inl rfl) (pe_ifExp (pt_cmpR op_notIn_seq (pe_ix ix_tup (pv 1) pe_int (fun _ _ => rfl)) (pv 5) rfl) (pe_tup (pa_cons (pv 2) (pa_cons (pv 3) (pa_cons (pv 4) (pa_cons (pv 9) (pa_cons (pv 6) (pa_cons (pv 7) (pa_cons (pv 8) pa_nil)))))))) pe_non))))
      (pss_one (ps_set (i := 10) sc__law_news.nd rfl (.inl rfl) (pe_ifExp (pt_cmpR op_isN (pv 6) pe_non (nomark _)) (pe_tup (pa_cons (pv 2) (pa_cons (pv 3) (pa_cons (pv 4) (pa_cons (pv 5) (pa_cons (pe_ix ix_tup (pv 1) pe_int (fun _ _ => rfl)) (pa_cons (pv 7) (pa_cons (pv 8) pa_nil)))))))) pe_non))))
      (pss_one (ps_ret (pe_ifExp (PW.pt (pw_and (pt_cmpR op_notN (pv 10) pe_non (nomark _)) (pw_and1 (pt_val (pe_call G__law_is_view (hr.mono (by decide)) (by rfl) F__law_is_view.g F__law_is_view.F.kp F__law_is_view.b .nil pass0 (pa_cons (pv 10) pa_nil)))))) (pv 10) pe_non)))))), ?_⟩
    refine ⟨_, rfl, a, _, rfl, SqT.of vw.a, rfl, _, _, rfl, _, _, rfl, _, _, rfl, _, _, rfl, _, _, rfl, _, _, rfl, _, _, rfl, rfl, ?_⟩
    obtain ⟨wd, ds, rfl⟩ := news_shape hn
    cases hd with
    | @tup m xs _ hm hA =>
    cases hA with
    | cons h0 hA =>
    cases h0
    refine ⟨_, rfl, m, _, _, _, rfl, rfl, SqT.of hm.2.2, atI_nat (j := 0) rfl, rfl, _, rfl, ?_⟩
    have hn0 := hn
    by_cases h0 : wd = wS 0
    · subst h0
      match ds, hA, hn, hn0, nw, q with
      | [], _, hn, _, _, _ => exact absurd (of_decide_eq_true (show decide (wS 0 = wS 3) = true from hn)) (wS_ne 0 (by decide) 3 (by decide) (by decide))
      | [d1, d2], _, hn, _, _, _ =>
        simp only [newsB, Bool.and_eq_true, decide_eq_true_eq] at hn
        exact absurd hn.1 (wS_ne 0 (by decide) 1 (by decide) (by decide))
      | d1 :: d2 :: d3 :: r, _, hn, _, _, _ => cases hn
      | [d1], .cons h1 .nil, hn, hn0, nw, q =>
        simp only [newsB, Bool.and_eq_true] at hn
        obtain ⟨ed, _, e9⟩ := whole_nat (by decide) hn.2
        simp only [newsF, newsV] at q
        generalize asNat d1 = k at ed e9 q
        subst ed
        cases h1
        rw [if_pos trivial] at q
        refine sT rfl ⟨_, rfl, rfl, _, rfl, ?_⟩
        cases hb : x.bt with
        | none =>
          rw [hb, if_pos rfl] at q
          simp only [hello_view ok.v hb (show k ≤ 1000000000 by omega), if_pos] at q
          rw [show (!decide (nV none = V.non)) = false from rfl]
          refine iteF ⟨_, rfl, _, rfl, m, _, _, _, rfl, rfl, SqT.of hm.2.2, atI_nat (j := 1) rfl, _, rfl, _, rfl, _, rfl, _, rfl, _, rfl, sz (Nat.le_of_ble_eq_true rfl), fun a' ha' => ?_⟩
          have s2 := same_new (o := .tup [.str x.h, .int (k : Int), .ref b, .ref n, nV x.aw, nV x.up, .str (stS x.br)]) ha'
          exact q a' b n _ s2 ⟨upd_same, s2 _ _ vw.b, s2 _ _ vw.n⟩
        | some j =>
          rw [hb, if_neg (fun z => by cases z)] at q
          rw [show (!decide (nV (some j) = V.non)) = true from rfl]
          exact iteT (q H (Same.refl _))
    refine sF h0 ⟨LnI H (newsV x (.tuple (.str wd :: ds))), ?_, ?_⟩
    · match ds, hA, hn, nw with
      | [], _, hn, nw =>
        rw [show wd = wS 3 from of_decide_eq_true (show decide (wd = wS 3) = true from hn)] at nw
        exact absurd rfl nw
      | d1 :: d2 :: d3 :: r, _, hn, _ => cases hn
      | [d1], .cons h1 .nil, hn, _ =>
        simp only [newsB, Bool.and_eq_true, Bool.or_eq_true, decide_eq_true_eq] at hn
        have h2 : wd = wS 2 := hn.1.resolve_left h0
        subst h2
        obtain ⟨ed, _, e9⟩ := whole_nat (by decide) hn.2
        simp only [newsV]
        generalize asNat d1 = k at ed e9 ⊢
        subst ed
        cases h1
        rw [if_neg h0]
        refine ⟨_, rfl, m, _, _, _, rfl, rfl, SqT.of hm.2.2, atI_nat (j := 0) rfl, rfl, _, rfl, sF (wS_ne 2 (by decide) 1 (by decide) (by decide)) ⟨_, rfl, rfl, _, rfl, ?_⟩⟩
        cases hb : x.aw with
        | none =>
          rw [if_pos rfl, show decide (nV none = V.non) = true from rfl]
          refine iteT ⟨_, rfl, _, rfl, _, rfl, _, rfl, _, rfl, m, _, _, _, rfl, rfl, SqT.of hm.2.2, atI_nat (j := 1) rfl, _, rfl, _, rfl, sz (Nat.le_of_ble_eq_true rfl), fun a' ha' => ?_⟩
          have s2 := same_new (o := .tup [.str x.h, nV x.bt, .ref b, .ref n, .int (k : Int), nV x.up, .str (stS x.br)]) ha'
          exact ⟨s2, .inr ⟨_, a', b, n, rfl, rfl, upd_same, s2 _ _ vw.b, s2 _ _ vw.n⟩⟩
        | some j =>
          rw [show decide (nV (some j) = V.non) = false from rfl]
          exact iteF ⟨Same.refl _, .inl ⟨if_neg (fun z => by cases z), rfl⟩⟩
      | [d1, d2], .cons h1 _, hn, _ =>
        simp only [newsB, Bool.and_eq_true, decide_eq_true_eq] at hn
        obtain ⟨rfl, hk, _⟩ := hn
        obtain ⟨ed, _, e9⟩ := whole_nat (by decide) hk
        simp only [newsV]
        generalize asNat d1 = k at ed e9 ⊢
        subst ed
        cases h1
        have al : (anV x.an).length = x.an.length := by unfold anV; rw [List.length_map]
        have o2 := ok.n
        refine ⟨_, rfl, m, _, _, _, rfl, rfl, SqT.of hm.2.2, atI_nat (j := 0) rfl, rfl, _, rfl, sT rfl ⟨_, rfl, n, _, rfl, .inr (SqT.of vw.n), fun l1 hl1 => ?_⟩⟩
        have s1 := same_new (o := .lst (anV x.an)) hl1
        have e1 : upd H l1 (.lst (anV x.an)) l1 = some (.lst (anV x.an)) := upd_same
        generalize upd H l1 (.lst (anV x.an)) = H1 at s1 e1 ⊢
        refine ⟨_, rfl, m, _, _, _, rfl, rfl, SqT.of (s1 _ _ hm.2.2), atI_nat (j := 1) rfl, sz (Nat.le_of_ble_eq_true rfl), fun l2 hl2 => ?_⟩
        have s2 := s1.trans (same_new (o := .lst [.int (k : Int)]) hl2)
        have e2 : upd H1 l2 (.lst [.int (k : Int)]) l2 = some (.lst [.int (k : Int)]) := upd_same
        have e1 := same_new (o := .lst [.int (k : Int)]) hl2 _ _ e1
        generalize upd H1 l2 (.lst [.int (k : Int)]) = H2 at s2 e1 e2 ⊢
        refine ⟨l1, l2, _, _, rfl, rfl, e1, e2, sz (by rw [al, List.length_singleton]; omega), fun l3 hl3 => ?_⟩
        have eI : (anV x.an ++ [V.int (k : Int)]) = (x.an.map (fun j => ((j : Nat) : Int)) ++ [(k : Int)]).map V.int := by
          unfold anV
          rw [List.map_append, List.map_map]
          rfl
        have s3 := s2.trans (same_new (o := .lst (anV x.an ++ [V.int (k : Int)])) hl3)
        have e3 : upd H2 l3 (.lst (anV x.an ++ [V.int (k : Int)])) l3 = some (.lst ((x.an.map (fun j => ((j : Nat) : Int)) ++ [(k : Int)]).map V.int)) := by rw [upd_same, eI]
        generalize upd H2 l3 (.lst (anV x.an ++ [V.int (k : Int)])) = H3 at s3 e3 ⊢
        refine ⟨l3, _, rfl, .inl (SqL.of e3), by rw [List.length_append, List.length_map, List.length_singleton]; omega, fun st L hst nd hmem hll => ?_⟩
        refine ⟨st, _, _, rfl, upd_same, by rw [List.length_append, List.length_map, List.length_singleton] at hll; omega, fun ns' r hpw hm' hlen hr => ?_⟩
        have s4 := (s3.trans (same_new hst)).trans (same_new (o := .lst (ns'.map V.int)) hr)
        refine ⟨r, _, rfl, .inl ⟨SqL.of upd_same, fun n' hn' => ?_⟩⟩
        have s5 := s4.trans (same_new (o := .tup (ns'.map V.int)) hn')
        have e5 : ∀ X : Hp, upd X n' (HO.tup (ns'.map V.int)) n' = some (.tup (ns'.map V.int)) := fun X => upd_same
        refine ⟨_, rfl, m, _, _, _, rfl, rfl, SqT.of (s5 _ _ hm.2.2), atI_nat (j := 1) rfl, _, rfl, n, _, rfl, .inr (SqT.of (s5 _ _ vw.n)), rfl, flat_an _, _, rfl, ?_⟩
        rw [if_pos rfl, in_an]
        by_cases hmx : k ∈ x.an
        · rw [if_pos hmx, decide_eq_true hmx]
          exact iteF ⟨s5, .inl ⟨rfl, rfl⟩⟩
        · rw [if_neg hmx, decide_eq_false hmx]
          have es : ns' = (insA k x.an).map fun j => ((j : Nat) : Int) := asc_uniq hpw (asc_int (insA_asc (an_asc ok.v) hmx)) fun z => by
            rw [hm' z, decide_eq_true_eq, List.mem_append, List.mem_map, List.mem_map, List.mem_singleton]
            constructor
            · rintro (⟨j, hj, rfl⟩ | rfl)
              · exact ⟨j, insA_mem.mpr (.inr hj), rfl⟩
              · exact ⟨k, insA_mem.mpr (.inl rfl), rfl⟩
            · rintro ⟨j, hj, rfl⟩
              rcases insA_mem.mp hj with rfl | hj
              · exact .inr rfl
              · exact .inl ⟨j, hj, rfl⟩
          subst es
          refine iteT ⟨_, rfl, _, rfl, _, rfl, _, rfl, _, rfl, _, rfl, _, rfl, sz (Nat.le_of_ble_eq_true rfl), fun a' ha' => ?_⟩
          have s6 := same_new (o := .tup [.str x.h, nV x.bt, .ref b, .ref n', nV x.aw, nV x.up, .str (stS x.br)]) ha'
          refine ⟨s5.trans s6, .inr ⟨_, a', b, n', rfl, rfl, upd_same, s6 _ _ (s5 _ _ vw.b), s6 _ _ ((e5 _).trans ?_)⟩⟩
          show some (HO.tup _) = some (HO.tup (anV (insA k x.an)))
          unfold anV
          rw [List.map_map]
          rfl
    · rintro σ H1 ⟨s1, h⟩
      unfold newsF at q
      rcases h with ⟨e, e10⟩ | ⟨y, a', b', n', e, e10, vw'⟩
      · rw [e] at q
        exact ⟨_, e10, rfl, _, rfl, iteF (q H1 s1)⟩
      · rw [e] at q
        have ft := newsV_fit ok hn0 e
        refine ⟨_, e10, rfl, _, rfl, iteT ⟨_, e10, p, c, _, _, false, _, _, rfl, vw'.dg (dk.same s1), ft.gd false, fun H2 s2 => ⟨_, rfl, ?_⟩⟩⟩
        cases hv : viewB (vwD y) with
        | true =>
          simp only [hv, if_pos] at q
          exact iteT ⟨_, e10, q a' b' n' H2 (s1.trans s2) (vw'.to (.of s2))⟩
        | false =>
          simp only [hv] at q
          exact iteF (q H2 (s1.trans s2))
def spLDu : Sp := fun vs H Q _ => ∃ p c a b n x v d i, vs = [.ref a, .str (wyS i), v] ∧ i ≤ 2 ∧ Dk p c H ∧ VwA H a b n x ∧ x.ok 40 ∧ Dg p c H v d ∧ ThG d ∧ ∀ t H', Same H H' → OcA p c H' t (ocO i x d) → Q (.ref t) H'
theorem oc_new {p c t : Addr} {H : Hp} {k : Nat} {v : V} {d : PyData} (ht : H t = none) (hd : Dg p c H v d) : OcA p c (upd H t (.tup [.str (nm5 k), v])) t (.bad k d) := ⟨v, upd_same, hd.to (.same (same_new ht))⟩
theorem oc_ret {p c t a b n : Addr} {H : Hp} {y : Vw} (ht : H t = none) (vw : VwA H a b n y) : OcA p c (upd H t (.tup [.str retS, .ref a])) t (.ret y) := ⟨a, b, n, upd_same, vw.to (.of (same_new ht))⟩
theorem ok_ldu {f f1 f2 f3 f4 f5 : Addr} {fd fd1 fd2 fd3 fd4 fd5 : FuncData} (F : Fn K mg "_law_due" s__law_due ["_law_view", "_law_way", "_law_thing"] f fd) (B : Con mg tn tw tb) (F__law_is_view : Fn K mg "_law_is_view" s__law_is_view ["_law_thing"] f1 fd1) (G__law_is_view : FnOk P w K mg base CX0 4 f1 fd1 ["_law_thing"] spLView)
    (F__law_is_body : Fn K mg "_law_is_body" s__law_is_body ["_law_thing"] f2 fd2) (F__law_is_news : Fn K mg "_law_is_news" s__law_is_news ["_law_thing"] f3 fd3) (G__law_is_news : FnOk P w K mg base CX0 2 f3 fd3 ["_law_thing"] spLNews)
    (F__law_news : Fn K mg "_law_news" s__law_news ["_law_view", "_law_thing"] f4 fd4) (G__law_news : FnOk P w K mg base CX0 5 f4 fd4 ["_law_view", "_law_thing"] spLNv) (F__law_is_whole : Fn K mg "_law_is_whole" s__law_is_whole ["_law_thing", "_law_low", "_law_high"] f5 fd5) :
    FnOk P w K mg base CX0 6 f fd ["_law_view", "_law_way", "_law_thing"] spLDu := by
  have G__law_is_whole : FnOk P w K mg base CX0 1 f5 fd5 ["_law_thing", "_law_low", "_law_high"] spWhole := ok_whole F__law_is_whole B
  have G__law_is_body : FnOk P w K mg base CX0 1 f2 fd2 ["_law_thing"] spLBody := ok_lbody F__law_is_body B
  refine F.F.ok sc__law_due (fun vs H Q E h => ?_) (fun cdv A outer s H vs Q E hr h => ?_)
  · obtain ⟨p, c, a, b, n, x, v, d, i, rfl, _⟩ := h
    rfl
  · obtain ⟨p, c, a, b, n, x, v, d, i, rfl, hi, dk, vw, ok, hd, th, q⟩ := h
    have th0 := th
    obtain ⟨gq, hg, hgq⟩ := th
    refine ⟨_, (pss_cons (ps_asg (pv 0) (pg_tup rfl (pgs_cons (pg_name (i := 3) sc__law_due.nd rfl (Or.inl rfl)) (pgs_cons (pg_name (i := 4) sc__law_due.nd rfl (Or.inl rfl)) (pgs_cons (pg_name (i := 5) sc__law_due.nd rfl (Or.inl rfl)) (pgs_cons (pg_name (i := 6) sc__law_due.nd rfl (Or.inl rfl)) (pgs_cons (pg_name (i := 7) sc__law_due.nd rfl (Or.inl rfl)) (pgs_cons (pg_name (i := 8) sc__law_due.nd rfl (Or.inl rfl)) (pgs_cons (pg_name (i := 9) sc__law_due.nd rfl (Or.inl rfl)) pgs_nil)))))))))
      (pss_cons (ps_if (pt_cmpR op_eq (pv 1) pe_str (nomark _))
      (pss_cons (ps_if (pt_not (pt_val (pe_call G__law_is_body (hr.mono (by decide)) (by rfl) F__law_is_body.g F__law_is_body.F.kp F__law_is_body.b .nil pass0 (pa_cons (pv 2) pa_nil))))
        (pss_one (ps_ret (pe_tup (pa_cons pe_str (pa_cons (pv 2) pa_nil)))))
        pss_nil)
        (pss_cons (ps_set (i := 10) sc__law_due.nd rfl (.inl rfl) (pe_tup (pa_cons (pv 3) (pa_cons (pv 4) (pa_cons (pe_op op_catA (pv 5) (pe_tup (pa_cons (pv 2) pa_nil))) (pa_cons (pv 6) (pa_cons (pv 7) (pa_cons (pv 8) (pa_cons (pv 9) pa_nil)))))))))
        (pss_one (ps_ret (pe_ifExp (pt_cmpR op_eq (pv 9) pe_str (nomark _)) (pe_tup (pa_cons pe_str (pa_cons (pv 3) pa_nil))) (pe_tup (pa_cons pe_str (pa_cons (pv 10) pa_nil))))))))
      pss_nil)
      (pss_cons (ps_if (pt_cmpR op_eq (pv 1) pe_str (nomark _))
      (pss_cons (ps_if (pt_not (pt_val (pe_call G__law_is_news (hr.mono (by decide)) (by rfl) F__law_is_news.g F__law_is_news.F.kp F__law_is_news.b .nil pass0 (pa_cons (pv 2) pa_nil))))
        (pss_one (ps_ret (pe_tup (pa_cons pe_str (pa_cons (pv 2) pa_nil)))))
        pss_nil)
        (pss_cons (ps_if (pt_cmpR op_eq (pv 9) pe_str (nomark _))
        (pss_one (ps_ret (pe_tup (pa_cons pe_str (pa_cons (pv 3) pa_nil)))))
        pss_nil)
        (pss_cons (ps_set (i := 10) sc__law_due.nd rfl (.inl rfl) (pe_ifExp (pt_cmpR (op_eqG (h64u hr)) (pv 2) (pe_tup (pa_cons pe_str pa_nil)) (nomark _)) (pv 0) (pe_call G__law_news (hr.mono (by decide)) (by rfl) F__law_news.g F__law_news.F.kp F__law_news.b .nil pass0 (pa_cons (pv 0) (pa_cons (pv 2) pa_nil)))))
        (pss_one (ps_ret (pe_ifExp (pt_cmpR op_isN (pv 10) pe_non (nomark _)) (pe_tup (pa_cons pe_str (pa_cons (pv 2) pa_nil))) (pe_tup (pa_cons pe_str (pa_cons (pv 10) pa_nil)))))))))
      pss_nil)
      (pss_cons (ps_if (pt_not (pt_val (pe_call G__law_is_whole (hr.mono (by decide)) (by rfl) F__law_is_whole.g F__law_is_whole.F.kp F__law_is_whole.b .nil pass0 (pa_cons (pv 2) (pa_cons pe_int (pa_cons (pe_op op_pow pe_int pe_int) pa_nil))))))
      (pss_one (ps_ret (pe_tup (pa_cons pe_str (pa_cons (pv 2) pa_nil)))))
      pss_nil)
      (pss_cons (ps_set (i := 10) sc__law_due.nd rfl (.inl rfl) (pe_tup (pa_cons (pv 3) (pa_cons (pv 4) (pa_cons (pv 5) (pa_cons (pv 6) (pa_cons (pv 7) (pa_cons (pv 2) (pa_cons (pv 9) pa_nil)))))))))
      (pss_one (ps_ret (pe_ifExp (PW.pt (pw_or (pt_cmpR op_notN (pv 8) pe_non (nomark _)) (pw_or1 (pt_not (pt_val (pe_call G__law_is_view (hr.mono (by decide)) (by rfl) F__law_is_view.g F__law_is_view.F.kp F__law_is_view.b .nil pass0 (pa_cons (pv 10) pa_nil))))))) (pe_tup (pa_cons pe_str (pa_cons (pv 2) pa_nil))) (pe_tup (pa_cons pe_str (pa_cons (pv 10) pa_nil))))))))))), ?_⟩
    refine ⟨_, rfl, a, _, rfl, SqT.of vw.a, rfl, _, _, rfl, _, _, rfl, _, _, rfl, _, _, rfl, _, _, rfl, _, _, rfl, _, _, rfl, rfl, ?_⟩
    refine ⟨_, rfl, rfl, _, rfl, ?_⟩
    match i, hi with
    | 0, _ =>
      refine sT rfl ⟨_, rfl, p, c, v, d, gq, _, _, rfl, hd, hg, fun H1 s1 => ⟨_, rfl, ?_⟩⟩
      have q : ∀ t H', Same H H' → OcA p c H' t (askO x d) → Q (.ref t) H' := q
      have vw := vw.to (.of s1)
      have hd := hd.to (.same s1)
      unfold askO at q
      cases hb : bodyB d with
      | false =>
        rw [hb] at q
        exact iteT ⟨_, rfl, sz (Nat.le_of_ble_eq_true rfl), fun t ht => q t _ (s1.trans (same_new ht)) (oc_new (k := 0) ht hd)⟩
      | true =>
        rw [hb, if_pos rfl] at q
        cases hd with
        | str z =>
          refine iteF ⟨_, rfl, _, rfl, _, rfl, _, rfl, sz (Nat.le_of_ble_eq_true rfl), fun u hu => ?_⟩
          have s2 := same_new (o := .tup [.str z]) hu
          have vw := vw.to (.of s2)
          have eu : upd H1 u (.tup [.str z]) u = some (.tup [.str z]) := upd_same
          have s2 := s1.trans s2
          generalize upd H1 u (.tup [.str z]) = H2 at s2 vw eu ⊢
          refine cat_t vw.b eu ?_ fun b' H3 s3 hb' => ?_
          · have := ok.l
            unfold bsV
            rw [List.length_map, List.length_singleton]
            omega
          have vw := vw.to (.of s3)
          have s3 := s2.trans s3
          refine ⟨_, rfl, _, rfl, _, rfl, _, rfl, sz (Nat.le_of_ble_eq_true rfl), fun a' ha' => ?_⟩
          have s4 := same_new (o := .tup [.str x.h, nV x.bt, .ref b', .ref n, nV x.aw, nV x.up, .str (stS x.br)]) ha'
          have vw' : VwA (upd H3 a' (.tup [.str x.h, nV x.bt, .ref b', .ref n, nV x.aw, nV x.up, .str (stS x.br)])) a' b' n (x.ask z) := ⟨upd_same, s4 _ _ (hb'.trans (by show some (HO.tup _) = some (HO.tup (bsV (x.bs ++ [z]))); unfold bsV; rw [List.map_append]; rfl)), s4 _ _ vw.n⟩
          have s4 := s3.trans s4
          generalize upd H3 a' (.tup [.str x.h, nV x.bt, .ref b', .ref n, nV x.aw, nV x.up, .str (stS x.br)]) = H4 at s4 vw' ⊢
          refine ⟨_, rfl, rfl, _, rfl, ?_⟩
          cases hbr : x.br with
          | true =>
            rw [hbr, if_pos rfl] at q
            exact iteT ⟨_, rfl, sz (Nat.le_of_ble_eq_true rfl), fun t ht => q t _ (s4.trans (same_new ht)) (oc_new (k := 4) ht (.str _))⟩
          | false =>
            rw [hbr, if_neg (by decide)] at q
            rw [show decide (V.str (stS false) = V.str (Str.ofString "broken")) = false from decide_eq_false (by decide +kernel)]
            exact iteF ⟨_, rfl, sz (Nat.le_of_ble_eq_true rfl), fun t ht => q t _ (s4.trans (same_new ht)) (oc_ret ht vw')⟩
        | _ => cases hb
    | 1, _ =>
      refine sF (by decide +kernel) ⟨_, rfl, rfl, _, rfl, sT rfl ⟨_, rfl, p, c, v, d, rfl, dk.hp0, dk.hc0, hd, th0, fun H1 s1 => ⟨_, rfl, ?_⟩⟩⟩
      have q : ∀ t H', Same H H' → OcA p c H' t (heardO x d) → Q (.ref t) H' := q
      have vw := vw.to (.of s1)
      have hd := hd.to (.same s1)
      have dk := dk.same s1
      rw [heardO_eq] at q
      cases hn : newsB d with
      | false =>
        rw [hn] at q
        exact iteT ⟨_, rfl, sz (Nat.le_of_ble_eq_true rfl), fun t ht => q t _ (s1.trans (same_new ht)) (oc_new (k := 1) ht hd)⟩
      | true =>
      rw [hn, if_pos rfl] at q
      refine iteF ⟨_, rfl, rfl, _, rfl, ?_⟩
      cases hbr : x.br with
      | true =>
        rw [hbr, if_pos rfl] at q
        exact iteT ⟨_, rfl, sz (Nat.le_of_ble_eq_true rfl), fun t ht => q t _ (s1.trans (same_new ht)) (oc_new (k := 4) ht (.str _))⟩
      | false =>
      rw [hbr, if_neg (by decide)] at q
      rw [show decide (V.str (stS false) = V.str (Str.ofString "broken")) = false from decide_eq_false (by decide +kernel)]
      obtain ⟨wd, ds, rfl⟩ := news_shape hn
      have hq := hgq rfl
      subst hq
      refine iteF ⟨_, rfl, sz (Nat.le_of_ble_eq_true rfl), fun u hu => ?_⟩
      have s2 := same_new (o := .tup [.str (Str.ofString "well")]) hu
      refine ⟨p, c, .tuple (.str wd :: ds), .tuple [.str (wS 3)], hd.to (.same s2), .tup (at_new0 dk.hp0 dk.hc0 hu) (.cons (.str _) .nil), hg.shaped (by decide), by decide +kernel, _, rfl, ?_⟩
      have s12 := s1.trans s2
      have vw := vw.to (.of s2)
      have dk := dk.same s2
      have hd := hd.to (.same s2)
      generalize upd H1 u (.tup [.str (Str.ofString "well")]) = H2 at s12 vw dk hd ⊢
      by_cases hw : (PyData.tuple (.str wd :: ds)) = .tuple [.str (wS 3)]
      · rw [hw, show PyData.eqv (.tuple [.str (wS 3)]) (.tuple [.str (wS 3)]) = true by decide +kernel]
        refine iteT ⟨_, rfl, _, rfl, rfl, _, rfl, iteF ⟨_, rfl, sz (Nat.le_of_ble_eq_true rfl), fun t ht => ?_⟩⟩
        rw [show newsF x (.tuple (.str wd :: ds)) = some x by rw [hw]; unfold newsF; simp only [newsV]; rw [if_pos ok.v]] at q
        exact q t _ (s12.trans (same_new ht)) (oc_ret ht vw)
      · have ne : PyData.eqv (.tuple (.str wd :: ds)) (.tuple [.str (wS 3)]) = false := by
          cases he : PyData.eqv (.tuple (.str wd :: ds)) (.tuple [.str (wS 3)]) with
          | false => rfl
          | true =>
            match ds, he with
            | [], he =>
              simp only [PyData.eqv, PyData.eqvAll, Bool.and_true] at he
              rw [beq_iff_eq] at he
              rw [he] at hw
              exact absurd rfl hw
            | d :: r, he => simp [PyData.eqv, PyData.eqvAll] at he
        rw [ne]
        refine iteF ⟨_, rfl, _, rfl, p, c, a, b, n, x, _, _, rfl, dk, vw, ok, hd, hn, hw, ?_⟩
        cases hf : newsF x (.tuple (.str wd :: ds)) with
        | none =>
          rw [hf] at q
          exact fun H3 s3 => ⟨_, rfl, rfl, _, rfl, iteT ⟨_, rfl, sz (Nat.le_of_ble_eq_true rfl), fun t ht => q t _ ((s12.trans s3).trans (same_new ht)) (oc_new (k := 2) ht (hd.to (.same s3)))⟩⟩
        | some y =>
          rw [hf] at q
          exact fun a' b' n' H3 s3 vw' => ⟨_, rfl, rfl, _, rfl, iteF ⟨_, rfl, sz (Nat.le_of_ble_eq_true rfl), fun t ht => q t _ ((s12.trans s3).trans (same_new ht)) (oc_ret ht vw')⟩⟩
    | 2, _ =>
      refine sF (by decide +kernel) ⟨_, rfl, rfl, _, rfl, sF (by decide +kernel) ⟨_, rfl, _, _, rfl, rfl, ⟨by decide, by decide, by decide⟩, p, c, v, d, 0, _, rfl, hd, _, rfl, ?_⟩⟩
      have q : ∀ t H', Same H H' → OcA p c H' t (uptoO x d) → Q (.ref t) H' := q
      rw [show (10 : Int) ^ (9 : Int).toNat = 1000000000 by decide +kernel]
      unfold uptoO at q
      cases hb : wholeB 0 1000000000 d with
      | false =>
        rw [hb] at q
        exact iteT ⟨_, rfl, sz (Nat.le_of_ble_eq_true rfl), fun t ht => q t _ (same_new ht) (oc_new (k := 3) ht hd)⟩
      | true =>
      rw [hb, if_pos rfl] at q
      obtain ⟨ed, _, e9⟩ := whole_nat (by decide) hb
      generalize asNat d = k at ed e9 q
      subst ed
      cases hd
      refine iteF ⟨_, rfl, _, rfl, _, rfl, _, rfl, _, rfl, _, rfl, _, rfl, sz (Nat.le_of_ble_eq_true rfl), fun a' ha' => ?_⟩
      have s2 := same_new (o := .tup [.str x.h, nV x.bt, .ref b, .ref n, nV x.aw, .int (k : Int), .str (stS x.br)]) ha'
      have vw' : VwA (upd H a' (.tup [.str x.h, nV x.bt, .ref b, .ref n, nV x.aw, .int (k : Int), .str (stS x.br)])) a' b n (x.told k) := ⟨upd_same, s2 _ _ vw.b, s2 _ _ vw.n⟩
      generalize upd H a' (.tup [.str x.h, nV x.bt, .ref b, .ref n, nV x.aw, .int (k : Int), .str (stS x.br)]) = H2 at s2 vw' ⊢
      have ft := told_fit ok (show k ≤ 1000000000 by omega)
      refine ⟨_, rfl, rfl, _, rfl, ?_⟩
      cases hu : x.up with
      | some j =>
        rw [hu, if_neg (fun z => by cases z.1)] at q
        rw [show (!decide (nV (some j) = V.non)) = true from rfl]
        exact iteT (iteT ⟨_, rfl, sz (Nat.le_of_ble_eq_true rfl), fun t ht => q t _ (s2.trans (same_new ht)) (oc_new (k := 2) ht (.int _))⟩)
      | none =>
        rw [show (!decide (nV none = V.non)) = false from rfl]
        refine iteF ⟨_, rfl, p, c, _, _, false, _, _, rfl, vw'.dg (dk.same s2), ft.gd false, fun H3 s3 => ⟨_, rfl, ?_⟩⟩
        cases hv : viewB (vwD (x.told k)) with
        | false =>
          rw [hv, if_neg (fun z => by cases z.2)] at q
          exact iteT ⟨_, rfl, sz (Nat.le_of_ble_eq_true rfl), fun t ht => q t _ ((s2.trans s3).trans (same_new ht)) (oc_new (k := 2) ht (.int _))⟩
        | true =>
          rw [hv, if_pos ⟨hu, rfl⟩] at q
          exact iteF ⟨_, rfl, sz (Nat.le_of_ble_eq_true rfl), fun t ht => q t _ ((s2.trans s3).trans (same_new ht)) (oc_ret ht (vw'.to (.of s3)))⟩
end
end Ag

end
/-! ## RevT -/
section
set_option linter.all false
set_option maxRecDepth 100000
namespace Ag
open PySem PySem.Spec PyProof.Rows L2
/-! ### t[::-1] of a tuple -/
section
variable {P : Program} {w : World} {A : Around} {E : Value → Shared → Prop} {s : Shared}
theorem adj_rev (n : Nat) : Builtin.Slice.sliceAdjust none none (-1) (n : Int) = ((n : Int) - 1, -1) := by
  unfold Builtin.Slice.sliceAdjust
  simp
theorem plc_rev (n : Nat) : Builtin.Slice.slicePlaces ((n : Int) - 1) (-1) (-1) = n := by
  unfold Builtin.Slice.slicePlaces
  simp
  split <;> omega
theorem app_rev {z : Addr} {t : Tok} {n : Nat} {Q : Int × Int × Nat → Shared → Prop} (hs : s.heap.IsSliceOf z .none .none (.int (-1) t)) (h : Q ((n : Int) - 1, -1, n) s) : wpAny (model P w) A (Builtin.Slice.sliceApplied (.ref z) (pure (n : Int))) Q E s := by
  obtain ⟨os, h1, h2, h3⟩ := id hs
  unfold Builtin.Slice.sliceApplied Builtin.Slice.sliceFields
  refine wpAny_bind (wpAny_bind (wpAny_field h1 h3 (x := .none) rfl (wpAny_bind (wpAny_field h1 h3 (x := .none) rfl (wpAny_bind (wpAny_field h1 h3 (x := .int (-1) t) rfl (wpAny_pure ?_)))))))
  refine wpAny_bind (HT.slicePart_ (.int (-1) t) ?_)
  refine show wpAny _ _ (if ((-1 : Int) == 0) = true then _ else _) _ _ s from ?_
  rw [if_neg (by decide)]
  refine wpAny_bind (HT.slicePart_ .none (wpAny_bind (HT.slicePart_ .none (wpAny_bind (wpAny_pure ?_)))))
  refine show wpAny _ _ (match Builtin.Slice.sliceAdjust none none (-1) (n : Int) with | (lo, hi) => pure (lo, (-1 : Int), Builtin.Slice.slicePlaces lo hi (-1))) _ _ s from ?_
  rw [adj_rev n]
  refine show wpAny _ _ (pure ((n : Int) - 1, (-1 : Int), Builtin.Slice.slicePlaces ((n : Int) - 1) (-1) (-1))) _ _ s from ?_
  rw [plc_rev]
  exact wpAny_pure h
theorem pick_rev (xs : Array Value) : ((List.range xs.size).filterMap fun (m : Nat) => xs[((xs.size : Int) - 1 + (m : Int) * -1).toNat]?).toArray = xs.toList.reverse.toArray := by
  congr 1
  have e : ((List.range xs.size).filterMap fun (m : Nat) => xs[((xs.size : Int) - 1 + (m : Int) * -1).toNat]?) = (List.range xs.size).filterMap ((xs[·]?) ∘ fun k => xs.size - 1 - k) := by
    have key : ∀ l : List Nat, (∀ m ∈ l, m < xs.size) → (l.filterMap fun (m : Nat) => xs[((xs.size : Int) - 1 + (m : Int) * -1).toNat]?) = l.filterMap ((xs[·]?) ∘ fun k => xs.size - 1 - k) := by
      intro l
      induction l with
      | nil => exact fun _ => rfl
      | cons m l ih =>
        intro h
        have hm := h m List.mem_cons_self
        have e1 : ((xs.size : Int) - 1 + (m : Int) * -1).toNat = xs.size - 1 - m := by omega
        rw [List.filterMap_cons, List.filterMap_cons, ih fun k hk => h k (List.mem_cons_of_mem _ hk), e1]
        rfl
    exact key _ fun m hm => List.mem_range.mp hm
  rw [e, ← List.filterMap_map, PySem.W.krv_range, List.filterMap_reverse, PySem.W.krv_all]
theorem get_rev {t z : Addr} {its : Array Value} {k : Tok} {Q : Value → Shared → Prop} (ht : IsTup s.heap t its) (hs : s.heap.IsSliceOf z .none .none (.int (-1) k)) (hz : its.size ≤ sizeLine)
    (fin : Q (.ref s.heap.objs.size) { s with heap := s.heap.push { cls := .type "tuple", data := .seq its.toList.reverse.toArray } }) : wpAny (model P w) A (getItem (.ref t) (.ref z)) Q E s := by
  have hsz : sizeOk (.seq its.toList.reverse.toArray) := by
    show its.toList.reverse.toArray.size ≤ sizeLine
    rw [List.size_toArray, List.length_reverse, Array.length_toList]
    exact hz
  obtain ⟨os, h1, h2, h3⟩ := id hs
  have hT : s.TypeIs (.ref z) "slice" := ⟨os, h1, h2⟩
  unfold getItem
  try with_reducible refine wpAny_holding ?_
  first
    | refine wpAny_bind (wpAny_pure (wpAny_bind (wpAny_sequenceKey ht.typeIs (by decide) ?_)))
    | refine wpAny_bind (wpAny_sequenceKey (T := "tuple") ht.typeIs (by decide) ?_)
  refine wpAny_bind (wpAny_callSpecial?_slot (name := Str.ofString "__getitem__") ht.typeIs PyProof.Rows.slot_tuple_getitem (wpAny_call_entry PyProof.Rows.slot_tuple_getitem ht.typeIs entry_tuple_getitem ?_ (args_tuple_getitem _ _)))
  refine show wpAny _ _ (Builtin.Tuple.tupleItemsOf (.ref t) >>= _) _ _ s from wpAny_bind (tupleItemsOf_ ht (wpAny_bind (wpAny_typeOf hT ?_)))
  rw [if_pos (by decide)]
  refine wpAny_bind (app_rev hs ?_)
  have hno : ¬ ((((its.size : Int) - 1 == 0) && ((-1 : Int) == 1) && (its.size == its.size)) = true) := by simp
  refine show wpAny _ _ (if (((its.size : Int) - 1 == 0) && ((-1 : Int) == 1) && (its.size == its.size)) = true then _ else _) _ _ s from ?_
  rw [if_neg hno, pick_rev]
  first
    | exact wpAny_bind (m := Builtin.Tuple.tupleExact _) (wpAny_newObj_type (wpAny_pure ⟨_, rfl, wpAny_pure fin⟩) hsz)
    | exact wpAny_bind (m := Builtin.Tuple.tupleExact _) (wpAny_newObj_type (wpAny_bind (wpAny_pure (wpAny_pure ⟨_, rfl, wpAny_pure fin⟩))) hsz)
    | exact wpAny_bind (wpAny_bind (m := Builtin.Tuple.tupleExact _) (wpAny_newObj_type (wpAny_pure (wpAny_pure ⟨_, rfl, wpAny_pure fin⟩)) hsz))
    | exact wpAny_bind (wpAny_bind (m := Builtin.Tuple.tupleExact _) (wpAny_newObj_type (wpAny_pure ⟨_, rfl, wpAny_pure fin⟩) hsz))
end
section
variable {X : Cx}
def tRevT (K : PySem.W.Frag) (te : TE) : TE := fun σ H Q => te σ H fun x H1 => ∃ a xs, x = .ref a ∧ SqT K H1 a xs ∧ ∀ p, H1 p = none → Q (.ref p) (upd H1 p (.tup xs.reverse))
theorem pe_revT {e : Expr} {te : TE} {k : Nat} {p1 p2 p3 pos : Pos} (he : PE X e te) : PE X (.Subscript e (.Slice none none (some (.UnaryOp .USub (.Constant (.int 1) k p1) p2)) p3) pos) (tRevT X.K te) := by
  refine ⟨fun pins s σ H Q I h => Subscript_ (thn (he.run pins s σ H _ I h) ?_)⟩
  rintro v s1 ⟨x, H1, I1, r1, a, xs, rfl, hx, q⟩
  cases r1
  have neg : PO X (some (.UnaryOp .USub (.Constant (.int 1) k p1) p2)) (tPart (tUn (rU fun i => .int (-i)) (tC (.int 1)))) := po_some (pe_un un_neg pe_int)
  refine wpAny_Slice (thn (po_none.run pins s1 σ H1 (fun o H2 => o = none ∧ H2 = H1) I1 ⟨rfl, rfl⟩) ?_)
  rintro vl s2 ⟨l, H2, I2, pl, rfl, rfl⟩
  refine thn (po_none.run pins s2 σ H2 (fun o H3 => o = none ∧ H3 = H2) I2 ⟨rfl, rfl⟩) ?_
  rintro vu s3 ⟨u, H3, I3, pu, rfl, rfl⟩
  refine thn (neg.run pins s3 σ H3 (fun o H4 => o = some (-1) ∧ H4 = H3) I3 ⟨1, rfl, -1, rfl, rfl, rfl⟩) ?_
  rintro vs s4 ⟨o, H4, I4, ps, rfl, rfl⟩
  cases pl
  cases pu
  cases ps with
  | int i t =>
    have I5 : Inv X pins σ H4 { s4 with heap := s4.heap.push { cls := .type "slice", data := .fields #[.none, .none, .int (-1) t] } } := I4.kept (t' := s4.toks) fun b ob q => Heap.get?_push_of_some _ q
    obtain ⟨its, r, ht, hz⟩ := I5.tuple hx
    have hl := r.length
    refine show wpAny (model X.prog X.w) X.A (subscriptTail e (.Slice none none (some (.UnaryOp .USub (.Constant (.int 1) k p1) p2)) p3) (.ref a) (.ref s4.heap.objs.size)) (EP X pins σ Q) X.xe { s4 with heap := s4.heap.push { cls := .type "slice", data := .fields #[.none, .none, .int (-1) t] } } from ?_
    refine tail_any (ops := [.ref a, .ref s4.heap.objs.size]) ht.typeIs (PyProof.Rows.slot_tuple_getitem.lookup) (get_rev ht (Heap.IsSliceOf.new _ .none .none (.int (-1) t)) (by rw [List.size_toArray]; omega) ?_) (by with_unfolding_all rfl)
    refine ⟨.ref _, _, I5.laid (t' := s4.toks) (o := .tup xs.reverse) (fun b ob q => Heap.get?_push_of_some _ q) (Nat.le_refl _) ⟨by rw [List.length_reverse]; exact hz, its.reverse, r.reverse, ?_⟩, rfl, q _ (I5.hok.fresh (Nat.le_refl _))⟩
    exact ⟨_, Heap.get?_push_size _ rfl, rfl, 0, by simp⟩
end
end Ag

end
/-! ## MG12 -/
section
set_option linter.all false
set_option maxRecDepth 100000
namespace Ag
open PySem PySem.Spec PyProof.Rows L2
open SX (S S_len S_cat S_inj)
theorem has_same {p : Addr} {H H' : Hp} (s : Same H H') (h : H p ≠ none) : H' p ≠ none := by
  cases e : H p with
  | none => exact absurd e h
  | some o => rw [s p o e]; simp
theorem at_new {p c a : Addr} {H : Hp} {o : HO} (hp : H p ≠ none) (hc : H c ≠ none) (h : H a = none) : At p c (upd H a o) a o := ⟨fun e => hp (e ▸ h), fun e => hc (e ▸ h), upd_same⟩
theorem At.sm {p c a : Addr} {H H' : Hp} {o : HO} (h : At p c H a o) (s : Same H H') : At p c H' a o := ⟨h.1, h.2.1, s _ _ h.2.2⟩
section
variable {p c : Addr} {H : Hp} {K : PySem.W.Frag} {Q : VK} {a b : Addr} {xs ys : List V} {lo hi : Option Int}
theorem sl_g (hp : H p ≠ none) (hc : H c ≠ none) (ha : At p c H a (.tup xs)) (k : ∀ a' H', Same H H' → At p c H' a' (.tup (cutV xs lo hi)) → Q (.ref a') H') : rSlA K (.ref a) lo hi H Q := by
  refine ⟨a, xs, rfl, SqT.of ha.2.2, fun h => k a H (Same.refl _) ?_, fun _ q hq => k q _ (same_new hq) (at_new hp hc hq)⟩
  have e : cutV xs lo hi = xs := by
    unfold cutV
    rw [h.1, h.2]
    simp
  rw [e]
  exact ha
theorem cat_g (hp : H p ≠ none) (hc : H c ≠ none) (ha : At p c H a (.tup xs)) (hb : At p c H b (.tup ys)) (hz : xs.length + ys.length ≤ 1000000) (k : ∀ a' H', Same H H' → At p c H' a' (.tup (xs ++ ys)) → Q (.ref a') H') : rCatA K (.ref a) (.ref b) H Q := by
  refine ⟨a, b, xs, ys, rfl, rfl, SqT.of ha.2.2, SqT.of hb.2.2, sz (by omega), fun h => ?_, fun _ h => ?_, fun _ _ q hq => k q _ (same_new hq) (at_new hp hc hq)⟩
  · subst h
    exact k b H (Same.refl _) hb
  · subst h
    rw [List.append_nil] at k
    exact k a H (Same.refl _) ha
end
theorem cutV_up (xs : List V) (b : Nat) : cutV xs none (some (b : Int)) = xs.take b := by
  unfold cutV
  rw [HT.sIx_none, HT.sIx_nat, List.drop_zero, Nat.sub_zero]
  by_cases hb : b ≤ xs.length
  · rw [Nat.min_eq_left hb]
  · rw [Nat.min_eq_right (by omega), List.take_of_length_le (Nat.le_refl _), List.take_of_length_le (by omega)]
theorem cutV_off (xs : List V) (a : Nat) : cutV xs (some (a : Int)) none = xs.drop a := by
  unfold cutV
  rw [HT.sIx_none, HT.sIx_nat]
  by_cases h : a ≤ xs.length
  · rw [Nat.min_eq_left h, List.take_of_length_le (by rw [List.length_drop]; exact Nat.le_refl _)]
  · rw [Nat.min_eq_right (by omega), List.drop_of_length_le (Nat.le_refl _), List.drop_of_length_le (by omega), List.take_nil]
/-! ### expressions that make data, drawing on the way -/
theorem Dk.hp {p c : Addr} {H : Hp} (d : Dk p c H) : H p ≠ none := by
  obtain ⟨m, t, cs, h1, h2, _⟩ := d
  rw [h1]; simp
theorem Dk.hc {p c : Addr} {H : Hp} (d : Dk p c H) : H c ≠ none := by
  obtain ⟨m, t, cs, h1, h2, _⟩ := d
  rw [h2]; simp
theorem Gx.sm {p c : Addr} {H H1 H' : Hp} (g : Gx p c H H1) (s : Same H1 H') : Gx p c H1 H' := Gx.same g.2 s
def MG (p c : Addr) (P : PyData → Prop) (t : TE) (σ : L2.St) (H : Hp) : Prop := ∀ H1, Gx p c H H1 → ∀ Q : VK, (∀ v d H', Gx p c H1 H' → Dg p c H' v d → P d → Q v H') → t σ H1 Q
def MGA (p c : Addr) (P : PyData → Prop) (n : Nat) (t : TA) (σ : L2.St) (H : Hp) : Prop := ∀ H1, Gx p c H H1 → ∀ Q : List V → Hp → Prop, (∀ vs ds H', Gx p c H1 H' → DgA p c H' vs ds → (∀ d ∈ ds, P d) → ds.length = n → Q vs H') → t σ H1 Q
def MGT (p c : Addr) (P : List PyData → Prop) (t : TE) (σ : L2.St) (H : Hp) : Prop := ∀ H1, Gx p c H H1 → ∀ Q : VK, (∀ a ys es H', Gx p c H1 H' → At p c H' a (.tup ys) → DgA p c H' ys es → P es → Q (.ref a) H') → t σ H1 Q
theorem cutV_but (xs : List V) : cutV xs none (some (-1)) = xs.take (xs.length - 1) := by
  unfold cutV
  rw [HT.sIx_none, List.drop_zero, Nat.sub_zero]
  congr 1
  show (if ((-1 : Int)) < 0 then ((-1 : Int) + (xs.length : Int)).toNat else min ((-1 : Int)).toNat xs.length) = _
  rw [if_pos (by decide)]
  omega
section
variable {p c : Addr} {P P' : PyData → Prop} {A A' B : List PyData → Prop} {σ : L2.St} {H : Hp} {t te : TE} {ta : TA} {n i : Nat} {v : V} {d : PyData} {a : Addr} {xs : List V} {ds : List PyData} {K : PySem.W.Frag}
theorem MG.mono (m : MG p c P t σ H) (h : ∀ d, P d → P' d) : MG p c P' t σ H := fun H1 s1 Q q => m H1 s1 Q fun v d H' s hd hP => q v d H' s hd (h d hP)
theorem MG.cst (h : Dg p c H v d) (hP : P d) : MG p c P (tC v) σ H := fun H1 s1 _ q => q v d H1 (Gx.refl s1.2) (h.to s1.1) hP
theorem MG.var (e : σ[i]? = some (some v)) (h : Dg p c H v d) (hP : P d) : MG p c P (tVar i) σ H := fun H1 s1 _ q => ⟨v, e, q v d H1 (Gx.refl s1.2) (h.to s1.1) hP⟩
theorem MGA.nil : MGA p c P 0 tNil σ H := fun H1 s1 _ q => q [] [] H1 (Gx.refl s1.2) .nil (fun _ h => by cases h) rfl
theorem MGA.cons (m : MG p c P te σ H) (r : MGA p c P n ta σ H) : MGA p c P (n + 1) (tCons te ta) σ H := fun H0 s0 Q q => m H0 s0 _ fun v d H1 s1 hd hP => r H1 (s0.trans s1) _ fun vs ds H2 s2 ha hA hl =>
  q (v :: vs) (d :: ds) H2 (s1.trans s2) (.cons (hd.to s2.1) ha) (fun x hx => (List.mem_cons.mp hx).elim (fun z => z ▸ hP) (hA x)) (congrArg (· + 1) hl)
theorem MGT.mono (m : MGT p c A t σ H) (h : ∀ d, A d → A' d) : MGT p c A' t σ H := fun H1 s1 Q q => m H1 s1 Q fun a ys es H' s ha hA hP => q a ys es H' s ha hA (h es hP)
theorem MGT.var (e : σ[i]? = some (some (.ref a))) (ha : At p c H a (.tup xs)) (hA : DgA p c H xs ds) (hP : A ds) : MGT p c A (tVar i) σ H := fun H1 s1 _ q => ⟨_, e, q a xs ds H1 (Gx.refl s1.2) (ha.gx s1) (hA.to s1.1) hP⟩
theorem MGT.tup (m : MGA p c P n ta σ H) (hn : n ≤ 16000000) (h : ∀ ds : List PyData, ds.length = n → (∀ d ∈ ds, P d) → A ds) : MGT p c A (tTup ta) σ H := fun H0 s0 Q q => m H0 s0 _ fun vs ds H1 s1 ha hA hl =>
  ⟨sz (by rw [ha.len]; omega), fun a hf => q _ _ _ _ (s1.trans (Gx.new s1.2 hf)) (.new s1.2 hf) (ha.to (Kp.same (same_new hf))) (h ds hl hA)⟩
theorem MGT.mk (m : MGT p c A t σ H) (h : ∀ es, A es → P (.tuple es)) : MG p c P t σ H := fun H1 s1 Q q => m H1 s1 Q fun a ys es H' s ha hA hP => q _ _ _ s (.tup ha hA) (h es hP)
theorem MGT.off (k : Nat) (m : MGT p c A t σ H) (h : ∀ es, A es → A' (es.drop k)) : MGT p c A' (tSl (rSlA K) t (tPart (tC (.int (k : Int)))) tNoPart) σ H := fun H1 s1 Q q => m H1 s1 _ fun a ys es H2 s2 ha hA hP =>
  ⟨_, rfl, sl_g s2.2.hp s2.2.hc ha fun a' H3 s3 h3 => q _ _ _ _ (s2.trans (s2.sm s3)) h3 (by rw [cutV_off]; exact (hA.to (Kp.same s3)).drop k) (h es hP)⟩
theorem MGT.up (k : Nat) (m : MGT p c A t σ H) (h : ∀ es, A es → A' (es.take k)) : MGT p c A' (tSl (rSlA K) t tNoPart (tPart (tC (.int (k : Int))))) σ H := fun H1 s1 Q q => m H1 s1 _ fun a ys es H2 s2 ha hA hP =>
  ⟨_, rfl, sl_g s2.2.hp s2.2.hc ha fun a' H3 s3 h3 => q _ _ _ _ (s2.trans (s2.sm s3)) h3 (by rw [cutV_up]; exact (hA.to (Kp.same s3)).take k) (h es hP)⟩
theorem MGT.but (m : MGT p c A t σ H) (h : ∀ es n, A es → A' (es.take n)) : MGT p c A' (tSl (rSlA K) t tNoPart (tPart (tUn (rU fun i => .int (-i)) (tC (.int 1))))) σ H := fun H1 s1 Q q => m H1 s1 _ fun a ys es H2 s2 ha hA hP =>
  ⟨1, rfl, -1, rfl, sl_g s2.2.hp s2.2.hc ha fun a' H3 s3 h3 => q _ _ _ _ (s2.trans (s2.sm s3)) h3 (by rw [cutV_but]; exact (hA.to (Kp.same s3)).take _) (h es _ hP)⟩
theorem MGT.cat {t1 t2 : TE} (m1 : MGT p c A t1 σ H) (m2 : MGT p c B t2 σ H) (h : ∀ es fs, A es → B fs → es.length + fs.length ≤ 1000000 ∧ A' (es ++ fs)) : MGT p c A' (tOp (rCatA K) t1 t2) σ H := fun H1 s1 Q q => m1 H1 s1 _ fun a ys es H2 s2 ha hA hP => m2 H2 (s1.trans s2) _ fun b zs fs H3 s3 hb hB hP2 =>
  cat_g s3.2.hp s3.2.hc (ha.gx s3) hb (by rw [hA.len, hB.len]; exact (h es fs hP hP2).1) fun r H4 s4 h4 => q _ _ _ _ ((s2.trans s3).trans (s3.sm s4)) h4 (((hA.to s3.1).to (Kp.same s4)).app (hB.to (Kp.same s4))) (h es fs hP hP2).2
theorem MGT.rev (m : MGT p c A t σ H) (h : ∀ es, A es → A' es.reverse) : MGT p c A' (tRevT K t) σ H := fun H1 s1 Q q => m H1 s1 _ fun a ys es H2 s2 ha hA hP =>
  ⟨a, ys, rfl, SqT.of ha.2.2, fun q1 hq => q _ _ _ _ (s2.trans (Gx.new s2.2 hq)) (.new s2.2 hq) (hA.to (Kp.same (same_new hq))).rev (h es hP)⟩
theorem MG.lst (m : MGA p c P n ta σ H) (hn : n ≤ 16000000) (h : ∀ ds : List PyData, ds.length = n → (∀ d ∈ ds, P d) → P' (.list ds)) : MG p c P' (tLst ta) σ H := fun H0 s0 Q q => m H0 s0 _ fun vs ds H1 s1 ha hA hl =>
  ⟨sz (by rw [ha.len]; omega), fun a hf => q _ _ _ (s1.trans (Gx.new s1.2 hf)) (.lst (.new s1.2 hf) (ha.to (Kp.same (same_new hf)))) (h ds hl hA)⟩
theorem MG.dic (h : P (.dict [])) : MG p c P tDNewK σ H := fun H0 s0 Q q a hf => q _ _ _ (Gx.new s0.2 hf) (.dic (.new s0.2 hf) .nil) h
/-- a list of such data -/
def LP (p c : Addr) (P : PyData → Prop) (N : Nat) (H : Hp) (L : Addr) : Prop := ∃ vs es, At p c H L (.lst vs) ∧ DgA p c H vs es ∧ (∀ e ∈ es, P e) ∧ vs.length = N
theorem LP.to {N : Nat} {H' : Hp} {L : Addr} (h : LP p c P N H L) (g : Gx p c H H') : LP p c P N H' L := by
  obtain ⟨vs, es, h1, h2, h3, h4⟩ := h
  exact ⟨vs, es, h1.gx g, h2.to g.1, h3, h4⟩
theorem mg_list {Q : VK} (dk : Dk p c H) (m : MGA p c P n ta σ H) (hn : n ≤ 16000000) (q : ∀ l H', Gx p c H H' → LP p c P n H' l → Q (.ref l) H') : tLst ta σ H Q := m H (Gx.refl dk) _ fun vs ds H1 s1 ha hA hl =>
  ⟨sz (by rw [ha.len]; omega), fun l hf => q l _ (s1.trans (Gx.new s1.2 hf)) ⟨vs, ds, .new s1.2 hf, ha.to (Kp.same (same_new hf)), hA, ha.len.trans hl⟩⟩
theorem mem_flat2 {l : List PyData} (h : ∀ e ∈ l, P e) : ∀ n, ∀ e ∈ (List.replicate n l).flatten, P e := by
  intro n e he
  obtain ⟨x, hx, he⟩ := List.mem_flatten.mp he
  rw [List.eq_of_mem_replicate hx] at he
  exact h e he
theorem DgA.rep {vs : List V} {es : List PyData} (h : DgA p c H vs es) : ∀ n, DgA p c H (List.replicate n vs).flatten (List.replicate n es).flatten
  | 0 => .nil
  | n + 1 => by
    rw [List.replicate_succ, List.replicate_succ, List.flatten_cons, List.flatten_cons]
    exact h.app (DgA.rep h n)
theorem mg_cat {Q : VK} {N : Nat} {L : Addr} (e : σ[i]? = some (some (.ref L))) (hL : LP p c P N H L) (dk : Dk p c H) (m : MGA p c P n ta σ H) (hn : N + n ≤ 1000000) (q : ∀ l H', Gx p c H H' → LP p c P (N + n) H' l → Q (.ref l) H') : tOp rCat (tVar i) (tLst ta) σ H Q := by
  refine ⟨_, e, mg_list dk m (by omega) fun l H1 g1 h1 => ?_⟩
  obtain ⟨vs, es, a1, a2, a3, a4⟩ := hL.to g1
  obtain ⟨ws, fs, b1, b2, b3, b4⟩ := h1
  refine ⟨L, l, vs, ws, rfl, rfl, a1.2.2, b1.2.2, sz (by omega), fun r hr => q r _ (g1.trans (Gx.new g1.2 hr)) ⟨_, es ++ fs, .new g1.2 hr, (a2.to (Kp.same (same_new hr))).app (b2.to (Kp.same (same_new hr))), fun x hx => (List.mem_append.mp hx).elim (a3 x) (b3 x), by rw [List.length_append]; omega⟩⟩
theorem mg_cat2 {Q : VK} {N k : Nat} {L : Addr} (e : σ[i]? = some (some (.ref L))) (hL : LP p c P N H L) (dk : Dk p c H) (m : MGA p c P n ta σ H) (hk : k ≤ 100) (hn : N + n ≤ 10000) (q : ∀ l H', Gx p c H H' → LP p c P (N + k * n) H' l → Q (.ref l) H') : tOp rCat (tVar i) (tOp rRep (tLst ta) (tC (.int (k : Int)))) σ H Q := by
  refine ⟨_, e, mg_list dk m (by omega) fun l H1 g1 h1 => ?_⟩
  obtain ⟨ws, fs, b1, b2, b3, b4⟩ := h1
  have hz : k * n ≤ 1000000 := Nat.le_trans (Nat.mul_le_mul hk (show n ≤ 10000 by omega)) (by decide)
  refine ⟨l, _, ws, rfl, rfl, b1.2.2, by omega, by omega, sz (by rw [Int.toNat_natCast, b4, Nat.mul_comm]; omega), fun r hr => ?_⟩
  have g2 := g1.trans (Gx.new (o := .lst (List.replicate ((k : Int)).toNat ws).flatten) g1.2 hr)
  obtain ⟨vs, es, a1, a2, a3, a4⟩ := hL.to g2
  have c1 : At p c (upd H1 r (.lst (List.replicate ((k : Int)).toNat ws).flatten)) r _ := .new g1.2 hr
  have c2 := (b2.rep ((k : Int)).toNat).to (Kp.same (same_new (o := .lst (List.replicate ((k : Int)).toNat ws).flatten) hr))
  have c4 : (List.replicate ((k : Int)).toNat ws).flatten.length = k * n := by rw [List.length_flatten, List.map_replicate, List.sum_replicate_nat, Int.toNat_natCast, b4]
  refine ⟨L, r, vs, _, rfl, rfl, a1.2.2, c1.2.2, sz (by omega), fun u hu => q u _ (g2.trans (Gx.new g2.2 hu)) ⟨_, es ++ _, .new g2.2 hu, (a2.to (Kp.same (same_new hu))).app (c2.to (Kp.same (same_new hu))), fun x hx => (List.mem_append.mp hx).elim (a3 x) (mem_flat2 b3 _ x), by rw [List.length_append]; omega⟩⟩
end
section
variable {p c : Addr} {P : PyData → Prop} {σ : L2.St} {H : Hp} {ta : TA} {n i j N k : Nat} {L : Addr} {u : TS} {D : Ends}
theorem seq_list (dk : Dk p c H) (m : MGA p c P n ta σ H) (hn : n ≤ 16000000) (q : ∀ l H', Gx p c H H' → LP p c P n H' l → u D (σ.set j (some (.ref l))) H') : tSeq (tAsg (tLst ta) (gName j)) u D σ H := mg_list (Q := fun x H1 => u D (σ.set j (some x)) H1) dk m hn q
theorem seq_cat (e : σ[i]? = some (some (.ref L))) (hL : LP p c P N H L) (dk : Dk p c H) (m : MGA p c P n ta σ H) (hn : N + n ≤ 1000000) (q : ∀ l H', Gx p c H H' → LP p c P (N + n) H' l → u D (σ.set j (some (.ref l))) H') : tSeq (tAsg (tOp rCat (tVar i) (tLst ta)) (gName j)) u D σ H := mg_cat (Q := fun x H1 => u D (σ.set j (some x)) H1) e hL dk m hn q
theorem seq_cat2 (e : σ[i]? = some (some (.ref L))) (hL : LP p c P N H L) (dk : Dk p c H) (m : MGA p c P n ta σ H) (hk : k ≤ 100) (hn : N + n ≤ 10000) (q : ∀ l H', Gx p c H H' → LP p c P (N + k * n) H' l → u D (σ.set j (some (.ref l))) H') : tSeq (tAsg (tOp rCat (tVar i) (tOp rRep (tLst ta) (tC (.int (k : Int))))) (gName j)) u D σ H := mg_cat2 (Q := fun x H1 => u D (σ.set j (some x)) H1) e hL dk m hk hn q
theorem one_cat (e : σ[i]? = some (some (.ref L))) (hL : LP p c P N H L) (dk : Dk p c H) (m : MGA p c P n ta σ H) (hn : N + n ≤ 1000000) (q : ∀ l H', Gx p c H H' → LP p c P (N + n) H' l → D.nx (σ.set j (some (.ref l))) H') : tAsg (tOp rCat (tVar i) (tLst ta)) (gName j) D σ H := mg_cat (Q := fun x H1 => D.nx (σ.set j (some x)) H1) e hL dk m hn q
theorem one_cat2 (e : σ[i]? = some (some (.ref L))) (hL : LP p c P N H L) (dk : Dk p c H) (m : MGA p c P n ta σ H) (hk : k ≤ 100) (hn : N + n ≤ 10000) (q : ∀ l H', Gx p c H H' → LP p c P (N + k * n) H' l → D.nx (σ.set j (some (.ref l))) H') : tAsg (tOp rCat (tVar i) (tOp rRep (tLst ta) (tC (.int (k : Int))))) (gName j) D σ H := mg_cat2 (Q := fun x H1 => D.nx (σ.set j (some x)) H1) e hL dk m hk hn q
end
end Ag

end
/-! ## Q3 -/
section
set_option linter.all false
set_option maxRecDepth 100000
set_option maxHeartbeats 4000000
namespace Ag
open PySem PySem.Spec PyProof.Rows L2
open SX (S S_len S_cat S_inj)
/-! ### things that are drawn -/
abbrev Sm0 : PyData → Prop := fun d => Gd false d 0 151
theorem th_lst {p c : Addr} {k : Nat} {ta : TA} {σ : L2.St} {H : Hp} (h : MGA p c Sm0 k ta σ H) (hk : k ≤ 3) : MG p c ThG (tLst ta) σ H := MG.lst h (by omega) fun ds hl hd => ⟨false, by
  have g : GdA false ds 0 456 := by
    match ds, hl, hd with
    | [], _, _ => exact .nil
    | [a], _, hd => exact .cons (b1 := 151) (b2 := 0) (hd a (by simp)) .nil (by decide)
    | [a, b], _, hd => exact .cons (b1 := 151) (b2 := 152) (hd a (by simp)) (.cons (b1 := 151) (b2 := 0) (hd b (by simp)) .nil (by decide)) (by decide)
    | [a, b, c], _, hd => exact .cons (b1 := 151) (b2 := 304) (hd a (by simp)) (.cons (b1 := 151) (b2 := 152) (hd b (by simp)) (.cons (b1 := 151) (b2 := 0) (hd c (by simp)) .nil (by decide)) (by decide)) (by decide)
    | _ :: _ :: _ :: _ :: _, hl, _ => simp at hl; omega
  exact (Gd.lst g).mono (by decide) (by decide), fun _ => rfl⟩
theorem th_tup {p c : Addr} {k : Nat} {ta : TA} {σ : L2.St} {H : Hp} (h : MGA p c Sm0 k ta σ H) (hk : k ≤ 3) : MG p c ThG (tTup ta) σ H := MGT.mk (MGT.tup (A := fun ds => GdA false ds 0 456 ∧ ds.length ≤ 3) h (by omega) fun ds hl hd => ⟨by
  match ds, hl, hd with
  | [], _, _ => exact .nil
  | [a], _, hd => exact .cons (b1 := 151) (b2 := 0) (hd a (by simp)) .nil (by decide)
  | [a, b], _, hd => exact .cons (b1 := 151) (b2 := 152) (hd a (by simp)) (.cons (b1 := 151) (b2 := 0) (hd b (by simp)) .nil (by decide)) (by decide)
  | [a, b, c], _, hd => exact .cons (b1 := 151) (b2 := 304) (hd a (by simp)) (.cons (b1 := 151) (b2 := 152) (hd b (by simp)) (.cons (b1 := 151) (b2 := 0) (hd c (by simp)) .nil (by decide)) (by decide)) (by decide)
  | _ :: _ :: _ :: _ :: _, hl, _ => simp at hl; omega, by omega⟩) fun es h => ⟨false, (Gd.tup h.1 (by omega)).mono (by decide) (by decide), fun _ => rfl⟩
theorem sm_int {i : Int} (h0 : -1 ≤ i) (h1 : i ≤ 10 ^ 39) : Sm0 (.int i) := .int (by simp only [intOk, Bool.and_eq_true, decide_eq_true_eq]; omega)
theorem sm_str {s : Str} (h : strOkB s = true) (h2 : s.cps.size ≤ 151) : Sm0 (.str s) := .str h h2
theorem sm_th {d : PyData} (h : Sm0 d) : ThG d := ⟨false, h.mono (by decide) (by decide), fun _ => rfl⟩
section
variable {P : Program} {w : World} {K : PySem.W.Frag} {mg : Str → Option Value} {base : Heap} {tn tw tb : Tok}
/-- numbers near a view's -/
def NrL (p c : Addr) (H : Hp) (L : Addr) : Prop := ∃ ns : List Int, At p c H L (.lst (ns.map V.int)) ∧ 1 ≤ ns.length ∧ ns.length ≤ 16 ∧ ∀ k ∈ ns, 0 ≤ k ∧ k ≤ 1000000001
def spDrawn : Sp := fun vs H Q _ => ∃ p c a b n x i, vs = [.ref p, .ref a, .str (wyS i)] ∧ i ≤ 2 ∧ Dk p c H ∧ VwA H a b n x ∧ x.ok 40 ∧ Outs p c H ThG Q
theorem ok_drawn {f f1 f2 f3 f4 : Addr} {fd fd1 fd2 fd3 fd4 : FuncData} (F : Fn K mg "_law_drawn" s__law_drawn ["_law_deck", "_law_view", "_law_way"] f fd) (B : Con mg tn tw tb) (F__law_draw : Fn K mg "_law_draw" s__law_draw ["_law_deck", "_law_many"] f1 fd1) (F__law_pick : Fn K mg "_law_pick" s__law_pick ["_law_deck", "_law_some"] f2 fd2)
    (F__law_body : Fn K mg "_law_body" s__law_body ["_law_deck"] f3 fd3) (G__law_body : FnOk P w K mg base CX0 3 f3 fd3 ["_law_deck"] spMkBody) (F__law_odd : Fn K mg "_law_odd" s__law_odd ["_law_deck"] f4 fd4) (G__law_odd : FnOk P w K mg base CX0 3 f4 fd4 ["_law_deck"] spOdd) :
    FnOk P w K mg base CX0 4 f fd ["_law_deck", "_law_view", "_law_way"] spDrawn := by
  have G__law_draw : FnOk P w K mg base CX0 1 f1 fd1 ["_law_deck", "_law_many"] spDraw := ok_draw F__law_draw B.toBlt
  have G__law_pick : FnOk P w K mg base CX0 2 f2 fd2 ["_law_deck", "_law_some"] spPick := ok_pick F__law_pick B.toBlt F__law_draw
  refine F.F.ok sc__law_drawn (fun vs H Q E h => ?_) (fun cdv A outer s H vs Q E hr h => ?_)
  · obtain ⟨p, c, a, b, n, x, i, rfl, _⟩ := h
    rfl
  · obtain ⟨p, c, a, b, n, x, i, rfl, hi, dk, vw, ok, q⟩ := h
    refine ⟨_, (pss_cons (ps_par (i := 3) (j := 4) (by rfl) sc__law_drawn.nd rfl rfl (by decide) rfl rfl (pa_cons (pe_callB call_len (by rfl) B.n_len PySem.boot_len (pa_cons (pe_ix ix_tup (pv 1) pe_int (fun _ _ => rfl)) pa_nil)) (pa_cons (pe_callB (cr_max rfl) (by rfl) B.n_max (by decide +kernel) (pa_cons (pe_op op_cat (pe_lst (pa_cons pe_int pa_nil)) (pe_callTy call_list_of (by rfl) B.n_list (by decide +kernel) (pa_cons (pe_ix ix_tup (pv 1) pe_int (fun _ _ => rfl)) pa_nil))) pa_nil)) pa_nil)) (by rfl))
      (pss_cons (ps_set (i := 5) sc__law_drawn.nd rfl (.inl rfl) (pe_lst (pa_cons (pv 3) (pa_cons (pv 4) (pa_cons (pv 4) (pa_cons (pe_op op_add (pv 3) pe_int) (pa_cons (pe_callB (call_max2 rfl) (by rfl) B.n_max (by decide +kernel) (pa_cons pe_int (pa_cons (pe_op op_sub (pv 4) pe_int) pa_nil))) (pa_cons pe_int (pa_cons (pe_call G__law_draw (hr.mono (by decide)) (by rfl) F__law_draw.g F__law_draw.F.kp F__law_draw.b .nil pass0 (pa_cons (pv 0) (pa_cons (pe_op op_add (pv 3) pe_int) pa_nil))) (pa_cons (pe_call G__law_draw (hr.mono (by decide)) (by rfl) F__law_draw.g F__law_draw.F.kp F__law_draw.b .nil pass0 (pa_cons (pv 0) (pa_cons (pe_op op_add (pv 3) pe_int) pa_nil))) pa_nil))))))))))
      (pss_cons (ps_set (i := 5) sc__law_drawn.nd rfl (.inl rfl) (pe_op op_cat (pv 5) (pe_op op_rep (pe_lc (own := [("_law_end", 8)]) rfl sc__law_drawn.nd (pi_tup (pe_slice sl_tupA (pv 1) (po_some pe_int) (po_some pe_int))) (blkOk_by (N := N__law_drawn) (sc := defScope s__law_drawn) (by decide +kernel)) (fun _ _ _ _ _ => (pg_name (i := 8) sc__law_drawn.nd rfl (Or.inl rfl))) (fun _ _ _ _ _ => (pts_one (pt_cmpR op_notN (pv 8) pe_non (nomark _)))) (fun _ _ _ _ _ => (pv 8))) pe_int)))
      (pss_cons (ps_if (pt_cmpR op_eq (pv 2) pe_str (nomark _))
      (pss_one (ps_ret (pe_ifExp (pt_cmpR op_gt (pe_call G__law_draw (hr.mono (by decide)) (by rfl) F__law_draw.g F__law_draw.F.kp F__law_draw.b .nil pass0 (pa_cons (pv 0) (pa_cons pe_int pa_nil))) pe_int (nomark _)) (pe_call G__law_body (hr.mono (by decide)) (by rfl) F__law_body.g F__law_body.F.kp F__law_body.b .nil pass0 (pa_cons (pv 0) pa_nil)) (pe_call G__law_pick (hr.mono (by decide)) (by rfl) F__law_pick.g F__law_pick.F.kp F__law_pick.b .nil pass0 (pa_cons (pv 0) (pa_cons (pe_lst (pa_cons (pe_op op_rep_str pe_str pe_int) (pa_cons pe_non (pa_cons pe_str (pa_cons pe_int (pa_cons (pe_tup (pa_cons pe_str pa_nil)) (pa_cons (pe_call G__law_odd (hr.mono (by decide)) (by rfl) F__law_odd.g F__law_odd.F.kp F__law_odd.b .nil pass0 (pa_cons (pv 0) pa_nil)) pa_nil))))))) pa_nil))))))
      pss_nil)
      (pss_cons (ps_if (pt_cmpR op_eq (pv 2) pe_str (nomark _))
      (pss_one (ps_ret (pe_ifExp (pt_cmpR op_gt (pe_call G__law_draw (hr.mono (by decide)) (by rfl) F__law_draw.g F__law_draw.F.kp F__law_draw.b .nil pass0 (pa_cons (pv 0) (pa_cons pe_int pa_nil))) pe_int (nomark _)) (pe_call G__law_pick (hr.mono (by decide)) (by rfl) F__law_pick.g F__law_pick.F.kp F__law_pick.b .nil pass0 (pa_cons (pv 0) (pa_cons (pv 5) pa_nil))) (pe_call G__law_odd (hr.mono (by decide)) (by rfl) F__law_odd.g F__law_odd.F.kp F__law_odd.b .nil pass0 (pa_cons (pv 0) pa_nil)))))
      pss_nil)
      (pss_cons (ps_set (i := 6) sc__law_drawn.nd rfl (.inl rfl) (pe_call G__law_draw (hr.mono (by decide)) (by rfl) F__law_draw.g F__law_draw.F.kp F__law_draw.b .nil pass0 (pa_cons (pv 0) (pa_cons pe_int pa_nil))))
      (pss_cons (ps_if (pt_cmpR op_lt (pv 6) pe_int (nomark _))
      (pss_one (ps_ret (pe_tup (pa_cons pe_str (pa_cons (pe_callB (call_max2 rfl) (by rfl) B.n_max (by decide +kernel) (pa_cons pe_int (pa_cons (pe_call G__law_pick (hr.mono (by decide)) (by rfl) F__law_pick.g F__law_pick.F.kp F__law_pick.b .nil pass0 (pa_cons (pv 0) (pa_cons (pv 5) pa_nil))) pa_nil))) (pa_cons (pe_call G__law_body (hr.mono (by decide)) (by rfl) F__law_body.g F__law_body.F.kp F__law_body.b .nil pass0 (pa_cons (pv 0) pa_nil)) pa_nil))))))
      pss_nil)
      (pss_cons (ps_if (pt_cmpR op_lt (pv 6) pe_int (nomark _))
      (pss_one (ps_ret (pe_tup (pa_cons pe_str (pa_cons (pe_call G__law_pick (hr.mono (by decide)) (by rfl) F__law_pick.g F__law_pick.F.kp F__law_pick.b .nil pass0 (pa_cons (pv 0) (pa_cons (pe_lst (pa_cons pe_int (pa_cons pe_int (pa_cons pe_int (pa_cons (pe_op op_pow pe_int pe_int) pa_nil))))) pa_nil))) pa_nil)))))
      pss_nil)
      (pss_cons (ps_if (pt_cmpR op_lt (pv 6) pe_int (nomark _))
      (pss_one (ps_ret (pe_tup (pa_cons pe_str (pa_cons (pe_call G__law_pick (hr.mono (by decide)) (by rfl) F__law_pick.g F__law_pick.F.kp F__law_pick.b .nil pass0 (pa_cons (pv 0) (pa_cons (pv 5) pa_nil))) pa_nil)))))
      pss_nil)
      (pss_cons (ps_set (i := 7) sc__law_drawn.nd rfl (.inl rfl) (pe_lst (pa_cons (pe_tup (pa_cons pe_str (pa_cons pe_int (pa_cons pe_int pa_nil)))) (pa_cons (pe_tup (pa_cons pe_str (pa_cons pe_int pa_nil))) (pa_cons (pe_tup (pa_cons pe_str (pa_cons pe_int (pa_cons pe_str pa_nil)))) (pa_cons (pe_tup (pa_cons pe_str pa_nil)) (pa_cons (pe_tup (pa_cons pe_str (pa_cons pe_int (pa_cons pe_int pa_nil)))) (pa_cons (pe_tup (pa_cons pe_str (pa_cons pe_int pa_nil))) (pa_cons (pe_tup (pa_cons pe_str (pa_cons (pe_un un_neg pe_int) pa_nil))) (pa_cons (pe_tup (pa_cons pe_str (pa_cons pe_non pa_nil))) pa_nil))))))))))
      (pss_cons (ps_set (i := 7) sc__law_drawn.nd rfl (.inl rfl) (pe_op op_cat (pv 7) (pe_lst (pa_cons (pe_tup (pa_cons pe_str (pa_cons pe_int (pa_cons pe_str pa_nil)))) (pa_cons (pe_tup (pa_cons pe_str (pa_cons pe_int (pa_cons pe_str pa_nil)))) (pa_cons (pe_tup (pa_cons pe_str (pa_cons pe_int pa_nil))) (pa_cons (pe_lst (pa_cons pe_str pa_nil)) (pa_cons pe_str (pa_cons (pe_call G__law_odd (hr.mono (by decide)) (by rfl) F__law_odd.g F__law_odd.F.kp F__law_odd.b .nil pass0 (pa_cons (pv 0) pa_nil)) (pa_cons (pe_tup (pa_cons pe_str (pa_cons pe_bl (pa_cons pe_str pa_nil)))) (pa_cons (pe_tup (pa_cons pe_str (pa_cons pe_bl pa_nil))) (pa_cons (pe_tup (pa_cons pe_str (pa_cons pe_bl pa_nil))) pa_nil))))))))))))
      (pss_one (ps_ret (pe_ifExp (pt_cmpR op_eq (pv 6) pe_int (nomark _)) (pe_tup (pa_cons pe_str pa_nil)) (pe_call G__law_pick (hr.mono (by decide)) (by rfl) F__law_pick.g F__law_pick.F.kp F__law_pick.b .nil pass0 (pa_cons (pv 0) (pa_cons (pv 7) pa_nil))))))))))))))))), ?_⟩
    have bl : (bsV x.bs).length = x.bs.length := by unfold bsV; rw [List.length_map]
    have al : (anV x.an).length = x.an.length := by unfold anV; rw [List.length_map]
    have o1 := ok.l
    have o2 := ok.n
    have g0 := Gx.refl dk
    refine ⟨_, rfl, a, _, _, _, rfl, rfl, SqT.of vw.a, atI_nat (j := 2) rfl, .ref b, _, rfl, .inr ⟨_, SqT.of vw.b, rfl⟩, ?_⟩
    rw [bl]
    refine ⟨sz (Nat.le_of_ble_eq_true rfl), fun l0 hl0 => ?_⟩
    have s5 := same_new (o := .lst [.int 0]) hl0
    have e0 : upd H l0 (.lst [.int 0]) l0 = some (.lst [.int 0]) := upd_same
    generalize upd H l0 (.lst [.int 0]) = H5 at s5 e0 ⊢
    refine ⟨_, rfl, a, _, _, _, rfl, rfl, SqT.of (s5 _ _ vw.a), atI_nat (j := 3) rfl, n, _, rfl, .inr (SqT.of (s5 _ _ vw.n)), fun l1 hl1 => ?_⟩
    have s6 := same_new (o := .lst (anV x.an)) hl1
    have e1 : upd H5 l1 (.lst (anV x.an)) l1 = some (.lst (anV x.an)) := upd_same
    have e0 := s6 _ _ e0
    have s6 := s5.trans s6
    generalize upd H5 l1 (.lst (anV x.an)) = H6 at s6 e0 e1 ⊢
    refine ⟨l0, l1, _, _, rfl, rfl, e0, e1, sz (by rw [List.length_singleton, al]; omega), fun l2 hl2 => ?_⟩
    have s7 := s6.trans (same_new (o := .lst ([.int 0] ++ anV x.an)) hl2)
    have e2 : upd H6 l2 (.lst ([.int 0] ++ anV x.an)) l2 = some (.lst (((0 : Int) :: x.an.map fun k => ((k : Nat) : Int)).map V.int)) := by
      rw [upd_same]
      unfold anV
      simp
    generalize upd H6 l2 (.lst ([.int 0] ++ anV x.an)) = H7 at s7 e2 ⊢
    refine ⟨l2, _, rfl, SqL.of e2, by simp, fun lo l1' l2' => ⟨_, _, rfl, ?_⟩⟩
    obtain ⟨le, rfl, hle⟩ : ∃ le : Nat, lo = (le : Int) ∧ le ≤ 1000000000 := by
      rcases List.mem_cons.mp l1' with rfl | h
      · exact ⟨0, rfl, by decide⟩
      · obtain ⟨k, hk, rfl⟩ := List.mem_map.mp h
        exact ⟨k, rfl, ok.an9 k hk⟩
    have gA := Gx.same dk s7
    have vw := vw.to (.of s7)
    clear s5 s6 s7 e0 e1 e2 hl0 hl1 hl2 l1' l2'
    -- near
    refine ⟨_, rfl, _, rfl, _, rfl, _, rfl, _, _, rfl, rfl, _, rfl, _, _, rfl, rfl, _, _, rfl, ?_⟩
    obtain ⟨mx, emx, hmx⟩ : ∃ k : Nat, (if (le : Int) - 1 > 0 then (le : Int) - 1 else 0) = (k : Int) ∧ k ≤ 1000000000 := by
      split
      · exact ⟨le - 1, by omega, by omega⟩
      · exact ⟨0, rfl, by decide⟩
    rw [emx]
    refine ⟨_, rfl, _, rfl, _, _, rfl, rfl, p, c, _, rfl, gA.2, by omega, by omega, fun z1 Ha hz1 ga => ⟨_, rfl, _, rfl, _, _, rfl, rfl, p, c, _, rfl, ga.2, by omega, by omega, fun z2 Hb hz2 gb => ⟨sz (Nat.le_of_ble_eq_true rfl), fun l hl => ?_⟩⟩⟩
    have gB := (gA.trans ga).trans gb
    have vw := (vw.to (.gx gA.2 ga)).to (.gx ga.2 gb)
    have e5 : upd Hb l (.lst [.int (x.bs.length : Int), .int (le : Int), .int (le : Int), .int ((x.bs.length : Int) + 1), .int (mx : Int), .int 0, .int (z1 : Int), .int (z2 : Int)]) l = some (.lst ([(x.bs.length : Int), (le : Int), (le : Int), (x.bs.length : Int) + 1, (mx : Int), 0, (z1 : Int), (z2 : Int)].map V.int)) := upd_same
    have s8 := same_new (o := .lst [.int (x.bs.length : Int), .int (le : Int), .int (le : Int), .int ((x.bs.length : Int) + 1), .int (mx : Int), .int 0, .int (z1 : Int), .int (z2 : Int)]) hl
    have gC := gB.trans (Gx.same gB.2 s8)
    have vw := vw.to (.of s8)
    clear gA gB ga gb s8
    have hns : ∀ k ∈ [(x.bs.length : Int), (le : Int), (le : Int), (x.bs.length : Int) + 1, (mx : Int), 0, (z1 : Int), (z2 : Int)], 0 ≤ k ∧ k ≤ 1000000001 := by
      intro k hk
      simp only [List.mem_cons, List.not_mem_nil, or_false] at hk
      rcases hk with rfl | rfl | rfl | rfl | rfl | rfl | rfl | rfl <;> omega
    have hln : [(x.bs.length : Int), (le : Int), (le : Int), (x.bs.length : Int) + 1, (mx : Int), 0, (z1 : Int), (z2 : Int)].length = 8 := rfl
    generalize [(x.bs.length : Int), (le : Int), (le : Int), (x.bs.length : Int) + 1, (mx : Int), 0, (z1 : Int), (z2 : Int)] = ns at e5 hns hln
    generalize upd Hb l (.lst [.int (x.bs.length : Int), .int (le : Int), .int (le : Int), .int ((x.bs.length : Int) + 1), .int (mx : Int), .int 0, .int (z1 : Int), .int (z2 : Int)]) = Hc at gC vw e5 ⊢
    -- the ends
    refine ⟨_, rfl, _, rfl, _, rfl, _, rfl, ?_⟩
    refine sl_t vw.a fun T H3 s3 hT3 => ?_
    rw [show cutV (xsV x b n) (some 4) (some 6) = [nV x.aw, nV x.up] from rfl] at hT3
    refine ⟨T, rfl, ⟨_, SqT.of hT3⟩, fun D2 hD2 => ?_⟩
    refine lc_sel (walk_tup (K := K) (a := T) (xs := [nV x.aw, nV x.up])) (fun i => !decide (([nV x.aw, nV x.up] : List V).getD i .non = .non)) (fun i => ([nV x.aw, nV x.up] : List V).getD i .non) (by show 2 ≤ _; decide) hD2 (fun H' s => SqT.of (s _ _ hT3)) ?_ ?_
    · rintro i y H4 H5 k kf hi s4 ⟨rfl, hy⟩ hk hk0
      have ey : ([nV x.aw, nV x.up] : List V).getD i .non = y := by rw [List.getD_eq_getElem?_getD, hy]; rfl
      rw [ey] at hk hk0
      refine ⟨rfl, _, rfl, rfl, _, rfl, ?_⟩
      cases hn : decide (y = V.non) with
      | false => exact iteT ⟨_, rfl, hk (by rw [hn]; rfl) _ (Same.refl _)⟩
      | true => exact iteF (hk0 (by rw [hn]; rfl) _ (Same.refl _))
    intro H4 s4 h4
    rw [show ([nV x.aw, nV x.up] : List V).length = 2 from rfl, sel_ends, evs_int] at h4
    have h4 : H4 D2 = some (.lst ((ensI x).map V.int)) := h4
    have s4 := s3.trans s4
    have en2 : (ensI x).length ≤ 2 := by
      unfold ensI enI
      cases x.aw <;> cases x.up <;> simp
    have en9 : ∀ k ∈ ensI x, 0 ≤ k ∧ k ≤ 1000000001 := by
      intro k hk
      have one : ∀ o : Option Nat, (∀ k, o = some k → k ≤ 1000000000) → k ∈ enI o → 0 ≤ k ∧ k ≤ 1000000001 := by
        intro o ho hk
        cases o with
        | none => cases hk
        | some j =>
          have := ho j rfl
          rw [List.mem_singleton.mp hk]
          omega
      rcases List.mem_append.mp hk with h | h
      · exact one _ ok.aw9 h
      · exact one _ ok.up9 h
    have fl : (List.replicate ((4 : Int)).toNat ((ensI x).map V.int)).flatten.length = 4 * (ensI x).length := by rw [List.length_flatten, List.map_replicate, List.sum_replicate_nat, List.length_map]; rfl
    refine ⟨D2, _, _, rfl, rfl, h4, by omega, by omega, sz (by rw [List.length_map]; show _ * 4 ≤ _; omega), fun r hr => ?_⟩
    have s5 := s4.trans (same_new (o := .lst (List.replicate ((4 : Int)).toNat ((ensI x).map V.int)).flatten) hr)
    have er : upd H4 r (.lst (List.replicate ((4 : Int)).toNat ((ensI x).map V.int)).flatten) r = some (.lst (List.replicate ((4 : Int)).toNat ((ensI x).map V.int)).flatten) := upd_same
    generalize upd H4 r (.lst (List.replicate ((4 : Int)).toNat ((ensI x).map V.int)).flatten) = H5 at s5 er ⊢
    refine ⟨l, r, _, _, rfl, rfl, s5 _ _ e5, er, sz (by rw [fl, List.length_map, hln]; omega), fun L hL => ?_⟩
    have s6 := s5.trans (same_new (o := .lst (ns.map V.int ++ (List.replicate ((4 : Int)).toNat ((ensI x).map V.int)).flatten)) hL)
    have gD := gC.trans (Gx.same gC.2 s6)
    have vw := vw.to (.of s6)
    have eF : (List.replicate ((4 : Int)).toNat ((ensI x).map V.int)).flatten = ((List.replicate 4 (ensI x)).flatten).map V.int := by
      rw [List.map_flatten, List.map_replicate]
      rfl
    have nr : NrL p c (upd H5 L (.lst (ns.map V.int ++ (List.replicate ((4 : Int)).toNat ((ensI x).map V.int)).flatten))) L := by
      have hat : At p c (upd H5 L (.lst (ns.map V.int ++ (List.replicate ((4 : Int)).toNat ((ensI x).map V.int)).flatten))) L (.lst (ns.map V.int ++ (List.replicate ((4 : Int)).toNat ((ensI x).map V.int)).flatten)) := .new (gC.2.same s5) hL
      refine ⟨ns ++ (List.replicate 4 (ensI x)).flatten, ?_, ?_, ?_, fun k hk => ?_⟩
      · rw [eF, ← List.map_append] at hat
        rw [eF, ← List.map_append]
        exact hat
      · rw [List.length_append, hln]; omega
      · have : ((List.replicate 4 (ensI x)).flatten).length = 4 * (ensI x).length := by rw [List.length_flatten, List.map_replicate, List.sum_replicate_nat]
        rw [List.length_append, hln, this]; omega
      · rcases List.mem_append.mp hk with h | h
        · exact hns k h
        · obtain ⟨y, hy, h⟩ := List.mem_flatten.mp h
          rw [List.eq_of_mem_replicate hy] at h
          exact en9 k h
    generalize upd H5 L (.lst (ns.map V.int ++ (List.replicate ((4 : Int)).toNat ((ensI x).map V.int)).flatten)) = H6 at gD vw nr ⊢
    clear s3 s4 s5 s6 hT3 hD2 h4 er hr hL e5 gC hl
    obtain ⟨ns2, hLa, n1, n16, hn9⟩ := nr
    have pickN : ∀ {Q' : VK} {H' : Hp}, Gx p c H6 H' → (∀ (k : Nat) H'', k ≤ 1000000001 → Gx p c H' H'' → Q' (.int (k : Int)) H'') → spPick [.ref p, .ref L] H' Q' E0 := by
      intro Q' H' g k
      refine ⟨p, c, .ref L, rfl, g.2, .inl ⟨L, _, rfl, hLa.gx g, by rw [List.length_map]; exact n1, by rw [List.length_map]; omega, fun r x H'' hx g' => ?_⟩⟩
      obtain ⟨z, hz, rfl⟩ := int_at hx
      obtain ⟨h0, h1⟩ := hn9 z (List.mem_of_getElem? hz)
      obtain ⟨j, rfl⟩ := Int.eq_ofNat_of_zero_le h0
      exact k j H'' (by omega) g'
    have q : Outs p c H6 ThG Q := fun v d H' g hd ht => q v d H' (gD.trans g) hd ht
    have dk := gD.2
    clear gD
    have oddM : ∀ {σ : L2.St} {H' : Hp}, σ[0]? = some (some (.ref p)) → MG p c ThG (tCall spOdd [] E0 (tCons (tVar 0) tNil)) σ H' := fun e H1 s1 Q q => ⟨_, e, p, c, rfl, s1.2, fun v d H' g hd hG => q v d H' g hd (odd_th hG)⟩
    have cI : ∀ {σ : L2.St} {H' : Hp} (i : Int), -1 ≤ i → i ≤ 10 ^ 39 → MG p c Sm0 (tC (.int i)) σ H' := fun i h0 h1 => .cst (.int i) (sm_int h0 h1)
    have cS : ∀ {σ : L2.St} {H' : Hp} (s : Str), strOkB s = true → s.cps.size ≤ 151 → MG p c Sm0 (tC (.str s)) σ H' := fun s h0 h1 => .cst (.str s) (sm_str h0 h1)
    have fromL : ∀ {L : Addr} {H' : Hp} {N : Nat}, 1 ≤ N → N ≤ 100 → Gx p c H6 H' → LP p c ThG N H' L → spPick [.ref p, .ref L] H' Q E0 := by
      rintro L H' N h1 h2 g ⟨vs, es, a1, a2, a3, a4⟩
      refine ⟨p, c, .ref L, rfl, g.2, .inl ⟨L, _, rfl, a1, by omega, by omega, fun r x H'' hx g' => ?_⟩⟩
      obtain ⟨e, he, hd⟩ := a2.at_ hx
      exact q x e H'' (g.trans g') (hd.to g'.1) (a3 e (List.mem_of_getElem? he))
    refine ⟨_, rfl, rfl, _, rfl, ?_⟩
    match i, hi with
    | 0, _ =>
      refine sT rfl ⟨_, rfl, p, c, _, rfl, dk, by decide, by decide, fun z H7 hz g7 => ⟨_, _, rfl, rfl, _, rfl, ite2 (fun _ => ?_) (fun _ => ?_)⟩⟩
      · exact ⟨_, rfl, p, c, rfl, g7.2, fun s H8 hs g8 => q _ (.str s) H8 (g7.trans g8) (.str s) (sm_th (sm_str hs.1 (by have := hs.2; omega)))⟩
      · refine ⟨_, rfl, mg_list (P := ThG) (n := 6) g7.2 (.cons ?_ (.cons (.cst .non ⟨false, .non, fun z => by cases z⟩) (.cons (.cst (.str _) (str_th (by decide +kernel) (by decide +kernel))) (.cons (.cst (.int _) (sm_th (sm_int (by decide) (by decide)))) (.cons (th_tup (.cons (cS _ (by decide +kernel) (by decide +kernel)) .nil) (by decide)) (.cons (oddM rfl) .nil)))))) (by decide) fun L' H8 g8 hL' => fromL (by decide) (by decide) (g7.trans g8) hL'⟩
        exact fun H1 s1 Q' q' => ⟨[97], 151, congrArg V.str (by decide +kernel), rfl, by decide, by decide, by decide, q' _ (.str _) _ (Gx.refl s1.2) (.str _) (str_th (by decide +kernel) (by decide +kernel))⟩
    | 2, _ =>
      refine sF (by decide +kernel) ⟨_, rfl, rfl, _, rfl, sT rfl ⟨_, rfl, p, c, _, rfl, dk, by decide, by decide, fun z H7 hz g7 => ⟨_, _, rfl, rfl, _, rfl, ite2 (fun _ => ?_) (fun _ => ?_)⟩⟩⟩
      · exact ⟨_, rfl, _, rfl, pickN g7 fun k H8 hk g8 => q _ (.int k) H8 (g7.trans g8) (.int _) (sm_th (sm_int (by omega) (by omega)))⟩
      · exact ⟨_, rfl, p, c, rfl, g7.2, fun v d H8 g8 hd hG => q v d H8 (g7.trans g8) hd (odd_th hG)⟩
    | 1, _ =>
      refine sF (by decide +kernel) ⟨_, rfl, rfl, _, rfl, sF (by decide +kernel) ⟨_, rfl, p, c, _, rfl, dk, by decide, by decide, fun z H7 hz g7 => ?_⟩⟩
      refine ⟨_, rfl, _, _, rfl, rfl, _, rfl, ite2 (fun _ => ?_) (fun _ => ?_)⟩
      · refine ⟨_, rfl, _, rfl, pickN g7 fun k H8 hk g8 => ⟨_, _, rfl, ?_⟩⟩
        obtain ⟨j, ej, hj⟩ : ∃ j : Nat, (if (k : Int) > 1 then (k : Int) else 1) = (j : Int) ∧ j ≤ 1000000001 := by
          split
          · exact ⟨k, rfl, hk⟩
          · exact ⟨1, rfl, by decide⟩
        rw [ej]
        refine ⟨_, rfl, p, c, rfl, g8.2, fun s H9 hs g9 => ⟨sz (Nat.le_of_ble_eq_true rfl), fun t ht => ?_⟩⟩
        have gn := Gx.new (o := .tup [.str (Str.ofString "answer"), .int (j : Int), .str s]) g9.2 ht
        refine q _ (.tuple [.str (Str.ofString "answer"), .int (j : Int), .str s]) _ (((g7.trans g8).trans g9).trans gn) (.tup (.new g9.2 ht) (.cons (.str _) (.cons (.int _) (.cons (.str _) .nil)))) ⟨false, (Gd.tup (n := 0) (b := 456) (.cons (b1 := 151) (b2 := 304) (sm_str (by decide +kernel) (by decide +kernel)) (.cons (b1 := 151) (b2 := 152) (sm_int (by omega) (by omega)) (.cons (b1 := 151) (b2 := 0) (sm_str hs.1 (by have := hs.2; omega)) .nil (by decide)) (by decide)) (by decide)) (Nat.le_of_ble_eq_true rfl)).mono (by decide) (by decide), fun _ => rfl⟩
      refine ⟨_, rfl, _, _, rfl, rfl, _, rfl, ite2 (fun _ => ?_) (fun _ => ?_)⟩
      · refine ⟨_, rfl, _, _, rfl, rfl, ⟨by decide, by decide, by decide⟩, sz (Nat.le_of_ble_eq_true rfl), fun a3 h3 => ⟨p, c, _, rfl, (Gx.new g7.2 h3).2, .inl ⟨a3, _, rfl, .new g7.2 h3, by decide, by decide, fun r x H8 hx g8 => ?_⟩⟩⟩
        obtain ⟨k, rfl, hk⟩ : ∃ k : Nat, x = .int (k : Int) ∧ k ≤ 1000000 := by
          match r, hx with
          | 0, e => exact ⟨1, (Option.some.inj e).symm, by decide⟩
          | 1, e => exact ⟨0, (Option.some.inj e).symm, by decide⟩
          | 2, e => exact ⟨7, (Option.some.inj e).symm, by decide⟩
          | 3, e => exact ⟨1000000, (Option.some.inj e).symm, by decide⟩
        refine ⟨sz (Nat.le_of_ble_eq_true rfl), fun t ht => ?_⟩
        have gn := Gx.new (o := .tup [.str (Str.ofString "hello"), .int (k : Int)]) g8.2 ht
        exact q _ (.tuple [.str (Str.ofString "hello"), .int (k : Int)]) _ (((g7.trans (Gx.new g7.2 h3)).trans g8).trans gn) (.tup (.new g8.2 ht) (.cons (.str _) (.cons (.int _) .nil))) ⟨false, (Gd.tup (n := 0) (b := 304) (.cons (b1 := 151) (b2 := 152) (sm_str (by decide +kernel) (by decide +kernel)) (.cons (b1 := 151) (b2 := 0) (sm_int (by omega) (by omega)) .nil (by decide)) (by decide)) (Nat.le_of_ble_eq_true rfl)).mono (by decide) (by decide), fun _ => rfl⟩
      refine ⟨_, rfl, _, _, rfl, rfl, _, rfl, ite2 (fun _ => ?_) (fun _ => ?_)⟩
      · refine ⟨_, rfl, _, rfl, pickN g7 fun k H8 hk g8 => ⟨sz (Nat.le_of_ble_eq_true rfl), fun t ht => ?_⟩⟩
        have gn := Gx.new (o := .tup [.str (Str.ofString "away"), .int (k : Int)]) g8.2 ht
        exact q _ (.tuple [.str (Str.ofString "away"), .int (k : Int)]) _ ((g7.trans g8).trans gn) (.tup (.new g8.2 ht) (.cons (.str _) (.cons (.int _) .nil))) ⟨false, (Gd.tup (n := 0) (b := 304) (.cons (b1 := 151) (b2 := 152) (sm_str (by decide +kernel) (by decide +kernel)) (.cons (b1 := 151) (b2 := 0) (sm_int (by omega) (by omega)) .nil (by decide)) (by decide)) (Nat.le_of_ble_eq_true rfl)).mono (by decide) (by decide), fun _ => rfl⟩
      refine seq_list g7.2 (P := ThG) (n := 8) (.cons (th_tup (.cons (cS _ (by decide +kernel) (by decide +kernel)) (.cons (cI 1 (by decide) (by decide)) (.cons (cI 1 (by decide) (by decide)) .nil))) (by decide)) (.cons (th_tup (.cons (cS _ (by decide +kernel) (by decide +kernel)) (.cons (cI 1 (by decide) (by decide)) .nil)) (by decide))
        (.cons (th_tup (.cons (cS _ (by decide +kernel) (by decide +kernel)) (.cons (cI 1 (by decide) (by decide)) (.cons (cS _ (by decide +kernel) (by decide +kernel)) .nil))) (by decide)) (.cons (th_tup (.cons (cS _ (by decide +kernel) (by decide +kernel)) .nil) (by decide)) (.cons (th_tup (.cons (cS _ (by decide +kernel) (by decide +kernel)) (.cons (cI 1 (by decide) (by decide)) (.cons (cI 1 (by decide) (by decide)) .nil))) (by decide))
        (.cons (th_tup (.cons (cS _ (by decide +kernel) (by decide +kernel)) (.cons (cI 1 (by decide) (by decide)) .nil)) (by decide)) (.cons (th_tup (.cons (cS _ (by decide +kernel) (by decide +kernel)) (.cons (fun H1 s1 Q q => ⟨1, rfl, q _ _ _ (Gx.refl s1.2) (.int _) (sm_int (by decide) (by decide))⟩) .nil)) (by decide))
        (.cons (th_tup (.cons (cS _ (by decide +kernel) (by decide +kernel)) (.cons (.cst .non .non) .nil)) (by decide)) .nil)))))))) (by decide) fun La H8 g8 hLa => ?_
      have cB : ∀ {σ : L2.St} {H' : Hp} (y : Bool), MG p c Sm0 (tC (.bl y)) σ H' := fun y => .cst (.bl y) .bl
      refine seq_cat (P := ThG) (n := 9) rfl hLa g8.2 (.cons (th_tup (.cons (cS _ (by decide +kernel) (by decide +kernel)) (.cons (cI 0 (by decide) (by decide)) (.cons (cS _ (by decide +kernel) (by decide +kernel)) .nil))) (by decide)) (.cons (th_tup (.cons (cS _ (by decide +kernel) (by decide +kernel)) (.cons (cI 1 (by decide) (by decide)) (.cons (cS _ (by decide +kernel) (by decide +kernel)) .nil))) (by decide))
        (.cons (th_tup (.cons (cS _ (by decide +kernel) (by decide +kernel)) (.cons (cI 1 (by decide) (by decide)) .nil)) (by decide)) (.cons (th_lst (.cons (cS _ (by decide +kernel) (by decide +kernel)) .nil) (by decide)) (.cons (.cst (.str _) (str_th (by decide +kernel) (by decide +kernel))) (.cons (oddM rfl)
        (.cons (th_tup (.cons (cS _ (by decide +kernel) (by decide +kernel)) (.cons (cB true) (.cons (cS _ (by decide +kernel) (by decide +kernel)) .nil))) (by decide)) (.cons (th_tup (.cons (cS _ (by decide +kernel) (by decide +kernel)) (.cons (cB true) .nil)) (by decide)) (.cons (th_tup (.cons (cS _ (by decide +kernel) (by decide +kernel)) (.cons (cB false) .nil)) (by decide)) .nil))))))))) (by decide) fun Lb H9 g9 hLb => ?_
      have g79 := (g7.trans g8).trans g9
      refine ⟨_, rfl, rfl, _, rfl, ite2 (fun _ => ?_) (fun _ => ⟨_, rfl, _, rfl, fromL (by decide) (by decide) g79 hLb⟩)⟩
      exact th_tup (k := 1) (.cons (cS _ (by decide +kernel) (by decide +kernel)) .nil) (by decide) H9 (Gx.refl g9.2) _ fun v d H' g hd ht => q v d H' (g79.trans g) hd ht
end
end Ag

end
/-! ## Q4 -/
section
set_option linter.all false
set_option maxRecDepth 100000
set_option maxHeartbeats 4000000
namespace Ag
open PySem PySem.Spec PyProof.Rows L2
open SX (S S_len S_cat S_inj)
theorem h66u {k : Nat} {A : Around} (hr : Room k A) : A.units + 66 < cLine := by have := hr.un; omega
theorem lo_ok {x : Vw} {m : Nat} (o : x.ok m) : intOk (loD (vwD x)) = true := by
  rw [lo_eq]
  obtain ⟨h, _⟩ := maxE_spec 0 ((x.an.map fun k => ((k : Nat) : Int)) ++ ensI x)
  have : 0 ≤ maxE 0 ((x.an.map fun k => ((k : Nat) : Int)) ++ ensI x) ∧ maxE 0 ((x.an.map fun k => ((k : Nat) : Int)) ++ ensI x) ≤ 1000000000 := by
    generalize maxE 0 ((x.an.map fun k => ((k : Nat) : Int)) ++ ensI x) = z at h
    rcases List.mem_cons.mp h with rfl | h
    · omega
    rcases List.mem_append.mp h with h | h
    · obtain ⟨k, hk, rfl⟩ := List.mem_map.mp h
      have := o.an9 k hk
      omega
    · have one : ∀ q : Option Nat, (∀ k, q = some k → k ≤ 1000000000) → z ∈ enI q → 0 ≤ z ∧ z ≤ 1000000000 := by
        intro q hq hz
        cases q with
        | none => cases hz
        | some j =>
          have := hq j rfl
          rw [List.mem_singleton.mp hz]
          omega
      rcases List.mem_append.mp h with h | h
      · exact one _ o.aw9 h
      · exact one _ o.up9 h
  simp only [intOk, Bool.and_eq_true, decide_eq_true_eq]
  omega
theorem hi_ok {x : Vw} (o : x.ok 40) : intOk (hiD (vwD x)) = true := by
  rw [hi_eq]
  obtain ⟨h, _⟩ := minE_spec (x.bs.length : Int) (ensI x)
  have l := o.l
  have : 0 ≤ minE (x.bs.length : Int) (ensI x) ∧ minE (x.bs.length : Int) (ensI x) ≤ 1000000000 := by
    generalize minE (x.bs.length : Int) (ensI x) = z at h
    rcases List.mem_cons.mp h with rfl | h
    · omega
    have one : ∀ q : Option Nat, (∀ k, q = some k → k ≤ 1000000000) → z ∈ enI q → 0 ≤ z ∧ z ≤ 1000000000 := by
      intro q hq hz
      cases q with
      | none => cases hz
      | some j =>
        have := hq j rfl
        rw [List.mem_singleton.mp hz]
        omega
    rcases List.mem_append.mp h with h | h
    · exact one _ o.aw9 h
    · exact one _ o.up9 h
  simp only [intOk, Bool.and_eq_true, decide_eq_true_eq]
  omega
section
variable {P : Program} {w : World} {K : PySem.W.Frag} {mg : Str → Option Value} {base : Heap} {tn tw tb : Tok}
def spTold : Sp := fun vs H Q _ => ∃ p c a b n a2 b2 n2 x, vs = [.ref a, .ref a2] ∧ Dk p c H ∧ VwA H a b n x ∧ VwA H a2 b2 n2 x ∧ x.ok 40 ∧ ∀ H', Same H H' → Q (.bl true) H'
theorem ok_told {f f1 f2 f3 f4 : Addr} {fd fd1 fd2 fd3 fd4 : FuncData} (F : Fn K mg "_law_is_told" s__law_is_told ["_law_view", "_law_told"] f fd) (B : Con mg tn tw tb) (F_bounds : Fn K mg "bounds" s_bounds ["view"] f1 fd1) (G_bounds : FnOk P w K mg base CX0 5 f1 fd1 ["view"] spBounds) (K_bounds_view : KwB K fd1 ["view"] ["view"] (fun u => u) (fun u => u))
    (F_fate : Fn K mg "fate" s_fate ["view", "number"] f2 fd2) (G_fate : FnOk P w K mg base CX0 6 f2 fd2 ["view", "number"] spFate) (K_fate_view_number : KwB K fd2 ["view", "number"] ["view", "number"] (fun u => u) (fun u => u))
    (F__law_low_high : Fn K mg "_law_low_high" s__law_low_high ["_law_view"] f3 fd3) (G__law_low_high : FnOk P w K mg base CX0 1 f3 fd3 ["_law_view"] spLH) (F__law_fate : Fn K mg "_law_fate" s__law_fate ["_law_view", "_law_n"] f4 fd4) (G__law_fate : FnOk P w K mg base CX0 2 f4 fd4 ["_law_view", "_law_n"] spLFate) :
    FnG P w K mg base 7 f fd ["_law_view", "_law_told"] spTold := by
  refine okG F.F sc__law_is_told (fun vs H Q E h => ?_) (fun cdv A outer s H vs Q E hr hG h => ?_)
  · obtain ⟨p, c, a, b, n, a2, b2, n2, x, rfl, _⟩ := h
    rfl
  · obtain ⟨p, c, a, b, n, a2, b2, n2, x, rfl, dk, v1, v2, ok, q⟩ := h
    refine ⟨_, (pss_cons (ps_if (PW.pt (pw_or (pt_cmpR op_ne (pe_callB (call_repr_any (h66u hr) hG) (by rfl) B.n_repr (by decide +kernel) (pa_cons (pv 1) pa_nil)) (pe_callB (call_repr_any (h66u hr) hG) (by rfl) B.n_repr (by decide +kernel) (pa_cons (pv 0) pa_nil)) (nomark _)) (pw_or1 (pt_cmpR op_ne (pe_callB (call_repr_any (h66u hr) hG) (by rfl) B.n_repr (by decide +kernel) (pa_cons (pe_tup (pa_cons (pe_call G_bounds (hr.mono (by decide)) (by rfl) F_bounds.g F_bounds.F.kp F_bounds.b .nil pass0 (pa_cons (pv 1) pa_nil)) (pa_cons (pe_callKwG (FnG.of G_bounds) (hr.mono (by decide)) hG (by rfl) F_bounds.g F_bounds.F.kp K_bounds_view (pk_cons (pv 1) pk_nil)) pa_nil))) pa_nil)) (pe_callB (call_repr_any (h66u hr) hG) (by rfl) B.n_repr (by decide +kernel) (pa_cons (pe_op op_repT (pe_tup (pa_cons (pe_call G__law_low_high (hr.mono (by decide)) (by rfl) F__law_low_high.g F__law_low_high.F.kp F__law_low_high.b .nil pass0 (pa_cons (pv 0) pa_nil)) pa_nil)) pe_int) pa_nil)) (nomark _)))))
      (pss_one (ps_ret pe_bl))
      pss_nil)
      (pss_cons (ps_for PassesOwn.never rfl (pi_range2 (by rfl) B.n_range (pa_cons pe_int (pa_cons (pe_op op_add (pe_callB call_len (by rfl) B.n_len PySem.boot_len (pa_cons (pe_ix ix_tup (pv 0) pe_int (fun _ _ => rfl)) pa_nil)) pe_int) pa_nil))) (pg_name (i := 2) sc__law_is_told.nd rfl (Or.inl rfl))
      (pss_one (ps_if (pt_cmpR op_ne (pe_callB (call_repr_any (h66u hr) hG) (by rfl) B.n_repr (by decide +kernel) (pa_cons (pe_callKwG (FnG.of G_fate) (hr.mono (by decide)) hG (by rfl) F_fate.g F_fate.F.kp K_fate_view_number (pk_cons (pv 1) (pk_cons (pv 2) pk_nil))) pa_nil)) (pe_callB (call_repr_any (h66u hr) hG) (by rfl) B.n_repr (by decide +kernel) (pa_cons (pe_call G__law_fate (hr.mono (by decide)) (by rfl) F__law_fate.g F__law_fate.F.kp F__law_fate.b .nil pass0 (pa_cons (pv 0) (pa_cons (pv 2) pa_nil))) pa_nil)) (nomark _))
        (pss_one (ps_ret pe_bl))
        pss_nil)))
      (pss_one (ps_ret pe_bl)))), ?_⟩
    have ft := (ok.gd false).fit (by decide) (by decide)
    refine ⟨_, rfl, _, vwD x, p, c, rfl, v2.dg dk, ft.1, ft.2.1, ft.2.2.1, ft.2.2.2, _, rfl, _, vwD x, p, c, rfl, v1.dg dk, ft.1, ft.2.1, ft.2.2.1, ft.2.2.2, rfl, _, rfl, ?_⟩
    rw [decide_eq_true rfl]
    refine iteF ?_
    have tw := fun t1 t2 => Gd.tup (q := false) (n := 1) (b := 200) (.cons (b1 := 20) (b2 := 100) (Gd.tup (n := 0) (b := 20) (.cons (b1 := 0) (b2 := 10) (.int (lo_ok ok)) (.cons (b1 := 0) (b2 := 0) (.int (hi_ok ok)) .nil (by decide)) (by decide)) t1) (.cons (b1 := 20) (b2 := 0) (Gd.tup (n := 0) (b := 20) (.cons (b1 := 0) (b2 := 10) (.int (lo_ok ok)) (.cons (b1 := 0) (b2 := 0) (.int (hi_ok ok)) .nil (by decide)) (by decide)) t1) .nil (by decide)) (by decide)) t2
    have f2 := (tw (Nat.le_of_ble_eq_true rfl) (Nat.le_of_ble_eq_true rfl)).fit (by decide) (by decide)
    clear tw
    refine ⟨_, rfl, p, c, _, _, false, _, _, rfl, v2.dg dk, ok.gd false, ok.v, fun H1 t1 s1 ht1 => ?_⟩
    have v1 := v1.to (.of s1)
    have v2 := v2.to (.of s1)
    have dk := dk.same s1
    refine ⟨_, rfl, rfl, p, c, _, _, false, _, _, rfl, v2.dg dk, ok.gd false, ok.v, fun H2 t2 s2 ht2 => ⟨sz (Nat.le_of_ble_eq_true rfl), fun u hu => ?_⟩⟩
    have s12 := same_new (o := .tup [.ref t1, .ref t2]) hu
    have dk2 := (dk.same s2).same s12
    have e12 : upd H2 u (.tup [.ref t1, .ref t2]) u = some (.tup [.ref t1, .ref t2]) := upd_same
    have ht1' := s12 _ _ (s2 _ _ ht1)
    have ht2' := s12 _ _ ht2
    have v1 := v1.to (.of (s2.trans s12))
    have v2 := v2.to (.of (s2.trans s12))
    have s3 := (s1.trans s2).trans s12
    generalize upd H2 u (.tup [.ref t1, .ref t2]) = H3 at dk2 e12 ht1' ht2' v1 v2 s3 ⊢
    have dT : ∀ {H' : Hp} {t : Addr}, Dk p c H' → H' t = some (.tup [.int (loD (vwD x)), .int (hiD (vwD x))]) → Dg p c H' (.ref t) (.tuple [.int (loD (vwD x)), .int (hiD (vwD x))]) := fun d e => .tup (d.tp e) (.cons (.int _) (.cons (.int _) .nil))
    refine ⟨_, _, p, c, rfl, .tup (dk2.tp e12) (.cons (dT dk2 ht1') (.cons (dT dk2 ht2') .nil)), f2.1, f2.2.1, f2.2.2.1, f2.2.2.2, ?_⟩
    refine ⟨_, rfl, a, b, n, x, rfl, v1, ok, fun t3 H4 s4 ht3 => ⟨sz (Nat.le_of_ble_eq_true rfl), fun u2 hu2 => ?_⟩⟩
    have s5 := s4.trans (same_new (o := .tup [.ref t3]) hu2)
    have e5 : upd H4 u2 (.tup [.ref t3]) u2 = some (.tup [.ref t3]) := upd_same
    have ht3 := same_new (o := .tup [.ref t3]) hu2 _ _ ht3
    generalize upd H4 u2 (.tup [.ref t3]) = H5 at s5 e5 ht3 ⊢
    refine ⟨u2, 2, _, rfl, rfl, SqT.of e5, by simp, by decide, by decide, Nat.le_of_ble_eq_true rfl, fun r hr => ?_⟩
    have s6 := s5.trans (same_new (o := .tup (List.replicate (2 : Int).toNat [V.ref t3]).flatten) hr)
    have e6 : upd H5 r (.tup (List.replicate (2 : Int).toNat [V.ref t3]).flatten) r = some (.tup [.ref t3, .ref t3]) := upd_same
    have ht3 := same_new (o := .tup (List.replicate (2 : Int).toNat [V.ref t3]).flatten) hr _ _ ht3
    generalize upd H5 r (.tup (List.replicate (2 : Int).toNat [V.ref t3]).flatten) = H6 at s6 e6 ht3 ⊢
    have dk6 := dk2.same s6
    refine ⟨_, _, p, c, rfl, .tup (dk6.tp e6) (.cons (dT dk6 ht3) (.cons (dT dk6 ht3) .nil)), f2.1, f2.2.1, f2.2.2.1, f2.2.2.2, rfl, _, rfl, ?_⟩
    rw [decide_eq_true rfl]
    refine iteF ?_
    have v1 := v1.to (.of s6)
    have v2 := v2.to (.of s6)
    have s6 := s3.trans s6
    have bl : (bsV x.bs).length = x.bs.length := by unfold bsV; rw [List.length_map]
    have o1 := ok.l
    refine ⟨_, rfl, a, _, _, _, rfl, rfl, SqT.of v1.a, atI_nat (j := 2) rfl, .ref b, _, rfl, .inr ⟨_, SqT.of v1.b, rfl⟩, _, _, rfl, rfl, 1, _, rfl, ⟨by decide, by decide, by rw [bl]; omega, by rw [bl]; omega⟩, ?_⟩
    rw [bl]
    refine for_range (lo := 1) (n := ((x.bs.length : Int) + 1 - 1).toNat) (fun _ σ H' => ∃ x2, σ = [some (.ref a), some (.ref a2), x2] ∧ Same H6 H') ⟨_, rfl, Same.refl _⟩ ?_ ?_
    · rintro j σ H7 hj ⟨x2, rfl, s7⟩
      have hk : (1 : Int) + (j : Int) = ((j + 1 : Nat) : Int) := by omega
      rw [hk]
      have fs : ∀ q : Bool, Gd q (.str (fateS (loD (vwD x)) (hiD (vwD x)) ((j + 1 : Nat) : Int))) 0 20 := fun q => by
        unfold fateS
        split
        · exact .str (by decide +kernel) (by decide +kernel)
        · split
          · exact .str (by decide +kernel) (by decide +kernel)
          · exact .str (by decide +kernel) (by decide +kernel)
      have f3 := (fs false).fit (by decide) (by decide)
      refine ⟨_, rfl, _, rfl, rfl, p, c, a2, b2, n2, x, j + 1, rfl, dk6.same s7, v2.to (.of s7), ok, by omega, by omega, fun H8 s8 => ?_⟩
      refine ⟨_, _, p, c, rfl, .str _, f3.1, f3.2.1, f3.2.2.1, f3.2.2.2, _, rfl, _, rfl, a, b, n, x, j + 1, rfl, (v1.to (.of s7)).to (.of s8), ok, fun H9 s9 => ?_⟩
      refine ⟨_, _, p, c, rfl, .str _, f3.1, f3.2.1, f3.2.2.1, f3.2.2.2, rfl, _, rfl, ?_⟩
      rw [decide_eq_true rfl]
      exact iteF ⟨_, rfl, (s7.trans s8).trans s9⟩
    · rintro σ H7 ⟨x2, rfl, s7⟩
      exact q H7 (s6.trans s7)
end
end Ag

end
/-! ## Pw -/
section
set_option linter.all false
set_option maxRecDepth 100000
namespace Ag
open PySem PySem.Spec PyProof.Rows L2
/-! ### lists of pairs (a word, whether it is so) -/
inductive PsA (H : Hp) : List V → List (Str × Bool) → Prop
  | nil : PsA H [] []
  | cons {t : Addr} {s : Str} {b : Bool} {vs : List V} {ps : List (Str × Bool)} (at_ : H t = some (.tup [.str s, .bl b])) (r : PsA H vs ps) : PsA H (.ref t :: vs) ((s, b) :: ps)
section
variable {H H' : Hp} {vs ws : List V} {ps qs : List (Str × Bool)}
theorem PsA.to (h : PsA H vs ps) (s : Same H H') : PsA H' vs ps := by
  induction h with
  | nil => exact .nil
  | cons a _ ih => exact .cons (s _ _ a) ih
theorem PsA.app (h : PsA H vs ps) (k : PsA H ws qs) : PsA H (vs ++ ws) (ps ++ qs) := by
  induction h with
  | nil => exact k
  | cons a _ ih => exact .cons a ih
theorem PsA.len (h : PsA H vs ps) : vs.length = ps.length := by
  induction h with
  | nil => rfl
  | cons _ _ ih => exact congrArg (· + 1) ih
theorem PsA.get (h : PsA H vs ps) : ∀ {i : Nat} {v : V}, vs[i]? = some v → ∃ t s b, v = .ref t ∧ ps[i]? = some (s, b) ∧ H t = some (.tup [.str s, .bl b]) := by
  induction h with
  | nil => intro i v e; simp at e
  | @cons t s b _ _ a _ ih =>
    intro i v e
    cases i with
    | zero => exact ⟨t, s, b, (by simpa using e.symm), rfl, a⟩
    | succ j => exact ih (i := j) (by simpa using e)
theorem PsA.put {D : Addr} {xs ys : List V} (h : PsA H vs ps) (e : H D = some (.lst xs)) : PsA (upd H D (.lst ys)) vs ps := by
  induction h with
  | nil => exact .nil
  | @cons t _ _ _ _ a _ ih =>
    refine .cons ?_ ih
    rw [upd_ne fun z => ?_]
    · exact a
    · rw [z, e] at a; cases a
end
theorem sel_at {α : Type} (l : List α) (p : α → Bool) (f : α → V) (d : α) : ((List.range l.length).filter fun i => p (l.getD i d)).map (fun i => f (l.getD i d)) = (l.filter p).map f := by
  induction l with
  | nil => rfl
  | cons a l ih =>
    rw [List.length_cons, List.range_succ_eq_map, List.filter_cons, List.filter_map, List.filter_cons]
    have e : (l.filter p).map f = ((List.range l.length).filter ((fun i => p ((a :: l).getD i d)) ∘ Nat.succ)).map ((fun i => f ((a :: l).getD i d)) ∘ Nat.succ) := ih.symm
    show List.map _ (if p a = true then 0 :: _ else _) = _
    cases h : p a
    · rw [if_neg (by decide), if_neg (by decide), List.map_map, e]
    · rw [if_pos rfl, if_pos rfl, List.map_cons, List.map_cons, List.map_map, e]
      rfl
section
variable {K : PySem.W.Frag} {a D : Addr} {H1 : Hp} {vs : List V} {ps : List (Str × Bool)} {gt : TG} {tt : TT} {te : TE} {sl : List Nat} {σ : L2.St} {Qd : Hp → Prop}
/-- [word for word, is_it in words if is_it] -/
theorem lc_words (h : PsA H1 vs ps) (hq : H1 a = some (.lst vs)) (hn : vs.length ≤ 16000000) (hD : H1 D = none)
    (hs : ∀ t s b H (k : VK) (k0 : Hp → Prop), H t = some (.tup [.str s, .bl b]) → (b = true → k (.str s) H) → (b = false → k0 H) → gt (.ref t) (wipe σ sl) H fun σ2 H2 => wipe σ2 sl = wipe σ sl ∧ tt σ2 H2 fun b H3 => if b = true then te σ2 H3 k else k0 H3)
    (hd : ∀ H, Same H1 H → H D = some (.lst ((ps.filter (·.2)).map fun p => .str p.1)) → Qd H) :
    ∃ W : Nat → Nat → Hp → Prop, (∃ m, W 0 m (upd H1 D (.lst []))) ∧ ∀ i m H, W i m H →
      ((Itl K a).stop i H ∧ Qd H) ∨ ((Itl K a).go i H ∧ ∃ Nx : Hp → Prop, (∀ H', Nx H' → ∃ m', m' < m ∧ W (i + 1) m' H') ∧ ∀ x H', (Itl K a).yld i H x H' → gt x (wipe σ sl) H' fun σ2 H2 => wipe σ2 sl = wipe σ sl ∧ tt σ2 H2 fun b H3 =>
        if b = true then te σ2 H3 fun y H4 => ∃ acc, H4 D = some (.lst acc) ∧ acc.length < sizeLine ∧ Nx (upd H4 D (.lst (acc ++ [y]))) else Nx H3) := by
  refine lc_sel (walk_list (K := K) (a := a) (xs := vs)) (fun i => (ps.getD i (Str.ofString "", false)).2) (fun i => .str (ps.getD i (Str.ofString "", false)).1) hn hD (fun H' s => SqL.of (s _ _ hq)) ?_ fun H2 s2 h2 => hd H2 s2 ?_
  · rintro j y H2 H3 k k0 hi s1 ⟨rfl, hy⟩ hk hk0
    obtain ⟨t, s, b, rfl, e, ea⟩ := h.get hy
    rw [List.getD_eq_getElem?_getD, e] at hk hk0
    exact hs t s b _ k k0 (s1 _ _ ea) (fun z => hk z _ (Same.refl _)) fun z => hk0 z _ (Same.refl _)
  · rw [h2, h.len, sel_at ps (fun p => p.2) (fun p => .str p.1)]
/-- [(word, is_it) for word, is_it in words if is_it] -/
theorem lc_pairs (h : PsA H1 vs ps) (hq : H1 a = some (.lst vs)) (hn : vs.length ≤ 16000000) (hD : H1 D = none)
    (hs : ∀ t s b H (k : VK) (k0 : Hp → Prop), Same H1 H → H t = some (.tup [.str s, .bl b]) → (b = true → ∀ T, H T = none → k (.ref T) (upd H T (.tup [.str s, .bl true]))) → (b = false → k0 H) → gt (.ref t) (wipe σ sl) H fun σ2 H2 => wipe σ2 sl = wipe σ sl ∧ tt σ2 H2 fun b H3 => if b = true then te σ2 H3 k else k0 H3)
    (hd : ∀ H ws, Same H1 H → H D = some (.lst ws) → PsA H ws (ps.filter (·.2)) → Qd H) :
    ∃ W : Nat → Nat → Hp → Prop, (∃ m, W 0 m (upd H1 D (.lst []))) ∧ ∀ i m H, W i m H →
      ((Itl K a).stop i H ∧ Qd H) ∨ ((Itl K a).go i H ∧ ∃ Nx : Hp → Prop, (∀ H', Nx H' → ∃ m', m' < m ∧ W (i + 1) m' H') ∧ ∀ x H', (Itl K a).yld i H x H' → gt x (wipe σ sl) H' fun σ2 H2 => wipe σ2 sl = wipe σ sl ∧ tt σ2 H2 fun b H3 =>
        if b = true then te σ2 H3 fun y H4 => ∃ acc, H4 D = some (.lst acc) ∧ acc.length < sizeLine ∧ Nx (upd H4 D (.lst (acc ++ [y]))) else Nx H3) := by
  have put : ∀ (H : Hp) (o : HO), Same H1 H → Same H1 (upd H D o) := fun H o s b u eb => by
    rw [upd_ne (ne_of_none eb hD)]
    exact s b u eb
  refine lc_it (g := gt) (tt := tt) (te := te) (vs := sl) (σ := σ) (walk_list (K := K) (a := a) (xs := vs)) (fun i H => Same H1 H ∧ ∃ ws, H D = some (.lst ws) ∧ ws.length ≤ i ∧ PsA H ws ((ps.take i).filter (·.2))) ⟨put _ _ (Same.refl _), [], upd_same, Nat.le_refl _, .nil⟩ (fun i H _ p => SqL.of (p.1 _ _ hq)) ?_ ?_
  · rintro i x H H' hi ⟨s1, ws, hw, lw, pw⟩ ⟨rfl, hx⟩
    obtain ⟨t, s, b, rfl, e, ea⟩ := h.get hx
    have tk : ps.take (i + 1) = ps.take i ++ [(s, b)] := by rw [List.take_succ, e]; rfl
    refine hs t s b _ _ _ s1 (s1 _ _ ea) (fun z T hT => ?_) fun z => ⟨s1, ws, hw, Nat.le_succ_of_le lw, ?_⟩
    · have ne : D ≠ T := ne_of_none hw hT
      have hw' : upd H' T (.tup [.str s, .bl true]) D = some (.lst ws) := by rw [upd_ne ne]; exact hw
      refine ⟨ws, hw', by rw [sizeLine_eq]; omega, put _ _ (s1.trans (same_new hT)), ws ++ [.ref T], upd_same, by simp; omega, ?_⟩
      rw [tk, List.filter_append, z]
      exact ((pw.to (same_new hT)).put hw').app (.cons (by rw [upd_ne (Ne.symm ne), upd_same]) .nil)
    · rw [tk, List.filter_append, z]
      simpa using pw
  · rintro H ⟨s1, ws, hw, _, pw⟩
    refine hd H ws s1 hw ?_
    rw [h.len, List.take_length] at pw
    exact pw
end
end Ag

end
/-! ## XH -/
section
set_option linter.all false
set_option maxRecDepth 100000
set_option maxHeartbeats 2000000
namespace Ag
open PySem PySem.Spec PyProof.Rows L2 HotX
/-! ### the end of a walk while an exception is handled -/
section
variable {prog : Program} {w : World} {A : Around} {E : Value → Shared → Prop} {s : Shared} {it x1 : Addr}
/-- no item is left: the iterator lets its thing go, StopIteration is raised and heard -/
theorem stop_hot {α : Type} {oi : Obj} {vi : Array Value} {Q : α → Shared → Prop} {K : Value → Shared → Prop} (hot : HotAt A x1 s.heap) (apart : x1 ≠ it) (hi : s.heap.get? it = some oi) (di : oi.data = .fields vi) (n0 : 0 < vi.size)
    (k : ∀ a h', Heap.ExtBut it s.heap h' → (∃ o, h'.get? a = some o ∧ o.cls = .type "StopIteration") → K (.ref a) { s with heap := h' }) :
    wpAny (model prog w) A (do setField (.ref it) 0 .none; raiseNew (← newExc (.type "StopIteration") []) : Sem α) Q K s := by
  obtain ⟨hh, o1, v1, g1, d1, c1⟩ := hot
  refine wpAny_bind (wpAny_setField hi di n0 ?_)
  have g2 : (s.heap.update it (Obj.mapFields (·.setIfInBounds 0 Value.none))).get? x1 = some o1 := (Heap.get?_update_other _ _ (Ne.symm apart)).trans g1
  have e2 : Heap.ExtBut it s.heap (s.heap.update it (Obj.mapFields (·.setIfInBounds 0 Value.none))) := (Heap.SameBut.update ..).extBut
  generalize s.heap.update it (Obj.mapFields (·.setIfInBounds 0 Value.none)) = h2 at g2 e2 ⊢
  refine wpAny_bind ?_
  simp only [newExc, newTuple]; refine wpAny_bind (wpAny_newObj_type ?_ (by size_fits))
  refine wpAny_bind (m := firstArgMember _ _) (wpAny_of_eq (a := Value.none) (by first | rfl | (simp only [firstArgMember]; rfl)) ?_); refine wpAny_newObj_type ?_ (by size_fits)
  have g3 : ∀ {p q : Obj}, ((h2.push p).push q).get? x1 = some o1 := fun {p q} => Heap.get?_push_of_some _ (Heap.get?_push_of_some _ g2)
  refine raiseNew_hot (oe := _) ⟨hh, o1, v1, g3, d1, c1⟩ (Nat.ne_of_lt (Heap.lt_size (Heap.get?_push_of_some _ g2))) (Heap.get?_push_size _ rfl) rfl (by first | (simp; done) | (simp; omega) | (simp only [Array.size_append]; simp; omega)) (k _ _ (fun b o nb z => ?_) ⟨_, Heap.get?_update_self _ (Heap.get?_push_size _ rfl) rfl, rfl⟩)
  have z2 := e2 b o nb z
  exact (Heap.get?_update_other _ _ (Nat.ne_of_gt (Heap.lt_size (Heap.get?_push_of_some _ z2)))).trans (Heap.get?_push_of_some _ (Heap.get?_push_of_some _ z2))
theorem tup_end_hot {t : Addr} {n : Nat} {xs : Array Value} {Q : Option Value → Shared → Prop} (hot : HotAt A x1 s.heap) (apart : x1 ≠ it) (hit : IsTupIter s.heap it t n) (ht : IsTup s.heap t xs) (hn : xs[n]? = none)
    (k : ∀ h', Heap.ExtBut it s.heap h' → Q none { s with heap := h' }) : wpAny (model prog w) A (pyNext (.ref it)) Q E s := by
  obtain ⟨oi, g1, c1, d1⟩ := id hit
  obtain ⟨ot, g2, _, nt, d2⟩ := ht
  have f0 := fun {Q : Value → Shared → Prop} {E : Value → Shared → Prop} (q : Q (.ref t) s) => wpAny_field (M := model prog w) (A := A.in1) (E := E) (i := 0) g1 d1 (x := .ref t) rfl q
  have f1 := fun {Q : Value → Shared → Prop} {E : Value → Shared → Prop} (q : Q (.int n 0) s) => wpAny_field (M := model prog w) (A := A.in1) (E := E) (i := 1) g1 d1 (x := .int n 0) rfl q
  have f2 := fun {Q : Option (Array Value) → Shared → Prop} {E : Value → Shared → Prop} (q : Q (some xs) s) => wpAny_seqItems (M := model prog w) (A := A.in1) (E := E) g2 d2 q
  unfold pyNext
  refine wpAny_bind (wpAny_attempt (wpAny_callSpecial?_slot (name := Str.ofString "__next__") hit.typeIs slot_tupleiter_next (wpAny_call_entry slot_tupleiter_next hit.typeIs entry_tupleiter_next ?_ (args_tupleiter_next _))))
  show wpAny _ _ (field (.ref it) 0 >>= _) _ _ s; refine wpAny_bind (f0 ?_)
  show wpAny _ _ (if (Value.ref t == Value.none) = true then _ else _) _ _ s; rw [if_neg (show ¬ ((Value.ref t == Value.none) = true) from Bool.false_ne_true)]
  show wpAny _ _ (field (.ref it) 1 >>= _) _ _ s; refine wpAny_bind (f1 ?_)
  show wpAny _ _ (seqItems? (.ref t) >>= _) _ _ s; refine wpAny_bind (f2 ?_)
  simp only [Int.toNat_natCast, hn]; refine wpAny_bind (wpAny_rule ?_)
  refine stop_hot (A := A.in1) ⟨hot.1, hot.2⟩ apart g1 d1 (by simp) fun a h' eb ⟨o, z, c⟩ => ?_
  refine wpAny_bind (wpAny_isInstance (T := "StopIteration") (b := true) ⟨o, z, c⟩ isSubtype_stop (wpAny_pure (k h' eb)))
theorem lst_end_hot {l : Addr} {n : Nat} {xs : Array Value} {Q : Option Value → Shared → Prop} (hot : HotAt A x1 s.heap) (apart : x1 ≠ it) (hit : s.heap.IsListIter it l n) (hl : s.heap.IsList l xs) (hn : xs[n]? = none)
    (k : ∀ h', Heap.ExtBut it s.heap h' → Q none { s with heap := h' }) : wpAny (model prog w) A (pyNext (.ref it)) Q E s := by
  obtain ⟨oi, g1, c1, d1⟩ := id hit
  obtain ⟨ol, g2, _, nl, d2⟩ := hl
  have f0 := fun {Q : Value → Shared → Prop} {E : Value → Shared → Prop} (q : Q (.ref l) s) => wpAny_field (M := model prog w) (A := A.in1) (E := E) (i := 0) g1 d1 (x := .ref l) rfl q
  have f1 := fun {Q : Value → Shared → Prop} {E : Value → Shared → Prop} (q : Q (.int n 0) s) => wpAny_field (M := model prog w) (A := A.in1) (E := E) (i := 1) g1 d1 (x := .int n 0) rfl q
  have f2 := fun {Q : Option (Array Value) → Shared → Prop} {E : Value → Shared → Prop} (q : Q (some xs) s) => wpAny_seqItems (M := model prog w) (A := A.in1) (E := E) g2 d2 q
  unfold pyNext
  refine wpAny_bind (wpAny_attempt (wpAny_callSpecial?_slot (name := Str.ofString "__next__") hit.typeIs slot_listiter_next (wpAny_call_entry slot_listiter_next hit.typeIs entry_listiter_next ?_ (args_listiter_next _))))
  show wpAny _ _ (field (.ref it) 0 >>= _) _ _ s; refine wpAny_bind (f0 ?_)
  show wpAny _ _ (if (Value.ref l == Value.none) = true then _ else _) _ _ s; rw [if_neg (show ¬ ((Value.ref l == Value.none) = true) from Bool.false_ne_true)]
  show wpAny _ _ (field (.ref it) 1 >>= _) _ _ s; refine wpAny_bind (f1 ?_)
  show wpAny _ _ (seqItems? (.ref l) >>= _) _ _ s; refine wpAny_bind (f2 ?_)
  simp only [Int.toNat_natCast, hn]; refine wpAny_bind (wpAny_rule ?_)
  refine stop_hot (A := A.in1) ⟨hot.1, hot.2⟩ apart g1 d1 (by simp) fun a h' eb ⟨o, z, c⟩ => ?_
  refine wpAny_bind (wpAny_isInstance (T := "StopIteration") (b := true) ⟨o, z, c⟩ isSubtype_stop (wpAny_pure (k h' eb)))
end
end Ag

end
/-! ## XL -/
section
set_option linter.all false
set_option maxRecDepth 100000
set_option maxHeartbeats 2000000
namespace Ag
open PySem PySem.Spec PyProof.Rows L2
/-! ### a comprehension whose block may raise -/
/-- behind the loop; an exception goes on through the very frame that it came through -/
def Bhd (M : Model) (A : Around) (E : Value → Shared → Prop) (use : Option (Value → Sem Unit)) (Q : Value → Shared → Prop) (acc : Value) (ce : Env) (r : Result) (s : Shared) : Prop :=
  match r with
  | .ok f => compPost M A E use Q acc ce.locals (.ok f) s
  | .error x => ∃ m, s.heap.Ns ce.locals m ∧ ∀ h', Heap.SameBut ce.locals s.heap h' → wpAny M A (passOn "comprehension.variables-let-go" x ce : Sem Value) (fun _ _ => False) E { s with heap := h' }
section
variable {M : Model} {A : Around} {E : Value → Shared → Prop} {s : Shared} {env : Env}
theorem comp_bhd {e : Expr} {scope : Scope} {pos : Pos} {mk ahead : Sem Value} {g : Comprehension} {more : List Comprehension} {cl : List (Str × Addr)} {use : Option (Value → Sem Unit)} {Q : Value → Shared → Prop}
    (c1 : clausesOf e = g :: more) (c2 : ∀ x, foldedSetIterable g.iter env x = pure x) (c3 : closureFor scope env = pure cl) (c4 : scope.kind = .function) (c5 : ∀ y ∈ scope.names, y.2 = .local → scope.names.lookup y.1 = some .local)
    (run : wpAny M A ahead (fun x s1 => wpAny M A (pyIter x) (fun it s2 => wpAny M A mk (fun acc s3 => wpAny M A (newFunctionEnv scope env.globals cl [] env.qual none .none (some env))
      (fun ce s4 => codeAny M A (.compStart e 0 it acc { ce with scope := relabel scope env }) (Bhd M A E use Q acc { ce with scope := relabel scope env }) s4) E s3) E s2) E s1) E s) :
    wpAny M A (comprehension e scope env pos mk false ahead use) Q E s := by
  have id1 : ∀ {α : Type} {t : Sem α} {P P' : α → Shared → Prop} {u : Shared}, wpAny M A t P E u → (∀ a v, P a v → P' a v) → wpAny M A t P' E u := fun h k => wpAny_mono h k fun _ _ z => z
  unfold comprehension
  rw [c3, c1]
  refine wpAny_bind (id1 run fun x s1 r1 => ?_)
  refine wpAny_bind (wpAny_standAt (wpAny_bind (wpAny_of_eq (c2 x) (wpAny_bind (wpAny_holding (id1 r1 fun it s2 r2 => ?_))))))
  refine wpAny_standIf (wpAny_bind (id1 r2 fun acc s3 r3 => ?_))
  refine wpAny_bind (wpAny_pure (wpAny_bind (id1 r3 fun ce s4 r4 => ?_)))
  dsimp only
  generalize hv : (scope.names.filter fun x => (x.2 == .local || x.2 == .cell) && x.1 != (".0" : Str)).reverse = vars
  have inn : ∀ y ∈ vars, y.2 = .local → Env.kindOf { ce with scope := relabel scope env } y.1 = some .local := fun y hy hl => by
    rw [← hv] at hy
    exact lookup_relabel_local (c5 y (List.mem_filter.mp (List.mem_reverse.mp hy)).1 hl)
  refine wpAny_holding (wpAny_bind (wpAny_attempt (wpAny_holding (wpAny_run (codeAny_mono r4 fun r s5 r5 => ?_)))))
  match r, r5 with
  | .error x, ⟨m, n5, go⟩ =>
    refine wpAny_bind (wpAny_holding (wpAny_comp_letGo (cenv := { ce with scope := relabel scope env }) c4 _ s5 m inn n5 fun h6 _ _ sb => ?_))
    exact wpAny_mono (go h6 sb) (fun _ _ z => z.elim) fun _ _ z => z
  | .ok f, ok5 =>
    match use, ok5 with
    | none, ⟨m, n5, go⟩ => exact wpAny_bind (wpAny_holding (wpAny_comp_letGo (cenv := { ce with scope := relabel scope env }) c4 _ s5 m inn n5 fun h6 _ _ sb => wpAny_pure (go h6 sb)))
    | some u, go =>
      refine wpAny_bind (wpAny_rule (wpAny_bind (wpAny_holding (id1 go fun _ s6 r6 => ?_))))
      obtain ⟨m, n6, go⟩ := r6
      refine wpAny_bind (wpAny_comp_letGo (cenv := { ce with scope := relabel scope env }) c4 _ s6 m (fun y hy hl => inn y ?_ hl) n6 fun h7 _ _ sb => wpAny_pure (go h7 sb))
      rcases List.mem_append.mp hy with z | z
      · exact List.mem_of_mem_drop z
      · exact List.mem_of_mem_take z
end
end Ag

end
/-! ## XL2 -/
section
set_option linter.all false
set_option maxRecDepth 100000
set_option maxHeartbeats 2000000
namespace Ag
open PySem PySem.Spec PyProof.Rows L2
/-! ### what a comprehension walks, where more may be known of the context than that it is calm -/
structure Trn (ok : Cx → Prop) (P : Program) (w : World) (K : PySem.W.Frag) (tg : Expr) (J : It) (fp : List Addr) (it : Addr) (tn : Nat → Heap → Prop) : Prop where
  objs : ∀ n h, tn n h → ∀ b ∈ fp, ∃ o, h.get? b = some o ∧ ∀ v, o.data ≠ .cell v
  stay : ∀ n h h', tn n h → (∀ b ∈ fp, ∀ o, h.get? b = some o → h'.get? b = some o) → tn n h'
  give : ∀ (X : Cx) (n : Nat) (pins : List (Addr × Obj)) (s : Shared) (σ : L2.St) (H : Hp) (E : Value → Shared → Prop), X.prog = P → X.w = w → X.K = K → ok X → Inv X pins σ H s → (∀ b ∈ fp, FpOk X pins H b) → tn n s.heap → J.go n H →
    wpAny (model P w) X.A (pyNext (.ref it)) (fun r s1 => ∃ u, r = some u ∧
      wpAny (model P w) X.A (letOwnedTupleGo tg (.ref it) u) (fun _ s2 => ∃ x H', Inv X pins σ H' s2 ∧ RelV x u ∧ J.yld n H x H' ∧ tn (n + 1) s2.heap ∧ ∀ b ∈ fp, H' b = none) E s1) E s
  over : ∀ (X : Cx) (n : Nat) (pins : List (Addr × Obj)) (s : Shared) (σ : L2.St) (H : Hp) (E : Value → Shared → Prop), X.prog = P → X.w = w → X.K = K → ok X → Inv X pins σ H s → (∀ b ∈ fp, FpOk X pins H b) → tn n s.heap → J.stop n H →
    wpAny (model P w) X.A (pyNext (.ref it)) (fun r s1 => r = none ∧ Inv X pins σ H s1) E s
  self : ∀ (A : Around) (n : Nat) (s : Shared) (Q : Value → Shared → Prop) (E : Value → Shared → Prop), tn n s.heap → Q (.ref it) s → wpAny (model P w) A (pyIter (.ref it)) Q E s
def Pic (ok : Cx → Prop) (X : Cx) (tg iter : Expr) (wi : TI) : Prop :=
  ∀ (pins : List (Addr × Obj)) (s : Shared) (σ : L2.St) (H : Hp) (R : It → Hp → Prop), Inv X pins σ H s → wi σ H R →
    wpAny (model X.prog X.w) X.A (eval iter X.env) (fun v s1 => wpAny (model X.prog X.w) X.A (pyIter v) (fun itv s2 => ∃ (it : Addr) (fp : List Addr) (tn : Nat → Heap → Prop) (J : It) (H' : Hp),
      itv = .ref it ∧ Inv X pins σ H' s2 ∧ Trn ok X.prog X.w X.K tg J fp it tn ∧ tn 0 s2.heap ∧ (∀ b ∈ fp, FpOk X pins H' b) ∧ R J H') X.xe s1) X.xe s
abbrev okCalm : Cx → Prop := fun X => X.calm = true
theorem Trn.of {P : Program} {w : World} {K : PySem.W.Frag} {tg : Expr} {J : It} {fp : List Addr} {it : Addr} {tn : Nat → Heap → Prop} (t : Turn P w K tg J fp it tn) : Trn okCalm P w K tg J fp it tn :=
  ⟨t.obj, t.keep, fun X n pins s σ H E h1 h2 h3 h4 => t.item X h1 h2 h3 h4 n pins s σ H E, fun X n pins s σ H E h1 h2 h3 h4 => t.done X h1 h2 h3 h4 n pins s σ H E, t.self⟩
theorem Pic.of {X : Cx} {tg iter : Expr} {wi : TI} (p : PI X tg iter wi) : Pic okCalm X tg iter wi := fun pins s σ H R I h =>
  thn (p.run pins s σ H R I h) fun _ _ h1 => thn h1 fun _ _ ⟨it, fp, tn, J, H', e, I', t, r⟩ => ⟨it, fp, tn, J, H', e, I', .of t, r⟩
/-- what is wished of an exception of the block -/
abbrev xeB (X : Cx) (use : Option (Value → Sem Unit)) (Qf : Value → Shared → Prop) (acc : Value) (ce : Env) : Value → Shared → Prop :=
  notedBy (model X.prog X.w) X.A ce fun e s => Bhd (model X.prog X.w) X.A X.xe use Qf acc ce (.error e) s
abbrev blkX (X : Cx) (bp : List (Addr × Obj)) (use : Option (Value → Sem Unit)) (Qf : Value → Shared → Prop) (acc : Value) (s : Shared) (H : Hp) (scope : Scope) (ce : Env) (fp : List Addr) : Cx := (X.blk s H scope ce fp).tr bp (xeB X use Qf acc ce)
section
variable {X : Cx}
theorem lc_wide {ok : Cx → Prop} {pins bp : List (Addr × Obj)} {s : Shared} {σ : L2.St} {H : Hp} {Q : VK} {elt tg iter : Expr} {ifs : List Expr} {scope : Scope} {own : List (Str × Nat)} {pos pos' : Pos} {wi : TI} {g : TG} {tt : TT} {te : TE} {use : Option (Value → Sem Unit)} {Qf : Value → Shared → Prop}
    (hN : X.N.Nodup) (I : Inv X pins σ H s) (hbp : ∀ p ∈ bp, p ∈ X.pn ++ pins) (hok : ∀ acc s H ce fp, ok (blkX X bp use Qf acc s H scope ce fp)) (hi : Pic ok X tg iter wi) (bk : BlkOk X.N X.env.scope scope own)
    (hg : ∀ (acc : Value) (s : Shared) (H : Hp) (C : Addr) (cl : List (Str × Addr)) (fp : List Addr), PG (blkX X bp use Qf acc s H scope (compEnvC scope cl C X.env) fp) tg g)
    (ht : ∀ (acc : Value) (s : Shared) (H : Hp) (C : Addr) (cl : List (Str × Addr)) (fp : List Addr), cl = cellsFrom (s.heap.objs.size + 1) scope.names (cloFrom X.env.cells scope.names []) → C = s.heap.objs.size → Inv X pins σ H s → (∀ b ∈ fp, FpOk X pins H b ∧ b < s.heap.objs.size) → PTs (blkX X bp use Qf acc s H scope (compEnvC scope cl C X.env) fp) ifs tt)
    (he : ∀ (acc : Value) (s : Shared) (H : Hp) (C : Addr) (cl : List (Str × Addr)) (fp : List Addr), cl = cellsFrom (s.heap.objs.size + 1) scope.names (cloFrom X.env.cells scope.names []) → C = s.heap.objs.size → Inv X pins σ H s → (∀ b ∈ fp, FpOk X pins H b ∧ b < s.heap.objs.size) → PE (blkX X bp use Qf acc s H scope (compEnvC scope cl C X.env) fp) elt te)
    (hs : ∀ x, foldedSetIterable iter X.env x = pure x) (h : tLc wi g tt te (own.map (·.2)) σ H Q)
    (hQ : ∀ D C s' m H', Inv X pins σ H' s' → Q (.ref D) H' → s'.heap.Ns C m → FpOk X pins H' C → compPost (model X.prog X.w) X.A X.xe use Qf (.ref D) C (.ok .next) s') :
    wpAny (model X.prog X.w) X.A (comprehension (.ListComp elt [⟨tg, iter, ifs, 0⟩] scope pos) scope X.env pos' (newList []) false (eval iter X.env) use) Qf X.xe s := by
  refine comp_bhd (use := use) rfl hs (closure_ok fun y hy e => ?_) bk.kind (fun y hy e => by rw [← e]; exact bk.uniq y hy) ?_
  · exact (bk.free y hy e).elim (fun k => I.ok.has _ (.inl k)) fun k => I.ok.has _ (.inr k)
  refine thn (hi pins s σ H _ I h) fun xv s1 h1 => thn h1 fun itv s2 ⟨it, fp, tn, J, H2, eq2, I2, T, st2, f2, q⟩ => ?_
  subst eq2
  refine wpAny_newObj_type (newEnv_comp ?_) (by show 0 ≤ sizeLine; decide)
  obtain ⟨D, hD⟩ : ∃ D, D = s2.heap.objs.size := ⟨_, rfl⟩
  rw [← hD]
  obtain ⟨W, ⟨m0, w0⟩, turn⟩ := q D (I2.hok.fresh (Nat.le_of_eq hD.symm))
  obtain ⟨s3, hs3⟩ : ∃ u : Shared, u = { s2 with heap := s2.heap.push { cls := .type "list", data := .seq ([] : List Value).toArray } } := ⟨_, rfl⟩
  have hp3 : s3.heap = s2.heap.push { cls := .type "list", data := .seq ([] : List Value).toArray } := congrArg Shared.heap hs3
  have I3 : Inv X pins σ (upd H2 D (.lst [])) s3 := by
    rw [hs3]
    exact I2.laid (t' := s2.toks) (fun _ _ z => Heap.get?_push_of_some _ z) (Nat.le_of_eq hD.symm) ⟨Nat.zero_le _, [], 0, .nil, by rw [hD]; exact Heap.get?_push_size _ rfl⟩
  have f3 : ∀ b ∈ fp, FpOk X pins (upd H2 D (.lst [])) b ∧ b < s3.heap.objs.size := fun b hb => by
    obtain ⟨o, z, _⟩ := T.objs _ _ st2 b hb
    have lt := Heap.lt_size z
    refine ⟨⟨?_, (f2 b hb).2⟩, by rw [hp3, Heap.size_push]; exact Nat.lt_succ_of_lt lt⟩
    rw [upd_ne (by rw [hD]; exact Nat.ne_of_lt lt)]
    exact (f2 b hb).1
  have st3 : tn 0 s3.heap := T.stay _ _ _ st2 fun b _ o z => by rw [hp3]; exact Heap.get?_push_of_some _ z
  rw [← hs3]
  obtain ⟨H3, hH3⟩ : ∃ G, G = upd H2 D (.lst []) := ⟨_, rfl⟩
  rw [← hH3] at I3 f3 w0
  obtain ⟨cl, hcl⟩ : ∃ c, c = cellsFrom (s3.heap.objs.size + 1) scope.names (cloFrom X.env.cells scope.names []) := ⟨_, rfl⟩
  have pt := ht (.ref D) s3 H3 s3.heap.objs.size cl fp hcl rfl I3 f3
  have pe := he (.ref D) s3 H3 s3.heap.objs.size cl fp hcl rfl I3 f3
  have pg := hg (.ref D) s3 H3 s3.heap.objs.size cl fp
  have B4 := block_start I3 bk hN f3
  rw [← hcl] at B4
  show codeAny _ _ (.compStart (.ListComp elt [⟨tg, iter, ifs, 0⟩] scope pos) 0 (.ref it) (.ref D) (compEnvC scope (cellsFrom (s3.heap.objs.size + 1) scope.names (cloFrom X.env.cells scope.names [])) s3.heap.objs.size X.env)) (Bhd (model X.prog X.w) X.A X.xe use Qf (.ref D) (compEnvC scope (cellsFrom (s3.heap.objs.size + 1) scope.names (cloFrom X.env.cells scope.names [])) s3.heap.objs.size X.env)) _
  rw [← hcl]
  obtain ⟨ce, hce⟩ : ∃ c, c = compEnvC scope cl s3.heap.objs.size X.env := ⟨_, rfl⟩
  have cL : ce.locals = s3.heap.objs.size := by rw [hce]; rfl
  rw [← hce] at pt pe pg B4 ⊢
  obtain ⟨s4, hs4⟩ : ∃ u : Shared, u = { s3 with heap := pushCells (s3.heap.push { cls := .type "dict", data := .dict #[] }) scope.names } := ⟨_, rfl⟩
  have grow : ∀ b o, s3.heap.get? b = some o → s4.heap.get? b = some o := fun b o z => by rw [hs4]; exact pushCells_keeps _ _ _ _ (Heap.get?_push_of_some _ z)
  have lift : ({ s3 with heap := pushCells (s3.heap.push { cls := .type "dict", data := .dict #[] }) scope.names } : Shared) = s4 := hs4.symm
  show codeAny _ _ _ _ ({ s3 with heap := pushCells (s3.heap.push { cls := .type "dict", data := .dict #[] }) scope.names } : Shared)
  rw [lift] at B4 ⊢
  have nin : ∀ p ∈ X.pn ++ pins, p.1 ∉ frs X.stack := fun p hp z => by
    obtain ⟨_, _, a, b, _⟩ := I3.pin p hp
    exact (List.mem_cons.mp (I3.stkSub _ z)).elim a b
  have I4 : Inv (blkX X bp use Qf (.ref D) s3 H3 scope ce fp) [] (wipe σ (own.map (·.2))) H3 s4 := (B4.pins_of (pins' := bp) fun p hp => by
    obtain ⟨a1, a2, a3, a4, a5⟩ := I3.pin p (hbp p hp)
    exact ⟨grow _ _ a1, a2, by show p.1 ≠ ce.locals; rw [cL]; exact Nat.ne_of_lt (Heap.lt_size a1), nin p (hbp p hp), a5⟩).toTry _
  have st4 : tn 0 s4.heap := T.stay _ _ _ st3 fun b _ o z => grow b o z
  have own4 : ∀ {τ : L2.St} {G : Hp} {u : Shared} {bq : List (Addr × Obj)}, Inv (blkX X bp use Qf (.ref D) s3 H3 scope ce fp) bq τ G u → (∀ b ∈ fp, G b = none) → ∀ b ∈ fp, FpOk (blkX X bp use Qf (.ref D) s3 H3 scope ce fp) [] G b := fun {τ G u bq} J n b hb =>
    ⟨n b hb, (J.ok.exf b hb).1, J.ok.exfs b hb, .inl hb, fun x c z => (J.ok.exf b hb).2 x c z, fun p hp => (f3 b hb).1.2.2.2.2.2 p (hbp p (by simpa using hp))⟩
  have okB : ok (blkX X bp use Qf (.ref D) s3 H3 scope ce fp) := hok _ _ _ _ _
  have loop : codeAny (model X.prog X.w) X.A (.compLoop (.ListComp elt [⟨tg, iter, ifs, 0⟩] scope pos) 0 (.ref it) (.ref D) ce) (Bhd (model X.prog X.w) X.A X.xe use Qf (.ref D) ce) s4 := by
    refine compLoop_any (fun n u => ∃ k G, Inv (blkX X bp use Qf (.ref D) s3 H3 scope ce fp) [] (wipe σ (own.map (·.2))) G u ∧ tn k u.heap ∧ (∀ b ∈ fp, G b = none) ∧ W k n G) ?_ m0 ⟨0, H3, I4, st4, fun b hb => (f3 b hb).1.1, w0⟩
    intro n s5 ⟨k, H5, I5, st5, n5, w5⟩
    rcases turn k n H5 w5 with ⟨stop, qq⟩ | ⟨go, Nx, hNx, step⟩
    · refine thn (T.over (blkX X bp use Qf (.ref D) s3 H3 scope ce fp) k [] s5 _ H5 (xeB X use Qf (.ref D) ce) rfl rfl rfl okB I5 (own4 I5 n5) st5 stop) fun r s6 ⟨hr, I6⟩ => ?_
      subst hr
      have J6 : Inv X pins σ H5 s6 := I3.call' (ch := fp) I6.os I6.base I6.hok I6.bare fun b hb => ⟨(f3 b hb).1.2.2.2.1, (f3 b hb).1.2.1, (f3 b hb).1.2.2.2.2.1, (f3 b hb).1.2.2.2.2.2⟩
      obtain ⟨m, hn, _⟩ := I6.loc
      have fr : H5 s3.heap.objs.size = none := by rw [← cL]; exact I6.free
      have hn' : s6.heap.Ns ce.locals m := hn
      rw [cL] at hn'
      have fin := hQ D s3.heap.objs.size s6 m H5 J6 qq hn' (I3.fpOk (Nat.le_refl _) fr)
      show compPost _ _ _ _ _ _ ce.locals _ _
      rw [cL]
      exact fin
    · refine thn (T.give (blkX X bp use Qf (.ref D) s3 H3 scope ce fp) k [] s5 _ H5 (xeB X use Qf (.ref D) ce) rfl rfl rfl okB I5 (own4 I5 n5) st5 go) fun r s6 ⟨u, hr, h6⟩ => ?_
      subst hr
      refine thn h6 fun _ s7 ⟨x, H7, I7, r7, y7, st7, n7⟩ => ?_
      have P7 := I7.pinned (own4 I7 n7) (T.objs _ _ st7)
      refine thn (pg.run _ s7 _ H7 x u _ P7 r7 (step x H7 y7)) fun _ s8 ⟨σ8, H8, I8, hw8, q8⟩ => ?_
      refine thn (pt.run _ s8 σ8 H8 _ I8 q8) fun b s9 ⟨H9, I9, q9⟩ => ?_
      have next : ∀ {u : Shared} {G : Hp}, Inv (blkX X bp use Qf (.ref D) s3 H3 scope ce fp) ([] ++ pinsAt fp s7.heap) σ8 G u → Nx G → ∃ m, m < n ∧ ∃ k G, Inv (blkX X bp use Qf (.ref D) s3 H3 scope ce fp) [] (wipe σ (own.map (·.2))) G u ∧ tn k u.heap ∧ (∀ b ∈ fp, G b = none) ∧ W k m G := fun {u G} J nx => by
        obtain ⟨m, lt, w'⟩ := hNx G nx
        have held : ∀ b ∈ fp, ∀ o, s7.heap.get? b = some o → u.heap.get? b = some o ∧ G b = none := fun b hb o z => by
          obtain ⟨a1, a2, _⟩ := J.pin (b, o) (List.mem_append_right _ (List.mem_append_right _ (mem_pinsAt hb z)))
          exact ⟨a1, a2⟩
        refine ⟨m, lt, k + 1, G, (J.unpinned (pins := [])).weak (by rw [← hw8, wipe_length]) (fun j v z => ?_), T.stay _ _ _ st7 fun b hb o z => (held b hb o z).1, fun b hb => ?_, w'⟩
        · rw [← hw8] at z
          exact (wipe_some z).1
        · obtain ⟨o, z, _⟩ := T.objs _ _ st7 b hb
          exact (held b hb o z).2
      cases b with
      | false =>
        rw [if_neg Bool.false_ne_true] at q9
        exact next I9 q9
      | true =>
        rw [if_pos rfl] at q9
        refine thn (pe.run _ s9 σ8 H9 _ I9 q9) fun z s10 ⟨yv, H10, I10, r10, acc, hD10, hz10, nx⟩ => ?_
        exact app_ok (X := blkX X bp use Qf (.ref D) s3 H3 scope ce fp) I10 hD10 hz10 r10 fun s11 I11 => next I11 nx
  exact codeAny_compStart_list loop (T.self X.A 0 _ _ _ st4 loop)
end
end Ag

end
/-! ## XL3 -/
section
set_option linter.all false
set_option maxRecDepth 100000
set_option maxHeartbeats 2000000
namespace Ag
open PySem PySem.Spec PyProof.Rows L2
/-! ### an exception leaves a comprehension's block -/
theorem note_same {e : Value} {a b : Env} (h : a.frame = b.frame) : noteFrame e a = noteFrame e b := by
  unfold noteFrame PySem.frameOf
  rw [h]
theorem on_same {w : String} {e : Value} {a b : Env} (h : a.frame = b.frame) : (PySem.passOn w e a : Sem Value) = PySem.passOn w e b := by
  unfold PySem.passOn
  rw [h]
theorem frames_at {base base' h h' : Heap} : ∀ {l : List Env}, h.FunFrames base l → (∀ b ∈ frs l, h'.get? b = h.get? b) → (∀ b ∈ frs l, base'.get? b = none) → h'.FunFrames base' l
  | [], _, _, _ => trivial
  | env :: l, ⟨k, ⟨L, o, f, n, g, d⟩, r⟩, e, z => by
    have mem : L ∈ frs (env :: l) := List.mem_filterMap.mpr ⟨env, List.mem_cons_self, f⟩
    have sub : ∀ b ∈ frs l, b ∈ frs (env :: l) := fun b hb => by
      obtain ⟨v, hv, q⟩ := List.mem_filterMap.mp hb
      exact List.mem_filterMap.mpr ⟨v, List.mem_cons_of_mem _ hv, q⟩
    exact ⟨k, ⟨L, o, f, z L mem, (e L mem).trans g, d⟩, frames_at r (fun b hb => e b (sub b hb)) fun b hb => z b (sub b hb)⟩
section
variable {X : Cx} {W : WX} {use : Option (Value → Sem Unit)} {Qf : Value → Shared → Prop} {acc : Value} {s : Shared} {H : Hp} {scope : Scope} {C : Addr} {cl : List (Str × Addr)} {fp : List Addr} {pins : List (Addr × Obj)} {σ : L2.St}
/-- what a def that the block calls lets out is taken by the def around -/
theorem blk_out (hs : X.stack = X.env :: X.outer) (hf : X.env.frame = some X.env.locals) (tk : Takes X W) (hC : C = s.heap.objs.size) (I : Inv X pins σ H s) (ok : ∀ b ∈ fp, FpOk X pins H b ∧ b < s.heap.objs.size) :
    Passes (L2.CX X.prog X.w) (blkX X [] use Qf acc s H scope (compEnvC scope cl C X.env) fp) (fun cls d G => W cls d σ G) := by
  intro bq τ H1 s1 e s2 J c
  obtain ⟨a, B, H2, cls, d, rfl, fl, hok, ub, na, os, ag, w⟩ := c
  have sameF : (compEnvC scope cl C X.env).frame = X.env.frame := rfl
  have lC : (compEnvC scope cl C X.env).locals = C := rfl
  have fr : X.A.frames = some (X.env :: X.outer) := I.ok.frames.trans (congrArg some hs)
  have fl' : HandSPX.FlyingZ B (X.env :: X.outer) a (Zc cls d) s2.heap := by rw [← hs]; exact fl
  -- the block's own dict
  have newC : s.heap.get? C = none := Heap.get?_none_of_le (Nat.le_of_eq hC.symm)
  have outC : C ∉ frs X.stack := fun m => by
    obtain ⟨_, o, z, _⟩ := I.stack.mem m
    rw [newC] at z; cases z
  obtain ⟨m, hm, _⟩ := J.loc
  have hm : s1.heap.Ns C m := hm
  obtain ⟨oC, es, ep, c1, c2, c3⟩ := id hm
  have freeC1 : H1 C = none := J.free
  have c4 : B.get? C = some oC := ub.keep C oC c1 freeC1 outC
  have freeC2 : H2 C = none := ub.free C oC c1 freeC1
  show wpAny _ _ (noteFrame (.ref a) (compEnvC scope cl C X.env)) _ _ _
  rw [note_same sameF]
  refine HandSPX.looks_onZ Zc.steady fr hf fl' fun h3 held up3 => ?_
  have c5 : h3.get? C = some oC := held.1 _ _ c4
  refine ⟨m, ⟨oC, es, ep, c5, c2, c3⟩, fun h4 sb => ?_⟩
  rw [on_same sameF]
  have keep4 : ∀ b, b ≠ C → h4.get? b = h3.get? b := sb.2
  -- the ground without it
  have B_of : ∀ {b o}, (PySem.W.hideAll B [C]).get? b = some o → B.get? b = some o ∧ b ≠ C := fun {b o} z => by
    refine ⟨PySem.W.of_hideAll _ z, fun q => ?_⟩
    rw [q, PySem.W.hideAll_none [C] (by simp)] at z
    cases z
  have toB : ∀ {b o}, B.get? b = some o → b ≠ C → (PySem.W.hideAll B [C]).get? b = some o := fun z q => PySem.W.hideAll_get _ z (by simpa using q)
  obtain ⟨k1, k2, k3, oe, vs, T, oT, ts, e1, e2, e3, e4, e5, e6, e7, e8, e9⟩ := held
  have nf : ∀ {x : Addr} {o : Obj} {vs : Array Value}, h3.get? x = some o → o.data = .fields vs → x ≠ C := fun {x o vs} z q r => by
    rw [r, c5] at z
    have z := Option.some.inj z
    rw [← z, c2] at q
    cases q
  have noB : ∀ {b}, B.get? b = none → (PySem.W.hideAll B [C]).get? b = none := fun {b} z => by
    cases q : (PySem.W.hideAll B [C]).get? b with
    | none => rfl
    | some o => rw [(B_of q).1] at z; cases z
  have frC : ∀ b ∈ frs (X.env :: X.outer), b ≠ C := fun b hb q => outC (by rw [hs, ← q]; exact hb)
  have held4 : HandSPX.HeldZ (PySem.W.hideAll B [C]) (X.env :: X.outer) a (Zc cls d) X.env.locals h4 :=
    ⟨fun b o z => (keep4 b (B_of z).2).trans (k1 b o (B_of z).1), noB k2, frames_at k3 (fun b hb => keep4 b (frC b hb)) (fun b hb => by
      obtain ⟨q, _⟩ := k3.mem hb
      exact noB q), oe, vs, T, oT, ts, (keep4 a (nf e1 e3)).trans e1, e2, e3, e4, noB e5, e6, (keep4 T (nf e7 e8)).trans e7, e8, e9⟩
  obtain ⟨G, g1, g2⟩ := restrict h4 fun b => ((PySem.W.hideAll B [C]).get? b).isSome || decide (b ∈ frs X.stack)
  have gB : ∀ b o, (PySem.W.hideAll B [C]).get? b = some o → G.get? b = some o := fun b o z => by
    rw [g1 b (by rw [z]; rfl)]
    exact held4.1 b o z
  have gF : ∀ b, b ∈ frs X.stack → G.get? b = h4.get? b := fun b hb => g1 b (by rw [decide_eq_true hb, Bool.or_true])
  have gof : ∀ b o, G.get? b = some o → h4.get? b = some o ∧ (((PySem.W.hideAll B [C]).get? b).isSome = true ∨ b ∈ frs X.stack) := fun b o z => by
    cases q : (((PySem.W.hideAll B [C]).get? b).isSome || decide (b ∈ frs X.stack)) with
    | false => rw [g2 b q] at z; cases z
    | true =>
      rw [g1 b q] at z
      rw [Bool.or_eq_true, decide_eq_true_eq] at q
      exact ⟨z, q⟩
  have oldC : ∀ {b o}, s.heap.get? b = some o → b ≠ C := fun {b o} z q => by rw [q, newC] at z; cases z
  -- a frame's object, up to its slots
  have frame : ∀ b ∈ frs X.stack, ∀ o, s1.heap.get? b = some o → (∀ vs, o.data ≠ .fields vs) → ∃ sl, G.get? b = some { o with slots := sl } := fun b hb o z hd => by
    obtain ⟨sl, z2⟩ := ub.slot b o z hb
    obtain ⟨sl3, z3⟩ := up3 b _ z2 hd
    exact ⟨sl3, by rw [gF b hb, keep4 b (fun q => outC (q ▸ hb))]; exact z3⟩
  have inv : Inv X pins σ H2 { s2 with heap := G } := by
    refine I.call' (ch := C :: fp) (os.trans J.os) ⟨fun b o z n nfr nx => ?_, fun b o z n fr nx => ?_, fun b o z n nx => ?_, fun b o z nx => ?_, fun b xs z => ub.tups b xs (J.base.tups b xs z), fun b o xs z => ub.frzs b o xs (J.base.frzs b o xs z), fun b ps z => ?_⟩ (fun b o z => ?_) ag (fun b hb => ?_)
    · have nx' : b ∉ fp := fun q => nx (List.mem_cons_of_mem _ q)
      exact gB b o (toB (ub.keep b o (J.base.keep b o z n nfr nx') (J.base.free b o z n nx') nfr) (oldC z))
    · have nx' : b ∉ fp := fun q => nx (List.mem_cons_of_mem _ q)
      obtain ⟨sl, z1⟩ := J.base.slot b o z n fr nx'
      obtain ⟨_, o', z', hd⟩ := I.stack.mem fr
      rw [z] at z'
      cases z'
      obtain ⟨sl', z2⟩ := frame b fr _ z1 hd
      exact ⟨sl', z2⟩
    · have nx' : b ∉ fp := fun q => nx (List.mem_cons_of_mem _ q)
      obtain ⟨o', z1⟩ := J.base.there b o z nx'
      exact ub.free b o' z1 (J.base.free b o z n nx')
    · have nx' : b ∉ fp := fun q => nx (List.mem_cons_of_mem _ q)
      by_cases hb : b ∈ frs X.stack
      · obtain ⟨_, o', z', hd⟩ := I.stack.mem hb
        rw [z] at z'
        cases z'
        obtain ⟨sl, z1⟩ := J.base.slot b o z (I.stkFree b hb) hb nx'
        obtain ⟨sl', z2⟩ := frame b hb _ z1 hd
        exact ⟨_, z2⟩
      · obtain ⟨o', z1⟩ := J.base.there b o z nx'
        obtain ⟨o2, z2⟩ := ub.there b o' z1 hb
        exact ⟨o2, gB b o2 (toB z2 (oldC z))⟩
    · obtain ⟨m1, z1⟩ := J.base.tbls b ps z
      obtain ⟨m2, z2⟩ := ub.tbls b _ z1
      exact ⟨m1 ++ m2, by rw [z2, Array.append_assoc]⟩
    · refine (hok b o z).stay (fun c u hc q => gB c u (toB q fun r => ?_)) (fun _ q => q) fun _ _ q => q
      rw [r, freeC2] at hc
      rcases hc with hc | hc
      · rw [← hc, freeC2] at z; cases z
      · cases hc
    · rcases List.mem_cons.mp hb with rfl | hb
      · refine ⟨.inr (by rw [hC]; exact I.sz), fun q => ?_, fun x c z q => ?_, fun p hp q => ?_⟩
        · have lt := I.lt
          rw [← q, hC] at lt
          exact Nat.lt_irrefl _ lt
        · obtain ⟨v, o, z2, _⟩ := I.cell x c z
          exact oldC z2 q
        · exact oldC (I.pin p hp).1 q
      · exact ⟨(ok b hb).1.2.2.2.1, (ok b hb).1.2.1, (ok b hb).1.2.2.2.2.1, (ok b hb).1.2.2.2.2.2⟩
  have e1' : h4.get? a = some oe := (keep4 a (nf e1 e3)).trans e1
  have on : wpAny (model X.prog X.w) X.A (setFlight (.ref a) X.env.frame) (fun _ s4 => wpAny (model X.prog X.w) X.A (throw (.ref a) : Sem Value) (fun _ _ => False) X.xe s4) X.xe { s2 with heap := h4 } := by
    rw [hf]
    refine HandSPX.setFlight_onZ held4 fun h5 held5 up5 => wpAny_throw (tk _ _ ?_)
    refine ⟨a, PySem.W.hideAll B [C], _, pins, σ, H2, cls, d, rfl, inv, fun b o z nb => ?_, (Heap.UpToSlots.of_keeps fun b o z => (gof b o z).1).trans up5, .inr (.inr (by rw [hs]; exact held5)), na, rfl, ag, w⟩
    obtain ⟨z1, z2 | z2⟩ := gof b o z
    · obtain ⟨o', q⟩ := Option.isSome_iff_exists.mp z2
      have := held4.1 b o' q
      rw [z1] at this
      cases this
      exact q
    · exact absurd z2 nb
  unfold PySem.passOn
  refine wpAny_bind (wpAny_field e1' e3 e4 ?_)
  rw [if_neg (by simp)]
  first
    | exact wpAny_bind on
    | exact wpAny_bind (wpAny_pure (wpAny_bind on))
end
end Ag

end
/-! ## XL4 -/
section
set_option linter.all false
set_option maxRecDepth 100000
set_option maxHeartbeats 2000000
namespace Ag
open PySem PySem.Spec PyProof.Rows L2
/-! ### [e for target in iter if ..] where e, the tests or both may raise: as a value, as name = [..] -/
/-- tt, te: by what is wished of what is raised -/
def tLcX (W : WX) (wi : TI) (g : TG) (tt : XK → TT) (te : XK → TE) (vs : List Nat) : TE := fun σ H Q => tLc wi g (tt fun c d G => W c d σ G) (te fun c d G => W c d σ G) vs σ H Q
section
variable {X : Cx} {W : WX} {elt tg iter : Expr} {ifs : List Expr} {scope : Scope} {own : List (Str × Nat)} {pos : Pos} {wi : TI} {g : TG} {tt : XK → TT} {te : XK → TE}
/-- what is asked of a part of the block -/
abbrev InBlk (X : Cx) (scope : Scope) (R : Cx → XK → Prop) : Prop := ∀ (E : XK) (use : Option (Value → Sem Unit)) (Qf : Value → Shared → Prop) (acc : Value) (s : Shared) (H : Hp) (C : Addr) (cl : List (Str × Addr)) (fp : List Addr),
  Passes (L2.CX X.prog X.w) (blkX X [] use Qf acc s H scope (compEnvC scope cl C X.env) fp) E → R (blkX X [] use Qf acc s H scope (compEnvC scope cl C X.env) fp) E
theorem pe_lcX (hs : X.stack = X.env :: X.outer) (hf : X.env.frame = some X.env.locals) (tk : Takes X W) (hc : X.calm = true) (hN : X.N.Nodup) (hi : PI X tg iter wi) (bk : BlkOk X.N X.env.scope scope own)
    (hg : InBlk X scope fun Y _ => PG Y tg g) (ht : InBlk X scope fun Y E => PTs Y ifs (tt E)) (he : InBlk X scope fun Y E => PE Y elt (te E)) (hz : ∀ x, foldedSetIterable iter X.env x = pure x := by intro _; rfl) :
    PE X (.ListComp elt [⟨tg, iter, ifs, 0⟩] scope pos) (tLcX W wi g tt te (own.map (·.2))) := by
  constructor
  intro pins s σ H Q I h
  rw [eval_ListComp]
  refine lc_wide (ok := okCalm) (bp := []) (use := none) (tt := tt fun c d G => W c d σ G) (te := te fun c d G => W c d σ G) hN I (fun _ z => nomatch z) (fun _ _ _ _ _ => hc) (.of hi) bk (fun acc s3 H3 C cl fp => ?_) (fun acc s3 H3 C cl fp _ hC J ok => ?_) (fun acc s3 H3 C cl fp _ hC J ok => ?_) hz h ?_
  · exact hg (fun _ _ _ => False) _ _ acc s3 H3 C cl fp fun _ _ _ _ _ _ _ ⟨_, _, _, _, _, _, _, _, _, _, _, _, z⟩ => z.elim
  · exact ht _ _ _ _ _ _ _ _ _ (blk_out hs hf tk hC J ok)
  · exact he _ _ _ _ _ _ _ _ _ (blk_out hs hf tk hC J ok)
  · rintro D C s' m H' I' q hn ⟨f0, f1, _, f3, f4, f5⟩
    exact ⟨m, hn, fun h2 sb => ⟨.ref D, H', I'.turned (t' := s'.toks) (fun b o hb z => (sb.2 b hb).trans z) f0 f1 f3 f4 f5, rfl, q⟩⟩
theorem ps_setLcX {i : Nat} {y : Str} {py spos : Pos} (hs : X.stack = X.env :: X.outer) (hf : X.env.frame = some X.env.locals) (tk : Takes X W) (hc : X.calm = true) (hN : X.N.Nodup) (hy : X.N[i]? = some y) (hl : X.env.scope.names.lookup y = some .local)
    (hsw : swapsWith (.ListComp elt [⟨tg, iter, ifs, 0⟩] scope pos) (some (.Name y py)) spos.line X.env = pure true) (hi : PI X tg iter wi) (bk : BlkOk X.N X.env.scope scope own)
    (hg : InBlk X scope fun Y _ => PG Y tg g) (ht : InBlk X scope fun Y E => PTs Y ifs (tt E)) (he : InBlk X scope fun Y E => PE Y elt (te E)) (hz : ∀ x, foldedSetIterable iter X.env x = pure x := by intro _; rfl) :
    PS X (.Assign [.Name y py] (.ListComp elt [⟨tg, iter, ifs, 0⟩] scope pos) spos) (tAsg (tLcX W wi g tt te (own.map (·.2))) (gName i)) := by
  constructor
  intro pins s σ H D I h
  rw [exec_Assign_Name_used _ _ _ _ hsw]
  apply wpAny_bind
  apply wpAny_standAt
  apply wpAny_bind
  have h : tLcX W wi g tt te (own.map (·.2)) σ H (fun x G => gName i x σ G D.nx) := h
  show wpAny _ X.A (do let _ ← comprehension (.ListComp elt [⟨tg, iter, ifs, 0⟩] scope pos) scope X.env (firstIterPos [⟨tg, iter, ifs, 0⟩] pos) (newList []) false (eval iter X.env) (some (assign (.Name y py) X.env))) _ _ s; apply wpAny_bind
  refine thn (lc_wide (ok := okCalm) (bp := []) (use := some (assign (.Name y py) X.env)) (Qf := fun _ u => SP X pins D .next u) (tt := tt fun c d G => W c d σ G) (te := te fun c d G => W c d σ G) hN I (fun _ z => nomatch z) (fun _ _ _ _ _ => hc) (.of hi) bk (fun acc s3 H3 C cl fp => ?_) (fun acc s3 H3 C cl fp _ hC J ok => ?_) (fun acc s3 H3 C cl fp _ hC J ok => ?_) hz h ?_) fun _ s2 q => wpAny_pure (wpAny_pure q)
  · exact hg (fun _ _ _ => False) _ _ acc s3 H3 C cl fp fun _ _ _ _ _ _ _ ⟨_, _, _, _, _, _, _, _, _, _, _, _, z⟩ => z.elim
  · exact ht _ _ _ _ _ _ _ _ _ (blk_out hs hf tk hC J ok)
  · exact he _ _ _ _ _ _ _ _ _ (blk_out hs hf tk hC J ok)
  · rintro L C s' m H' I' q hn ⟨f0, f1, _, f3, f4, f5⟩
    show wpAny _ _ (assign (.Name y py) X.env (.ref L)) _ _ _
    refine wpAny_assign_Name (store_ok2 (v := V.ref L) I' hN hy (.inl hl) rfl (fun s3 I3 ⟨a, sb, ha⟩ => ?_) (.inr hl))
    have away : C ≠ a := fun z => by
      rcases ha with q | q
      · exact f1 (z.trans q)
      · exact f4 y a q z.symm
    exact ⟨m, hn.sameBut sb away, fun h4 sb4 => ⟨_, H', I3.turned (t' := s3.toks) (fun b o hb z => (sb4.2 b hb).trans z) f0 f1 f3 f4 f5, q⟩⟩
end
end Ag

end
/-! ## XL4N -/
section
set_option linter.all false
set_option maxRecDepth 100000
set_option maxHeartbeats 2000000
namespace Ag
open PySem PySem.Spec PyProof.Rows L2
/-! ### the same of exceptions whose context is None -/
section
variable {X : Cx} {W : WX} {use : Option (Value → Sem Unit)} {Qf : Value → Shared → Prop} {acc : Value} {s : Shared} {H : Hp} {scope : Scope} {C : Addr} {cl : List (Str × Addr)} {fp : List Addr} {pins : List (Addr × Obj)} {σ : L2.St}
/-- what a def that the block calls lets out is taken by the def around -/
theorem blk_outN (hs : X.stack = X.env :: X.outer) (hf : X.env.frame = some X.env.locals) (tk : L2N.Takes X W) (hC : C = s.heap.objs.size) (I : Inv X pins σ H s) (ok : ∀ b ∈ fp, FpOk X pins H b ∧ b < s.heap.objs.size) :
    Passes (L2N.CX X.prog X.w) (blkX X [] use Qf acc s H scope (compEnvC scope cl C X.env) fp) (fun cls d G => W cls d σ G) := by
  intro bq τ H1 s1 e s2 J c
  obtain ⟨a, B, H2, cls, d, rfl, fl, hok, ub, na, os, ag, w⟩ := c
  have sameF : (compEnvC scope cl C X.env).frame = X.env.frame := rfl
  have lC : (compEnvC scope cl C X.env).locals = C := rfl
  have fr : X.A.frames = some (X.env :: X.outer) := I.ok.frames.trans (congrArg some hs)
  have fl' : HandSPX.FlyingZ B (X.env :: X.outer) a (L2N.Zn cls d) s2.heap := by rw [← hs]; exact fl
  -- the block's own dict
  have newC : s.heap.get? C = none := Heap.get?_none_of_le (Nat.le_of_eq hC.symm)
  have outC : C ∉ frs X.stack := fun m => by
    obtain ⟨_, o, z, _⟩ := I.stack.mem m
    rw [newC] at z; cases z
  obtain ⟨m, hm, _⟩ := J.loc
  have hm : s1.heap.Ns C m := hm
  obtain ⟨oC, es, ep, c1, c2, c3⟩ := id hm
  have freeC1 : H1 C = none := J.free
  have c4 : B.get? C = some oC := ub.keep C oC c1 freeC1 outC
  have freeC2 : H2 C = none := ub.free C oC c1 freeC1
  show wpAny _ _ (noteFrame (.ref a) (compEnvC scope cl C X.env)) _ _ _
  rw [note_same sameF]
  refine PXN.looks_onZ L2N.Zn.steady fr hf fl' fun h3 held up3 => ?_
  have c5 : h3.get? C = some oC := held.1 _ _ c4
  refine ⟨m, ⟨oC, es, ep, c5, c2, c3⟩, fun h4 sb => ?_⟩
  rw [on_same sameF]
  have keep4 : ∀ b, b ≠ C → h4.get? b = h3.get? b := sb.2
  -- the ground without it
  have B_of : ∀ {b o}, (PySem.W.hideAll B [C]).get? b = some o → B.get? b = some o ∧ b ≠ C := fun {b o} z => by
    refine ⟨PySem.W.of_hideAll _ z, fun q => ?_⟩
    rw [q, PySem.W.hideAll_none [C] (by simp)] at z
    cases z
  have toB : ∀ {b o}, B.get? b = some o → b ≠ C → (PySem.W.hideAll B [C]).get? b = some o := fun z q => PySem.W.hideAll_get _ z (by simpa using q)
  obtain ⟨k1, k2, k3, oe, vs, T, oT, ts, e1, e2, e3, e4, e5, e6, e7, e8, e9⟩ := held
  have nf : ∀ {x : Addr} {o : Obj} {vs : Array Value}, h3.get? x = some o → o.data = .fields vs → x ≠ C := fun {x o vs} z q r => by
    rw [r, c5] at z
    have z := Option.some.inj z
    rw [← z, c2] at q
    cases q
  have noB : ∀ {b}, B.get? b = none → (PySem.W.hideAll B [C]).get? b = none := fun {b} z => by
    cases q : (PySem.W.hideAll B [C]).get? b with
    | none => rfl
    | some o => rw [(B_of q).1] at z; cases z
  have frC : ∀ b ∈ frs (X.env :: X.outer), b ≠ C := fun b hb q => outC (by rw [hs, ← q]; exact hb)
  have held4 : HandSPX.HeldZ (PySem.W.hideAll B [C]) (X.env :: X.outer) a (L2N.Zn cls d) X.env.locals h4 :=
    ⟨fun b o z => (keep4 b (B_of z).2).trans (k1 b o (B_of z).1), noB k2, frames_at k3 (fun b hb => keep4 b (frC b hb)) (fun b hb => by
      obtain ⟨q, _⟩ := k3.mem hb
      exact noB q), oe, vs, T, oT, ts, (keep4 a (nf e1 e3)).trans e1, e2, e3, e4, noB e5, e6, (keep4 T (nf e7 e8)).trans e7, e8, e9⟩
  obtain ⟨G, g1, g2⟩ := restrict h4 fun b => ((PySem.W.hideAll B [C]).get? b).isSome || decide (b ∈ frs X.stack)
  have gB : ∀ b o, (PySem.W.hideAll B [C]).get? b = some o → G.get? b = some o := fun b o z => by
    rw [g1 b (by rw [z]; rfl)]
    exact held4.1 b o z
  have gF : ∀ b, b ∈ frs X.stack → G.get? b = h4.get? b := fun b hb => g1 b (by rw [decide_eq_true hb, Bool.or_true])
  have gof : ∀ b o, G.get? b = some o → h4.get? b = some o ∧ (((PySem.W.hideAll B [C]).get? b).isSome = true ∨ b ∈ frs X.stack) := fun b o z => by
    cases q : (((PySem.W.hideAll B [C]).get? b).isSome || decide (b ∈ frs X.stack)) with
    | false => rw [g2 b q] at z; cases z
    | true =>
      rw [g1 b q] at z
      rw [Bool.or_eq_true, decide_eq_true_eq] at q
      exact ⟨z, q⟩
  have oldC : ∀ {b o}, s.heap.get? b = some o → b ≠ C := fun {b o} z q => by rw [q, newC] at z; cases z
  -- a frame's object, up to its slots
  have frame : ∀ b ∈ frs X.stack, ∀ o, s1.heap.get? b = some o → (∀ vs, o.data ≠ .fields vs) → ∃ sl, G.get? b = some { o with slots := sl } := fun b hb o z hd => by
    obtain ⟨sl, z2⟩ := ub.slot b o z hb
    obtain ⟨sl3, z3⟩ := up3 b _ z2 hd
    exact ⟨sl3, by rw [gF b hb, keep4 b (fun q => outC (q ▸ hb))]; exact z3⟩
  have inv : Inv X pins σ H2 { s2 with heap := G } := by
    refine I.call' (ch := C :: fp) (os.trans J.os) ⟨fun b o z n nfr nx => ?_, fun b o z n fr nx => ?_, fun b o z n nx => ?_, fun b o z nx => ?_, fun b xs z => ub.tups b xs (J.base.tups b xs z), fun b o xs z => ub.frzs b o xs (J.base.frzs b o xs z), fun b ps z => ?_⟩ (fun b o z => ?_) ag (fun b hb => ?_)
    · have nx' : b ∉ fp := fun q => nx (List.mem_cons_of_mem _ q)
      exact gB b o (toB (ub.keep b o (J.base.keep b o z n nfr nx') (J.base.free b o z n nx') nfr) (oldC z))
    · have nx' : b ∉ fp := fun q => nx (List.mem_cons_of_mem _ q)
      obtain ⟨sl, z1⟩ := J.base.slot b o z n fr nx'
      obtain ⟨_, o', z', hd⟩ := I.stack.mem fr
      rw [z] at z'
      cases z'
      obtain ⟨sl', z2⟩ := frame b fr _ z1 hd
      exact ⟨sl', z2⟩
    · have nx' : b ∉ fp := fun q => nx (List.mem_cons_of_mem _ q)
      obtain ⟨o', z1⟩ := J.base.there b o z nx'
      exact ub.free b o' z1 (J.base.free b o z n nx')
    · have nx' : b ∉ fp := fun q => nx (List.mem_cons_of_mem _ q)
      by_cases hb : b ∈ frs X.stack
      · obtain ⟨_, o', z', hd⟩ := I.stack.mem hb
        rw [z] at z'
        cases z'
        obtain ⟨sl, z1⟩ := J.base.slot b o z (I.stkFree b hb) hb nx'
        obtain ⟨sl', z2⟩ := frame b hb _ z1 hd
        exact ⟨_, z2⟩
      · obtain ⟨o', z1⟩ := J.base.there b o z nx'
        obtain ⟨o2, z2⟩ := ub.there b o' z1 hb
        exact ⟨o2, gB b o2 (toB z2 (oldC z))⟩
    · obtain ⟨m1, z1⟩ := J.base.tbls b ps z
      obtain ⟨m2, z2⟩ := ub.tbls b _ z1
      exact ⟨m1 ++ m2, by rw [z2, Array.append_assoc]⟩
    · refine (hok b o z).stay (fun c u hc q => gB c u (toB q fun r => ?_)) (fun _ q => q) fun _ _ q => q
      rw [r, freeC2] at hc
      rcases hc with hc | hc
      · rw [← hc, freeC2] at z; cases z
      · cases hc
    · rcases List.mem_cons.mp hb with rfl | hb
      · refine ⟨.inr (by rw [hC]; exact I.sz), fun q => ?_, fun x c z q => ?_, fun p hp q => ?_⟩
        · have lt := I.lt
          rw [← q, hC] at lt
          exact Nat.lt_irrefl _ lt
        · obtain ⟨v, o, z2, _⟩ := I.cell x c z
          exact oldC z2 q
        · exact oldC (I.pin p hp).1 q
      · exact ⟨(ok b hb).1.2.2.2.1, (ok b hb).1.2.1, (ok b hb).1.2.2.2.2.1, (ok b hb).1.2.2.2.2.2⟩
  have e1' : h4.get? a = some oe := (keep4 a (nf e1 e3)).trans e1
  have on : wpAny (model X.prog X.w) X.A (setFlight (.ref a) X.env.frame) (fun _ s4 => wpAny (model X.prog X.w) X.A (throw (.ref a) : Sem Value) (fun _ _ => False) X.xe s4) X.xe { s2 with heap := h4 } := by
    rw [hf]
    refine HandSPX.setFlight_onZ held4 fun h5 held5 up5 => wpAny_throw (tk _ _ ?_)
    refine ⟨a, PySem.W.hideAll B [C], _, pins, σ, H2, cls, d, rfl, inv, fun b o z nb => ?_, (Heap.UpToSlots.of_keeps fun b o z => (gof b o z).1).trans up5, .inr (.inr (by rw [hs]; exact held5)), na, rfl, ag, w⟩
    obtain ⟨z1, z2 | z2⟩ := gof b o z
    · obtain ⟨o', q⟩ := Option.isSome_iff_exists.mp z2
      have := held4.1 b o' q
      rw [z1] at this
      cases this
      exact q
    · exact absurd z2 nb
  unfold PySem.passOn
  refine wpAny_bind (wpAny_field e1' e3 e4 ?_)
  rw [if_neg (by simp)]
  first
    | exact wpAny_bind on
    | exact wpAny_bind (wpAny_pure (wpAny_bind on))

end
section
variable {X : Cx} {W : WX} {elt tg iter : Expr} {ifs : List Expr} {scope : Scope} {own : List (Str × Nat)} {pos : Pos} {wi : TI} {g : TG} {tt : XK → TT} {te : XK → TE}
/-- what is asked of a part of the block -/
abbrev InBlkN (X : Cx) (scope : Scope) (R : Cx → XK → Prop) : Prop := ∀ (E : XK) (use : Option (Value → Sem Unit)) (Qf : Value → Shared → Prop) (acc : Value) (s : Shared) (H : Hp) (C : Addr) (cl : List (Str × Addr)) (fp : List Addr),
  Passes (L2N.CX X.prog X.w) (blkX X [] use Qf acc s H scope (compEnvC scope cl C X.env) fp) E → R (blkX X [] use Qf acc s H scope (compEnvC scope cl C X.env) fp) E
theorem pe_lcXN (hs : X.stack = X.env :: X.outer) (hf : X.env.frame = some X.env.locals) (tk : L2N.Takes X W) (hc : X.calm = true) (hN : X.N.Nodup) (hi : PI X tg iter wi) (bk : BlkOk X.N X.env.scope scope own)
    (hg : InBlkN X scope fun Y _ => PG Y tg g) (ht : InBlkN X scope fun Y E => PTs Y ifs (tt E)) (he : InBlkN X scope fun Y E => PE Y elt (te E)) (hz : ∀ x, foldedSetIterable iter X.env x = pure x := by intro _; rfl) :
    PE X (.ListComp elt [⟨tg, iter, ifs, 0⟩] scope pos) (tLcX W wi g tt te (own.map (·.2))) := by
  constructor
  intro pins s σ H Q I h
  rw [eval_ListComp]
  refine lc_wide (ok := okCalm) (bp := []) (use := none) (tt := tt fun c d G => W c d σ G) (te := te fun c d G => W c d σ G) hN I (fun _ z => nomatch z) (fun _ _ _ _ _ => hc) (.of hi) bk (fun acc s3 H3 C cl fp => ?_) (fun acc s3 H3 C cl fp _ hC J ok => ?_) (fun acc s3 H3 C cl fp _ hC J ok => ?_) hz h ?_
  · exact hg (fun _ _ _ => False) _ _ acc s3 H3 C cl fp fun _ _ _ _ _ _ _ ⟨_, _, _, _, _, _, _, _, _, _, _, _, z⟩ => z.elim
  · exact ht _ _ _ _ _ _ _ _ _ (blk_outN hs hf tk hC J ok)
  · exact he _ _ _ _ _ _ _ _ _ (blk_outN hs hf tk hC J ok)
  · rintro D C s' m H' I' q hn ⟨f0, f1, _, f3, f4, f5⟩
    exact ⟨m, hn, fun h2 sb => ⟨.ref D, H', I'.turned (t' := s'.toks) (fun b o hb z => (sb.2 b hb).trans z) f0 f1 f3 f4 f5, rfl, q⟩⟩
theorem ps_setLcXN {i : Nat} {y : Str} {py spos : Pos} (hs : X.stack = X.env :: X.outer) (hf : X.env.frame = some X.env.locals) (tk : L2N.Takes X W) (hc : X.calm = true) (hN : X.N.Nodup) (hy : X.N[i]? = some y) (hl : X.env.scope.names.lookup y = some .local)
    (hsw : swapsWith (.ListComp elt [⟨tg, iter, ifs, 0⟩] scope pos) (some (.Name y py)) spos.line X.env = pure true) (hi : PI X tg iter wi) (bk : BlkOk X.N X.env.scope scope own)
    (hg : InBlkN X scope fun Y _ => PG Y tg g) (ht : InBlkN X scope fun Y E => PTs Y ifs (tt E)) (he : InBlkN X scope fun Y E => PE Y elt (te E)) (hz : ∀ x, foldedSetIterable iter X.env x = pure x := by intro _; rfl) :
    PS X (.Assign [.Name y py] (.ListComp elt [⟨tg, iter, ifs, 0⟩] scope pos) spos) (tAsg (tLcX W wi g tt te (own.map (·.2))) (gName i)) := by
  constructor
  intro pins s σ H D I h
  rw [exec_Assign_Name_used _ _ _ _ hsw]
  apply wpAny_bind
  apply wpAny_standAt
  apply wpAny_bind
  have h : tLcX W wi g tt te (own.map (·.2)) σ H (fun x G => gName i x σ G D.nx) := h
  show wpAny _ X.A (do let _ ← comprehension (.ListComp elt [⟨tg, iter, ifs, 0⟩] scope pos) scope X.env (firstIterPos [⟨tg, iter, ifs, 0⟩] pos) (newList []) false (eval iter X.env) (some (assign (.Name y py) X.env))) _ _ s; apply wpAny_bind
  refine thn (lc_wide (ok := okCalm) (bp := []) (use := some (assign (.Name y py) X.env)) (Qf := fun _ u => SP X pins D .next u) (tt := tt fun c d G => W c d σ G) (te := te fun c d G => W c d σ G) hN I (fun _ z => nomatch z) (fun _ _ _ _ _ => hc) (.of hi) bk (fun acc s3 H3 C cl fp => ?_) (fun acc s3 H3 C cl fp _ hC J ok => ?_) (fun acc s3 H3 C cl fp _ hC J ok => ?_) hz h ?_) fun _ s2 q => wpAny_pure (wpAny_pure q)
  · exact hg (fun _ _ _ => False) _ _ acc s3 H3 C cl fp fun _ _ _ _ _ _ _ ⟨_, _, _, _, _, _, _, _, _, _, _, _, z⟩ => z.elim
  · exact ht _ _ _ _ _ _ _ _ _ (blk_outN hs hf tk hC J ok)
  · exact he _ _ _ _ _ _ _ _ _ (blk_outN hs hf tk hC J ok)
  · rintro L C s' m H' I' q hn ⟨f0, f1, _, f3, f4, f5⟩
    show wpAny _ _ (assign (.Name y py) X.env (.ref L)) _ _ _
    refine wpAny_assign_Name (store_ok2 (v := V.ref L) I' hN hy (.inl hl) rfl (fun s3 I3 ⟨a, sb, ha⟩ => ?_) (.inr hl))
    have away : C ≠ a := fun z => by
      rcases ha with q | q
      · exact f1 (z.trans q)
      · exact f4 y a q z.symm
    exact ⟨m, hn.sameBut sb away, fun h4 sb4 => ⟨_, H', I3.turned (t' := s3.toks) (fun b o hb z => (sb4.2 b hb).trans z) f0 f1 f3 f4 f5, q⟩⟩
end
end Ag

end
/-! ## XH2 -/
section
set_option linter.all false
set_option maxRecDepth 100000
set_option maxHeartbeats 2000000
namespace Ag
open PySem PySem.Spec PyProof.Rows L2 HotX L2H
/-! ### within an except suite: comprehensions over lists and tuples, a tuple taken apart, a, b = x, y -/
/-- the handled exception is held by the context -/
theorem hot_over {X : Cx} {pins : List (Addr × Obj)} {σ : L2.St} {H : Hp} {s : Shared} (c : HotC X) (I : Inv X pins σ H s) : ∃ x, HotAt X.A x s.heap ∧ x ≠ X.env.locals ∧ (∀ b, FpOk X pins H b → x ≠ b) ∧ x ∉ X.fs := by
  obtain ⟨p, ⟨e1, vs, e2, e3⟩, hp⟩ := c
  have hp := List.mem_append_left pins hp
  obtain ⟨a1, _, a3, a4, _⟩ := I.pin p hp
  exact ⟨p.1, ⟨e1, p.2, vs, a1, e2, e3⟩, a3, fun b f => f.2.2.2.2.2 p hp, a4⟩
section
variable {P : Program} {w : World} {K : PySem.W.Frag} {tg : Expr}
theorem trn_list (a it : Addr) : Trn HotC P w K tg (Itl K a) [it] it (fun i h => h.IsListIter it a i) := by
  have t := turn_list (P := P) (w := w) (K := K) (tg := tg) a it
  refine ⟨t.obj, t.keep, ?_, ?_, t.self⟩
  · rintro X n pins s σ H E rfl rfl rfl hc I f st ⟨xs, x, hq, hx⟩
    obtain ⟨its, rv, pl, _⟩ := I.list hq
    obtain ⟨u, hu, ru⟩ := rv.get hx
    obtain ⟨f0, f1, f2, f3, f4, f5⟩ := f it (List.mem_singleton.mpr rfl)
    refine wpAny_pyNext_list_item st pl.isList (x := u) (by rw [List.getElem?_toArray]; exact hu) fun h2 st2 sb => ?_
    have J : Inv X pins σ H { s with heap := h2 } := I.turned (t' := s.toks) (fun b o nb z => (sb.2 b nb).trans z) f0 f1 f3 f4 f5
    obtain ⟨o, e, c, d⟩ := id st2
    refine ⟨u, rfl, go_of (s := { s with heap := h2 }) e c d (by decide) ⟨x, H, J, ru, ⟨rfl, fun ys hy => ?_⟩, st2, fun b hb => (f b hb).1⟩⟩
    rw [I.list_inj hy hq]
    exact hx
  · rintro X n pins s σ H E rfl rfl rfl hc I f st ⟨xs, hq, hx⟩
    obtain ⟨its, rv, pl, _⟩ := I.list hq
    have ff := f it (List.mem_singleton.mpr rfl)
    obtain ⟨f0, f1, f2, f3, f4, f5⟩ := id ff
    obtain ⟨x1, hot, _, ap, _⟩ := hot_over hc I
    have hl := rv.length
    exact lst_end_hot hot (ap it ff) st pl.isList (by rw [List.getElem?_toArray, List.getElem?_eq_none (by omega)]) fun h2 eb => ⟨rfl, I.turned (t' := s.toks) (fun b o nb z => eb b o nb z) f0 f1 f3 f4 f5⟩
theorem trn_tup (a it : Addr) : Trn HotC P w K tg (Itt K a) [it] it (fun i h => h.IsTupleIter it a i) := by
  have t := turn_tuple (P := P) (w := w) (K := K) (tg := tg) a it
  refine ⟨t.obj, t.keep, ?_, ?_, t.self⟩
  · rintro X n pins s σ H E rfl rfl rfl hc I f st ⟨xs, x, hq, hx⟩
    obtain ⟨its, rv, pt, _⟩ := I.tuple hq
    obtain ⟨u, hu, ru⟩ := rv.get hx
    obtain ⟨f0, f1, f2, f3, f4, f5⟩ := f it (List.mem_singleton.mpr rfl)
    refine wpAny_pyNext_tuple_item st (show s.heap.IsTuple a its.toArray from pt) (x := u) (by rw [List.getElem?_toArray]; exact hu) fun h2 st2 sb => ?_
    have J : Inv X pins σ H { s with heap := h2 } := I.turned (t' := s.toks) (fun b o nb z => (sb.2 b nb).trans z) f0 f1 f3 f4 f5
    obtain ⟨o, e, c, d⟩ := id st2
    refine ⟨u, rfl, go_of (s := { s with heap := h2 }) e c d (by decide) ⟨x, H, J, ru, ⟨rfl, fun ys hy => ?_⟩, st2, fun b hb => (f b hb).1⟩⟩
    rw [I.tuple_inj hy hq]
    exact hx
  · rintro X n pins s σ H E rfl rfl rfl hc I f st ⟨xs, hq, hx⟩
    obtain ⟨its, rv, pt, _⟩ := I.tuple hq
    have ff := f it (List.mem_singleton.mpr rfl)
    obtain ⟨f0, f1, f2, f3, f4, f5⟩ := id ff
    obtain ⟨x1, hot, _, ap, _⟩ := hot_over hc I
    have hl := rv.length
    exact tup_end_hot hot (ap it ff) st pt (by rw [List.getElem?_toArray, List.getElem?_eq_none (by omega)]) fun h2 eb => ⟨rfl, I.turned (t' := s.toks) (fun b o nb z => eb b o nb z) f0 f1 f3 f4 f5⟩
end
section
variable {X : Cx} {tg : Expr}
theorem pic_list {l : Expr} {tl : TE} (hl : PE X l tl) : Pic HotC X tg l (iList X.K tl) := by
  intro pins s σ H R I h
  refine thn (hl.run pins s σ H _ I h) fun v s1 ⟨x, H1, I1, r1, a, e, ⟨xs, hq⟩, q⟩ => ?_
  subst e
  cases r1
  obtain ⟨its, rv, pl, _⟩ := I1.list hq
  refine wpAny_pyIter_list pl.isList ⟨s1.heap.objs.size, [s1.heap.objs.size], _, _, H1, rfl, I1.kept (t' := s1.toks) fun b o z => Heap.get?_push_of_some _ z, trn_list a _, ⟨_, Heap.get?_push_size _ rfl, rfl, rfl⟩, fun b hb => ?_, q⟩
  rw [List.mem_singleton.mp hb]
  exact I1.fpOk (Nat.le_refl _) (I1.hok.fresh (Nat.le_refl _))
theorem pic_tup {l : Expr} {tl : TE} (hl : PE X l tl) : Pic HotC X tg l (iTup X.K tl) := by
  intro pins s σ H R I h
  refine thn (hl.run pins s σ H _ I h) fun v s1 ⟨x, H1, I1, r1, a, e, ⟨xs, hq⟩, q⟩ => ?_
  subst e
  cases r1
  obtain ⟨its, rv, pt, _⟩ := I1.tuple hq
  refine wpAny_pyIter_tuple (show s1.heap.IsTuple a its.toArray from pt) ⟨s1.heap.objs.size, [s1.heap.objs.size], _, _, H1, rfl, I1.kept (t' := s1.toks) fun b o z => Heap.get?_push_of_some _ z, trn_tup a _, ⟨_, Heap.get?_push_size _ rfl, rfl, rfl⟩, fun b hb => ?_, q⟩
  rw [List.mem_singleton.mp hb]
  exact I1.fpOk (Nat.le_refl _) (I1.hok.fresh (Nat.le_refl _))
variable {elt iter : Expr} {ifs : List Expr} {scope : Scope} {own : List (Str × Nat)} {pos : Pos} {wi : TI} {g : TG} {tt : TT} {te : TE}
/-- a part of such a comprehension's block: nothing is raised in it, the handled exception is held -/
abbrev InHot (X : Cx) (p : Addr × Obj) (scope : Scope) (R : Cx → Prop) : Prop := ∀ (s : Shared) (H : Hp) (C : Addr) (cl : List (Str × Addr)) (fp : List Addr), R ((X.blk s H scope (compEnvC scope cl C X.env) fp).tr [p] fun _ _ => False)
theorem pe_lcH {p : Addr × Obj} (hp : p ∈ X.pn) (hot : Hot1 X.A p) (hN : X.N.Nodup) (hi : Pic HotC X tg iter wi) (bk : BlkOk X.N X.env.scope scope own) (hg : InHot X p scope fun Y => PG Y tg g) (ht : InHot X p scope fun Y => PTs Y ifs tt) (he : InHot X p scope fun Y => PE Y elt te)
    (hz : ∀ x, foldedSetIterable iter X.env x = pure x := by intro _; rfl) : PE X (.ListComp elt [⟨tg, iter, ifs, 0⟩] scope pos) (tLc wi g tt te (own.map (·.2))) := by
  constructor
  intro pins s σ H Q I h
  rw [eval_ListComp]
  have un : ∀ {Y : Cx} {E : Value → Shared → Prop} {qs : List (Addr × Obj)} {τ : L2.St} {G : Hp} {u : Shared}, Inv (Y.wish E) qs τ G u → Inv Y qs τ G u := fun J => J.unwish
  have to : ∀ {Y : Cx} {E : Value → Shared → Prop} {qs : List (Addr × Obj)} {τ : L2.St} {G : Hp} {u : Shared}, Inv Y qs τ G u → Inv (Y.wish E) qs τ G u := fun J => J.wish _
  refine lc_wide (ok := HotC) (bp := [p]) (use := none) hN I (fun q hq => ?_) (fun _ _ _ _ _ => ⟨p, hot, List.mem_singleton.mpr rfl⟩) hi bk (fun acc s3 H3 C cl fp => ⟨fun qs u τ G v x R J r q => ?_⟩) (fun acc s3 H3 C cl fp _ hC J ok => ⟨fun qs u τ G R J q => ?_⟩) (fun acc s3 H3 C cl fp _ hC J ok => ⟨fun qs u τ G R J q => ?_⟩) hz h ?_
  · rw [List.mem_singleton.mp hq]
    exact List.mem_append_left _ hp
  · exact wpAny_mono ((hg s3 H3 C cl fp).run qs u τ G v x R (to (E := fun _ _ => False) J) r q) (fun _ _ ⟨a, b, c, d⟩ => ⟨a, b, un (E := fun _ _ => False) (Y := blkX X [p] none _ acc s3 H3 scope _ fp) c, d⟩) fun _ _ z => z.elim
  · exact wpAny_mono ((ht s3 H3 C cl fp).run qs u τ G R (to (E := fun _ _ => False) J) q) (fun _ _ ⟨b, c, d⟩ => ⟨b, un (E := fun _ _ => False) (Y := blkX X [p] none _ acc s3 H3 scope _ fp) c, d⟩) fun _ _ z => z.elim
  · exact wpAny_mono ((he s3 H3 C cl fp).run qs u τ G R (to (E := fun _ _ => False) J) q) (fun _ _ ⟨a, b, c, d⟩ => ⟨a, b, un (E := fun _ _ => False) (Y := blkX X [p] none _ acc s3 H3 scope _ fp) c, d⟩) fun _ _ z => z.elim
  · rintro D C s' m H' I' q hn ⟨f0, f1, _, f3, f4, f5⟩
    exact ⟨m, hn, fun h2 sb => ⟨.ref D, H', I'.turned (t' := s'.toks) (fun b o hb z => (sb.2 b hb).trans z) f0 f1 f3 f4 f5, rfl, q⟩⟩
end
end Ag

end
/-! ## TryI -/
section
set_option linter.all false
set_option maxRecDepth 100000
set_option maxHeartbeats 4000000
namespace Ag
open PySem PySem.Spec PyProof.Rows L2
/-! ### isinstance of the exception that the suite holds, with fields of its own -/
/-- isinstance(e, C) -/
def rIsX (K : PySem.W.Frag) (cls : Value) (d : Option Addr) (a : Addr) : List V → Hp → VK → Prop := fun xs H Q => ∃ (D dd : Addr) (fs : List (Str × V)) (c : V) (cv : Value) (b : Bool),
  xs = [.ref a, c] ∧ cls = .ref D ∧ d = some dd ∧ H dd = some (.xd fs) ∧ ExcC K D ∧ (∀ u, RelV c u → u = cv) ∧ PySem.W.kitOne K (.ref D) cv = some b ∧ Q (.bl b) H
theorem call_isX {X : Cx} {a : Addr} {oe : Obj} {cls : Value} {d : Option Addr} {pn : List (Addr × Obj)} (hz : Zc cls d oe) (hf : ∃ vs, oe.data = .fields vs) : CallR (X.suite a ((a, oe) :: pn)) (.builtin "isinstance") (rIsX X.K cls d a) := by
  intro pins s σ H xs us Q I r h
  obtain ⟨D, dd, fs, c, cv, b, rfl, rfl, rfl, ea, C, hcv, e, q⟩ := h
  cases r with
  | cons rx rr =>
    cases rr with
    | cons rt rr =>
      cases rr
      cases rx
      have ec := hcv _ rt
      subst ec
      obtain ⟨hget, _⟩ := I.pin (a, oe) (List.mem_append.mpr (.inl List.mem_cons_self))
      obtain ⟨vs, hv⟩ := hf
      have hx : ObjOk X.prog X.w H s.heap dd (.xd fs) := I.hok dd _ ea
      obtain ⟨mA, hns, _⟩ := hx
      obtain ⟨od, ho, _⟩ := lookIn_ns hns
      have J : PySem.W.InstAt s.heap a oe D (some od) := ⟨hget, hz.1, by unfold PySem.W.notCls; rw [hv] <;> rfl, by rw [hz.2]; exact ho⟩
      obtain ⟨cdD, hcD, _⟩ := PySem.W.any_some C.hd
      exact PySem.W.kia_one (PySem.W.kitx_exc (by rw [hcD] <;> rfl) C.hg C.hk C.hs C.ha C.hn C.ht C.hm) I.kIn J e (fun z => nomatch z) fun tk => ⟨.bl b, H, I.kept (t' := tk) fun _ _ z => z, rfl, q⟩
/-- a class of the module, as a value -/
theorem pe_cls {X : Cx} {x : Str} {C : Addr} {p : Pos} (hg : Gl X x) (hm : X.mg x = some (.ref C)) (hdb : (x == ("__debug__" : Str)) = false := by decide) : PE X (.Name x p) (tC (.ref C)) :=
  ⟨fun pins s σ H Q I h => ld_glob I hg hm ⟨.ref C, H, I, rfl, h⟩ hdb⟩
theorem ref_only {C : Addr} : ∀ u, RelV (.ref C) u → u = .ref C := fun u h => h
end Ag

end
/-! ## XH3 -/
section
set_option linter.all false
set_option maxRecDepth 100000
set_option maxHeartbeats 2000000
namespace Ag
open PySem PySem.Spec PyProof.Rows L2 HotX L2H
section
variable {prog : Program} {w : World} {A : Around} {E : Value → Shared → Prop} {s : Shared} {x1 : Addr}
theorem items_hot {t : Addr} {xs : Array Value} {Q : List Value → Shared → Prop} (hot : HotAt A x1 s.heap) (ht : IsTup s.heap t xs) (k : ∀ h', Heap.ExtBut s.heap.objs.size s.heap h' → Q xs.toList { s with heap := h' }) :
    wpAny (model prog w) A (unpackItems (.ref t) xs.size none) Q E s := by
  obtain ⟨hh, o1, v1, g1, d1, c1⟩ := hot
  have ne : t ≠ s.heap.objs.size := by
    obtain ⟨o, z, _⟩ := ht
    exact Nat.ne_of_lt (Heap.lt_size z)
  unfold unpackItems
  apply wpAny_bind
  unfold notIterableAtAll
  refine wpAny_bind (wpAny_specialOf ht.typeIs slot_tuple_iter.lookup (wpAny_pure ?_))
  simp only [Bool.false_eq_true, if_false]; refine wpAny_bind (wpAny_holding (iter_tuple ht ?_))
  refine wpAny_bind (wpAny_holding (draw_tuple ne xs.size 0 _ _ ⟨_, Heap.get?_push_size _ rfl, rfl, rfl⟩ (ht.push _) (by omega) fun h1 it1 sb => ?_))
  have e : List.take xs.size (List.drop 0 xs.toList) = xs.toList := by rw [List.drop_zero]; exact List.take_of_length_le (by simp)
  rw [e, if_neg (by simp)]
  have lt1 : x1 ≠ s.heap.objs.size := Nat.ne_of_lt (Heap.lt_size g1)
  have at1 : h1.get? x1 = some o1 := (sb.2 x1 lt1).trans (Heap.get?_push_of_some _ g1)
  refine wpAny_bind (wpAny_holding (tup_end_hot (s := { s with heap := h1 }) ⟨hh, o1, v1, at1, d1, c1⟩ lt1 it1 ((ht.push _).extBut sb.extBut ne) (by simp) fun h2 eb => ?_))
  simp only [Option.isSome_none, Bool.false_eq_true, if_false]; exact wpAny_pure (k h2 fun b o nb z => eb b o nb (sb.extBut b o nb (Heap.get?_push_of_some _ z)))
end
section
variable {X : Cx} {pos : Pos}
/-- (a, b, ..) = a tuple of that length -/
theorem pg_tupH {es : List Expr} {k : Nat} {t : TGs} {n : Nat} (c : HotC X) (h : PGs X es t) (hn : (assignEach es X.env).length = n := by rfl) (hst : (assignEach es X.env).findIdx? (·.1) = none := by rfl) : PG X (.Tuple es k pos) (gTup X.K n t) := by
  constructor
  intro pins s σ H v u Q I r ⟨a, xs, e1, hq, hl, q⟩
  subst e1
  cases r
  obtain ⟨its, rv, ht, _⟩ := I.tuple hq
  obtain ⟨x1, hot, _⟩ := hot_over c I
  have len : (assignEach es X.env).length = its.toArray.size := by rw [hn, ← hl, rv.length]; simp
  rw [assign_Tuple]
  refine wpAny_bind (wpAny_standAt ?_)
  unfold unpack
  rw [len, hst]
  refine wpAny_bind (wpAny_holding (items_hot hot ht fun h2 eb => ?_))
  exact h.run pins _ σ H xs _ Q (I.kept (t' := s.toks) fun b o z => eb b o (Nat.ne_of_lt (Heap.lt_size z)) z) (by simpa using rv) q
/-- a, b = x, y -/
theorem ps_parH {i j : Nat} {x y : Str} {a b : Expr} {ta : TA} {px py pt : Pos} {kt k2 pt2} (c : HotC X) (hN : X.N.Nodup) (hi : X.N[i]? = some x) (hj : X.N[j]? = some y) (hij : i ≠ j) (hx : X.env.scope.names.lookup x = some .local) (hy : X.env.scope.names.lookup y = some .local)
    (ha : PA X [a, b] ta) (hw : swappedStores [.Tuple [.Name x px, .Name y py] kt pt] (.Tuple [a, b] k2 pt2) X.env = pure (some [x, y])) (hs : swapsWithSole [.Tuple [.Name x px, .Name y py] kt pt] (.Tuple [a, b] k2 pt2) pos.line X.env = pure false := by rfl) :
    PS X (.Assign [.Tuple [.Name x px, .Name y py] kt pt] (.Tuple [a, b] k2 pt2) pos) (tPar i j ta) := by
  constructor
  intro pins s σ H D I h
  rw [exec_Assign_arm]; refine wpAny_bind (wpAny_standAt ?_)
  rw [hs]; refine wpAny_bind (wpAny_pure ?_)
  rw [if_neg (by decide)]; refine wpAny_bind (Tuple_ (thn (ha.run _ pins s σ H _ I h) fun us s1 ⟨vs, H1, I1, r1, v, w, e1, q1⟩ => ?_))
  subst e1
  obtain ⟨u1, u2, eu, rv, rw'⟩ : ∃ u1 u2, us = [u1, u2] ∧ RelV v u1 ∧ RelV w u2 := by
    cases r1 with
    | cons k1 l1 => cases l1 with
      | cons k2 l2 => cases l2; exact ⟨_, _, rfl, k1, k2⟩
  subst eu
  refine wpAny_newObj_type ?_ (by show 2 ≤ sizeLine; decide)
  have I2 : Inv X pins σ H1 { s1 with heap := s1.heap.push { cls := .type "tuple", data := .seq [u1, u2].toArray } } := I1.kept (t' := s1.toks) fun _ _ z => Heap.get?_push_of_some _ z
  rw [hw]; refine wpAny_bind (wpAny_pure ?_)
  show wpAny (model X.prog X.w) X.A (do rule "assign.swapped-stores"; let items ← unpackItems (.ref s1.heap.objs.size) 2 none; assignInOrder [fun v => bindName X.env y v, fun v => bindName X.env x v] items.reverse; pure Flow.next) (SP X pins D) _ _
  obtain ⟨x1, hot, _⟩ := hot_over c I2
  refine wpAny_bind (wpAny_rule (wpAny_bind (items_hot (s := { s1 with heap := s1.heap.push { cls := .type "tuple", data := .seq [u1, u2].toArray } }) (xs := #[u1, u2]) hot (IsTup.new s1.heap _) fun h2 eb => ?_)))
  have I3 := I2.kept (h' := h2) (t' := s1.toks) fun b o z => eb b o (Nat.ne_of_lt (Heap.lt_size z)) z
  refine wpAny_bind (assignInOrder_cons (wpAny_bindName (store_ok I3 hN hj (.inl hy) rw' (fun s2 I4 => assignInOrder_cons (wpAny_bindName (store_ok I4 hN hi (.inl hx) rv (fun s3 I5 => assignInOrder_nil (wpAny_pure ?_)) (.inr hx)))) (.inr hy))))
  rw [List.set_comm _ _ (Ne.symm hij)] at I5; exact ⟨_, H1, I5, q1⟩
/-- name = [..] on one line -/
theorem ps_setLcH {elt tg iter : Expr} {ifs : List Expr} {scope : Scope} {own : List (Str × Nat)} {wi : TI} {g : TG} {tt : TT} {te : TE} {i : Nat} {y : Str} {py spos : Pos} {p : Addr × Obj} (hp : p ∈ X.pn) (hot : Hot1 X.A p) (hN : X.N.Nodup) (hy : X.N[i]? = some y) (hl : X.env.scope.names.lookup y = some .local)
    (hsw : swapsWith (.ListComp elt [⟨tg, iter, ifs, 0⟩] scope pos) (some (.Name y py)) spos.line X.env = pure true) (hi : Pic HotC X tg iter wi) (bk : BlkOk X.N X.env.scope scope own)
    (hg : InHot X p scope fun Y => PG Y tg g) (ht : InHot X p scope fun Y => PTs Y ifs tt) (he : InHot X p scope fun Y => PE Y elt te) (hz : ∀ x, foldedSetIterable iter X.env x = pure x := by intro _; rfl) :
    PS X (.Assign [.Name y py] (.ListComp elt [⟨tg, iter, ifs, 0⟩] scope pos) spos) (tAsg (tLc wi g tt te (own.map (·.2))) (gName i)) := by
  constructor
  intro pins s σ H D I h
  rw [exec_Assign_Name_used _ _ _ _ hsw]
  apply wpAny_bind
  apply wpAny_standAt
  apply wpAny_bind
  have h : tLc wi g tt te (own.map (·.2)) σ H (fun x G => gName i x σ G D.nx) := h
  show wpAny _ X.A (do let _ ← comprehension (.ListComp elt [⟨tg, iter, ifs, 0⟩] scope pos) scope X.env (firstIterPos [⟨tg, iter, ifs, 0⟩] pos) (newList []) false (eval iter X.env) (some (assign (.Name y py) X.env))) _ _ s; apply wpAny_bind
  have un : ∀ {Y : Cx} {E : Value → Shared → Prop} {qs : List (Addr × Obj)} {τ : L2.St} {G : Hp} {u : Shared}, Inv (Y.wish E) qs τ G u → Inv Y qs τ G u := fun J => J.unwish
  have to : ∀ {Y : Cx} {E : Value → Shared → Prop} {qs : List (Addr × Obj)} {τ : L2.St} {G : Hp} {u : Shared}, Inv Y qs τ G u → Inv (Y.wish E) qs τ G u := fun J => J.wish _
  refine thn (lc_wide (ok := HotC) (bp := [p]) (use := some (assign (.Name y py) X.env)) (Qf := fun _ u => SP X pins D .next u) hN I (fun q hq => ?_) (fun _ _ _ _ _ => ⟨p, hot, List.mem_singleton.mpr rfl⟩) hi bk (fun acc s3 H3 C cl fp => ⟨fun qs u τ G v x R J r q => ?_⟩) (fun acc s3 H3 C cl fp _ hC J ok => ⟨fun qs u τ G R J q => ?_⟩) (fun acc s3 H3 C cl fp _ hC J ok => ⟨fun qs u τ G R J q => ?_⟩) hz h ?_) fun _ s2 q => wpAny_pure (wpAny_pure q)
  · rw [List.mem_singleton.mp hq]
    exact List.mem_append_left _ hp
  · exact wpAny_mono ((hg s3 H3 C cl fp).run qs u τ G v x R (to (E := fun _ _ => False) J) r q) (fun _ _ ⟨a, b, c, d⟩ => ⟨a, b, un (E := fun _ _ => False) (Y := blkX X [p] (some (assign (.Name y py) X.env)) (fun _ u => SP X pins D .next u) acc s3 H3 scope _ fp) c, d⟩) fun _ _ z => z.elim
  · exact wpAny_mono ((ht s3 H3 C cl fp).run qs u τ G R (to (E := fun _ _ => False) J) q) (fun _ _ ⟨b, c, d⟩ => ⟨b, un (E := fun _ _ => False) (Y := blkX X [p] (some (assign (.Name y py) X.env)) (fun _ u => SP X pins D .next u) acc s3 H3 scope _ fp) c, d⟩) fun _ _ z => z.elim
  · exact wpAny_mono ((he s3 H3 C cl fp).run qs u τ G R (to (E := fun _ _ => False) J) q) (fun _ _ ⟨a, b, c, d⟩ => ⟨a, b, un (E := fun _ _ => False) (Y := blkX X [p] (some (assign (.Name y py) X.env)) (fun _ u => SP X pins D .next u) acc s3 H3 scope _ fp) c, d⟩) fun _ _ z => z.elim
  · rintro L C s' m H' I' q hn ⟨f0, f1, _, f3, f4, f5⟩
    show wpAny _ _ (assign (.Name y py) X.env (.ref L)) (fun _ u => ∃ m, u.heap.Ns C m ∧ _) _ _
    refine wpAny_assign_Name (store_ok2 (v := V.ref L) I' hN hy (.inl hl) rfl (fun s3 I3 ⟨a, sb, ha⟩ => ?_) (.inr hl))
    have away : C ≠ a := fun z => by
      rcases ha with q | q
      · exact f1 (z.trans q)
      · exact f4 y a q z.symm
    exact ⟨m, hn.sameBut sb away, fun h4 sb4 => ⟨_, H', I3.turned (t' := s3.toks) (fun b o hb z => (sb4.2 b hb).trans z) f0 f1 f3 f4 f5, q⟩⟩
end
/-! ### isinstance of the handled exception, its fields, wherever the context holds it -/
theorem call_isH {X : Cx} {a : Addr} {oe : Obj} {cls : Value} {d : Option Addr} (hp : (a, oe) ∈ X.pn) (hz : Zc cls d oe) (hf : ∃ vs, oe.data = .fields vs) : CallR X (.builtin "isinstance") (rIsX X.K cls d a) := by
  rintro pins s σ H xs us Q I r ⟨D, dd, fs, c, cv, b, rfl, rfl, rfl, ea, C, hcv, e, q⟩
  match us, r with
  | [u1, u2], .cons rx (.cons rt .nil) =>
    cases rx
    have ec := hcv _ rt
    subst ec
    obtain ⟨hget, _⟩ := I.pin (a, oe) (List.mem_append_left _ hp)
    obtain ⟨vs, hv⟩ := hf
    have hx : ObjOk X.prog X.w H s.heap dd (.xd fs) := I.hok dd _ ea
    obtain ⟨mA, hns, _⟩ := hx
    obtain ⟨od, ho, _⟩ := lookIn_ns hns
    obtain ⟨cdD, hcD, _⟩ := PySem.W.any_some C.hd
    exact PySem.W.kia_one (PySem.W.kitx_exc (by rw [hcD] <;> rfl) C.hg C.hk C.hs C.ha C.hn C.ht C.hm) I.kIn (show PySem.W.InstAt s.heap a oe D (some od) from ⟨hget, hz.1, by unfold PySem.W.notCls; rw [hv] <;> rfl, by rw [hz.2]; exact ho⟩) e (fun z => nomatch z) fun tk => ⟨.bl b, H, I.kept (t' := tk) fun _ _ z => z, rfl, q⟩
end Ag

end
/-! ## XT -/
section
set_option linter.all false
set_option maxRecDepth 100000
namespace Ag
open PySem PySem.Spec PyProof.Rows L2
/-! ### which clause an exception meets, where a clause names several classes -/
theorem go_through {M : Model} {h : Heap} {α : Type} {f : α → PUnit → Sem (ForInStep PUnit)} : ∀ {l : List α}, (∀ c ∈ l, PySem.W.Looks M h (f c PUnit.unit) (.yield PUnit.unit)) → PySem.W.Looks M h (forIn l PUnit.unit f) PUnit.unit
  | [], _ => by
    rw [List.forIn_nil]
    exact .now
  | c :: l, hf => by
    rw [List.forIn_cons]
    exact (hf c List.mem_cons_self).andThen (go_through fun d hd => hf d (List.mem_cons_of_mem _ hd))
theorem go_until {M : Model} {h : Heap} {α : Type} {f : α → Option Bool × Unit → Sem (ForInStep (Option Bool × Unit))} {t : α → Bool} : ∀ {l : List α}, (∀ c ∈ l, PySem.W.Looks M h (f c (none, ())) (if t c = true then .done (some true, ()) else .yield (none, ()))) →
    PySem.W.Looks M h (forIn l (none, ()) f) (if l.any t = true then (some true, ()) else (none, ()))
  | [], _ => by
    rw [List.forIn_nil]
    exact .now
  | c :: l, hf => by
    rw [List.forIn_cons, List.any_cons]
    have h1 := hf c List.mem_cons_self
    cases ht : t c with
    | true =>
      rw [ht] at h1
      exact h1.andThen .now
    | false =>
      rw [ht] at h1
      exact h1.andThen (go_until fun d hd => hf d (List.mem_cons_of_mem _ hd))
/-- what is known of each class that is named -/
theorem each_named {K : PySem.W.Frag} {cls : Value} : ∀ {cs : List Value} {b : Bool}, PySem.W.exmAny K cls cs = some b → ∃ t : Value → Bool, (∀ c ∈ cs, PySem.W.exmOne K cls c = some (t c)) ∧ cs.any t = b
  | [], b, h => ⟨(fun _ => false), ⟨(fun _ z => nomatch z), Option.some.inj h⟩⟩
  | c :: cs, b, h => by
    obtain ⟨b1, d1, h1, h2, rfl⟩ := PySem.W.exmAny_cons h
    obtain ⟨t, ht, ha⟩ := each_named h2
    refine ⟨fun v => (PySem.W.exmOne K cls v).getD false, fun v hv => ?_, ?_⟩
    · rcases List.mem_cons.mp hv with rfl | hv
      · dsimp only; rw [h1]; rfl
      · dsimp only; rw [ht v hv]; rfl
    · have e : cs.any (fun v => (PySem.W.exmOne K cls v).getD false) = cs.any t := by
        rw [Bool.eq_iff_iff, List.any_eq_true, List.any_eq_true]
        constructor
        · rintro ⟨v, hv, e⟩
          rw [ht v hv] at e
          exact ⟨v, hv, e⟩
        · rintro ⟨v, hv, e⟩
          exact ⟨v, hv, by rw [ht v hv]; exact e⟩
      rw [List.any_cons, e, ha, h1]
      rfl
theorem exm_row {M : Model} {K : PySem.W.Frag} {h : Heap} {cls : Value} {tp e : Addr} {cs : List Value} {b : Bool} (X : K.In h) (LT : PySem.W.Looks M h (typeOf (.ref e)) cls)
    (hp : h.get? tp = some { cls := .type "tuple", data := .seq cs.toArray }) (hx : PySem.W.exmAny K cls cs = some b) : PySem.W.Looks M h (excMatches (.ref e) (.ref tp)) b := by
  obtain ⟨t, ht, rfl⟩ := each_named hx
  have one := fun c hc => PySem.W.exm_cls (M := M) X (ht c hc)
  have tup : PySem.W.Looks M h (isInstance (.ref tp) (.type "tuple")) true := ((PySem.W.Looks.ld hp).andThen .now).andThen (.of_pure isSubtype_tuple_tuple)
  intro A Q E s k q
  unfold excMatches
  refine wpAny_bind ((tup.keeps k).here ?_)
  rw [if_pos rfl]
  have hp2 := k _ _ hp
  have l1 : PySem.W.Looks M s.heap (forIn cs PUnit.unit fun (c : Value) (_ : PUnit) => (do
      let is ← isExcClass c
      if (!is) = true then do
        rule "try.except-non-exception-class"
        raiseErrorWords "TypeError" "catching classes that do not inherit from BaseException is not allowed"
        pure (ForInStep.yield PUnit.unit)
      else pure (ForInStep.yield PUnit.unit) : Sem (ForInStep PUnit))) PUnit.unit := go_through fun c hc => ((one c hc).1.keeps k).andThen .now
  have l2 : PySem.W.Looks M s.heap (forIn cs ((none, ()) : Option Bool × Unit) fun (c : Value) (_ : Option Bool × Unit) => (do
      let is ← isSubtype cls c
      if is = true then pure (ForInStep.done (some true, ())) else pure (ForInStep.yield (none, ())) : Sem (ForInStep (Option Bool × Unit)))) (if cs.any t = true then (some true, ()) else (none, ())) :=
    go_until fun c hc => ((one c hc).2.keeps k).andThen (by cases t c <;> exact .now)
  have items := fun {Q : Option (Array Value) → Shared → Prop} (z : Q (some cs.toArray) s) => wpAny_seqItems (M := M) (A := A) (E := E) hp2 rfl z
  refine wpAny_bind (items ?_)
  refine wpAny_bind (wpAny_pure ?_)
  show wpAny M A _ Q E s
  dsimp only [Option.getD_some]
  refine wpAny_bind (l1.here ?_)
  refine wpAny_bind ((LT.keeps k).here ?_)
  refine wpAny_bind (l2.here ?_)
  cases ha : cs.any t with
  | true => rw [ha] at q; exact wpAny_pure q
  | false => rw [ha] at q; exact wpAny_pure q
end Ag

end
/-! ## XU -/
section
set_option linter.all false
set_option maxRecDepth 100000
namespace Ag
open PySem PySem.Spec PyProof.Rows L2
/-! ### except clauses that name classes, one or several each, as n -/
/-- an exception in the hand of a frame that looks for its clause -/
structure Hand (X : Cx) (pins : List (Addr × Obj)) (σ : L2.St) (H : Hp) (B : Heap) (a : Addr) (cls : Value) (d : Option Addr) (s0 s : Shared) : Prop where
  inv : Inv X pins σ H s0
  low : ∀ b o, s0.heap.get? b = some o → b ∉ frs X.stack → B.get? b = some o
  up : s0.heap.UpToSlots s.heap
  fly : HandSPX.FlyingZ B (X.env :: X.outer) a (Zc cls d) s.heap
  free : H a = none
  os : s.os = s0.os
  bare : AllBare s.gens
section
variable {X : Cx} {pins : List (Addr × Obj)} {σ : L2.St} {H : Hp} {B : Heap} {a : Addr} {cls : Value} {d : Option Addr} {s0 s : Shared}
theorem Hand.now (h : Hand X pins σ H B a cls d s0 s) : Inv X pins σ H s := h.inv.landed h.low h.fly.1 h.up h.os h.bare
/-- things that were made meanwhile take nothing out of the hand -/
theorem Hand.more (h : Hand X pins σ H B a cls d s0 s) {h' : Heap} (k : ∀ b o, s.heap.get? b = some o → h'.get? b = some o) : Hand X pins σ H B a cls d s0 { s with heap := h' } := by
  obtain ⟨f1, f2, f3, oe, vs, T, oT, ts, z1, z2, z3, z4, z5, z6, z7, z8, z9⟩ := h.fly
  exact ⟨h.inv, h.low, h.up.trans (Heap.UpToSlots.of_keeps k), ⟨fun b o e => k b o (f1 b o e), f2, f3.of_keeps (fun b o e _ => ⟨o, k b o e, rfl⟩), oe, vs, T, oT, ts, k _ _ z1, z2, z3, z4, z5, z6, k _ _ z7, z8, z9⟩, h.free, h.os, h.bare⟩
/-- the exception itself, and that it is none of the frames -/
theorem Hand.obj (hs : X.stack = X.env :: X.outer) (hf : X.env.frame = some X.env.locals) (h : Hand X pins σ H B a cls d s0 s) :
    ∃ oe vs, s.heap.get? a = some oe ∧ Zc cls d oe ∧ oe.data = .fields vs ∧ Inv (X.suite a ((a, oe) :: (X.pn ++ pins))) [] σ H s := by
  obtain ⟨oe, vs, e, z, dd⟩ := h.fly.there
  have out : a ∉ frs (X.env :: X.outer) := fun m => by
    obtain ⟨_, u, eu, hu⟩ := h.fly.2.2.1.mem m
    have := Option.some.inj (e.symm.trans eu)
    subst this
    exact hu vs dd
  refine ⟨oe, vs, e, z, dd, h.now.suite e dd h.free (fun q => out ?_) (fun m => out ?_)⟩
  · rw [q]
    exact List.mem_filterMap.mpr ⟨X.env, List.mem_cons_self, hf⟩
  · obtain ⟨v, hv, ev⟩ := List.mem_filterMap.mp m
    exact List.mem_filterMap.mpr ⟨v, List.mem_cons_of_mem _ hv, ev⟩
/-- what a test tells: the classes cs, in any state of the hand -/
def TestsFor (X : Cx) (t : Expr) (cs : List Value) : Prop := ∀ {a : Addr} {pn : List (Addr × Obj)} {σ : L2.St} {H : Hp} {s : Shared} {cls : Value} {b : Bool} {Q : Bool → Shared → Prop} {E : Value → Shared → Prop},
  Inv (X.suite a pn) [] σ H s → PySem.W.Looks (model X.prog X.w) s.heap (typeOf (.ref a)) cls → PySem.W.exmAny X.K cls cs = some b → (∀ h', (∀ b o, s.heap.get? b = some o → h'.get? b = some o) → Q b { s with heap := h' }) →
  wpAny (model X.prog X.w) (X.A.mark (some (.ref a))) (eval t X.env) (fun c s1 => wpAny (model X.prog X.w) (X.A.mark (some (.ref a))) (excMatches (.ref a) c) Q E s1) E s
theorem name_in {a : Addr} {pn : List (Addr × Obj)} {x : Str} {c : Value} {np : Pos} {Q : Value → Shared → Prop} {E : Value → Shared → Prop} (I : Inv (X.suite a pn) [] σ H s) (hc : Names X x c) (q : Q c s) :
    wpAny (model X.prog X.w) (X.A.mark (some (.ref a))) (eval (.Name x np) X.env) Q E s := by
  rcases hc with ⟨g, nd, m | ⟨m, v, nn⟩⟩
  · exact ld_glob (X := X.suite a pn) I g m q nd
  · exact ld_blt (X := X.suite a pn) I g m v q nn nd
theorem tests_one {x : Str} {c : Value} {np : Pos} (hc : Names X x c) : TestsFor X (.Name x np) [c] := by
  intro a pn σ H s cls b Q E I LT e q
  obtain ⟨b1, d1, e1, e2, rfl⟩ := PySem.W.exmAny_cons e
  have : d1 = false := (Option.some.inj e2).symm
  subst this
  rw [Bool.or_false] at q
  exact name_in I hc ((PySem.W.exm_one I.kIn LT e1).here (q s.heap fun _ _ z => z))
/-- names of classes, in a row -/
inductive Named (X : Cx) : List Expr → List Value → Prop
  | nil : Named X [] []
  | cons {x : Str} {c : Value} {np : Pos} {es : List Expr} {cs : List Value} (hc : Names X x c) (r : Named X es cs) : Named X (.Name x np :: es) (c :: cs)
theorem Named.len {es : List Expr} {cs : List Value} (n : Named X es cs) : cs.length = es.length := by
  induction n with
  | nil => rfl
  | cons _ _ ih => rw [List.length_cons, List.length_cons, ih]
theorem Named.run {es : List Expr} {cs : List Value} (n : Named X es cs) {a : Addr} {pn : List (Addr × Obj)} {pos : Pos} {E : Value → Shared → Prop} (I : Inv (X.suite a pn) [] σ H s) : ∀ {Q : List Value → Shared → Prop}, Q cs s →
    wpAny (model X.prog X.w) (X.A.mark (some (.ref a))) (spliced (backTo pos (starEach es X.env))) Q E s := by
  induction n with
  | nil => exact fun q => wpAny_items_nil q
  | cons hc _ ih => exact fun {Q} q => wpAny_items_cons (name_in I hc (ih (Q := fun vs s2 => Q (_ :: vs) s2) q))
theorem tests_row {es : List Expr} {cs : List Value} {k : Nat} {p : Pos} (n : Named X es cs) (hl : es.length ≤ 1000) : TestsFor X (.Tuple es k p) cs := by
  intro a pn σ H s cls b Q E I LT e q
  have fits : cs.length ≤ sizeLine := by rw [n.len, sizeLine_eq]; omega
  have grow : ∀ b o, s.heap.get? b = some o → (s.heap.push { cls := .type "tuple", data := .seq cs.toArray }).get? b = some o := fun _ _ z => Heap.get?_push_of_some _ z
  exact wpAny_Tuple (n.run I ⟨fits, (exm_row (I.kIn.keeps grow) (LT.keeps grow) (Heap.get?_push_size s.heap rfl) e).here (q _ grow)⟩)
end
end Ag

end
/-! ## XV -/
section
set_option linter.all false
set_option maxRecDepth 100000
namespace Ag
open PySem PySem.Spec PyProof.Rows L2
abbrev Clause := List Value × Nat × (Addr → Value → Option Addr → TS)
/-- behind a clause its name is gone -/
def Ends.less (D : Ends) (i : Nat) : Ends := { nx := fun σ H => D.nx (σ.set i none) H, rt := D.rt, bk := fun σ H => D.bk (σ.set i none) H, ct := fun σ H => D.ct (σ.set i none) H }
def wCl (K : PySem.W.Frag) (Wout : WX) (D : Ends) : List Clause → WX
  | [] => Wout
  | c :: l => fun cls d σ H => ∃ b, PySem.W.exmAny K cls c.1 = some b ∧ (b = true → ∀ a, H a = none → c.2.2 a cls d (Ends.less D c.2.1) (σ.set c.2.1 (some (.ref a))) H) ∧ (b = false → wCl K Wout D l cls d σ H)
inductive Clauses (X : Cx) : List ExceptHandler → List Clause → Prop
  | nil : Clauses X [] []
  | cons {t : Expr} {n : Str} {cs : List Value} {i : Nat} {ts : Addr → Value → Option Addr → TS} {b₀ : Stmt} {suite : List Stmt} {p : Pos} {hds : List ExceptHandler} {l : List Clause} (test : TestsFor X t cs) (hi : X.N[i]? = some n) (hl : X.env.kindOf n = some .local)
      (hsu : ∀ (a : Addr) (oe : Obj) (cls : Value) (d : Option Addr) (pn : List (Addr × Obj)), Zc cls d oe → (∃ vs, oe.data = .fields vs) → PSs (X.suite a ((a, oe) :: pn)) (b₀ :: suite) (ts a cls d)) (r : Clauses X hds l) :
      Clauses X (.ExceptHandler (some t) (some n) (b₀ :: suite) p :: hds) ((cs, i, ts) :: l)
section
variable {X : Cx} {pins : List (Addr × Obj)} {σ : L2.St} {H : Hp} {B : Heap} {a : Addr} {cls : Value} {d : Option Addr} {s0 s : Shared} {Wout : WX} {D : Ends}
theorem Hand.ty (h : Hand X pins σ H B a cls d s0 s) : PySem.W.Looks (model X.prog X.w) s.heap (typeOf (.ref a)) cls := by
  obtain ⟨oe, vs, e, z, _⟩ := h.fly.there
  exact fun A Q E s2 k q => wpAny_typeOf_ref (k _ _ e) (by rw [z.1]; exact q)
/-- no clause is left: on it flies -/
theorem Hand.passes (hs : X.stack = X.env :: X.outer) (hf : X.env.frame = some X.env.locals) (tk : Takes X Wout) (h : Hand X pins σ H B a cls d s0 s) (q : Wout cls d σ H) {Q : Flow → Shared → Prop} :
    wpAny (model X.prog X.w) X.A (handleBy (.ref a) X.env []) Q X.xe s := by
  obtain ⟨_, _, _, oe, vs, T, oT, ts, z1, z2, z3, z4, z5, z6, z7, z8, z9⟩ := id h.fly
  have gone : wpAny (model X.prog X.w) X.A (setFlight (.ref a) X.env.frame) (fun _ s4 => wpAny (model X.prog X.w) X.A (throw (.ref a) : Sem Flow) Q X.xe s4) X.xe s := by
    rw [hf]
    exact HandSPX.setFlight_upZ h.fly fun h4 held up4 => wpAny_throw (tk _ _ ⟨a, B, s0, pins, σ, H, cls, d, rfl, h.inv, h.low, h.up.trans up4, .inr (.inr (by rw [hs]; exact held)), h.free, h.os, h.bare, q⟩)
  refine wpAny_handleBy_nil ?_
  unfold PySem.passOn
  refine wpAny_bind (wpAny_field z1 z3 z4 ?_)
  rw [if_neg (by simp)]
  first
    | exact wpAny_bind gone
    | exact wpAny_bind (wpAny_pure (wpAny_bind gone))
/-- the suite of the clause that it meets -/
theorem Hand.meets (hs : X.stack = X.env :: X.outer) (hf : X.env.frame = some X.env.locals) (hN : X.N.Nodup) {n : Str} {i : Nat} {ts : Addr → Value → Option Addr → TS} {b₀ : Stmt} {suite : List Stmt} {p p2 : Pos} (hi : X.N[i]? = some n) (hl : X.env.kindOf n = some .local)
    (hsu : ∀ (a : Addr) (oe : Obj) (cls : Value) (d : Option Addr) (pn : List (Addr × Obj)), Zc cls d oe → (∃ vs, oe.data = .fields vs) → PSs (X.suite a ((a, oe) :: pn)) (b₀ :: suite) (ts a cls d))
    (h : Hand X pins σ H B a cls d s0 s) (q : ts a cls d (Ends.less D i) (σ.set i (some (.ref a))) H) {R : Result → Shared → Prop}
    (hR : ∀ f s2, (wpAny (model X.prog X.w) X.A (do bindName X.env n .none; unbindBehindTheSuite X.env n p2) (fun _ s3 => SP X pins D f s3) X.xe s2) → R (.ok f) s2) :
    codeAny (model X.prog X.w) (X.A.mark (some (.ref a))) (.handlers (.ref a) [.ExceptHandler none (some n) (b₀ :: suite) p] X.env) R s := by
  refine codeAny_handlers_suite_as (HandSPX.lands_againZ h.fly fun h4 fl4 up4 => ?_)
  have h2 : Hand X pins σ H B a cls d s0 { s with heap := h4 } := ⟨h.inv, h.low, h.up.trans up4, fl4, h.free, h.os, h.bare⟩
  obtain ⟨oe, vs, e, z, dd, I⟩ := h2.obj hs hf
  refine store_ok (X := X.suite a ((a, oe) :: (X.pn ++ pins))) (v := .ref a) I hN hi (.inl hl) rfl (fun s5 I5 => ?_) (.inr hl)
  refine wpAny_mono ((hsu a oe cls d (X.pn ++ pins) z ⟨vs, dd⟩).run [] s5 _ H _ I5 q) (fun f s6 hf6 => hR f s6 ?_) fun _ _ x => x.elim
  have wipe : ∀ {σ6 : L2.St} {H6 : Hp} {Q : Shared → Prop}, Inv (X.suite a ((a, oe) :: (X.pn ++ pins))) [] σ6 H6 s6 → (∀ s7, Inv X pins (σ6.set i none) H6 s7 → Q s7) →
      wpAny (model X.prog X.w) X.A (do bindName X.env n .none; unbindBehindTheSuite X.env n p2) (fun _ s7 => Q s7) X.xe s6 := fun J k => gone_ok (J.unsuite h.inv.ok) hN hi hl k
  match f, hf6 with
  | .next, ⟨_, _, J, q6⟩ => exact wipe J fun s7 J7 => ⟨_, _, J7, q6⟩
  | .brk, ⟨_, _, J, q6⟩ => exact wipe J fun s7 J7 => ⟨_, _, J7, q6⟩
  | .cont, ⟨_, _, J, q6⟩ => exact wipe J fun s7 J7 => ⟨_, _, J7, q6⟩
  | .ret u, ⟨_, _, _, J, rv, q6⟩ => exact wipe J fun s7 J7 => ⟨_, _, _, J7, rv, q6⟩
theorem Hand.goes (hs : X.stack = X.env :: X.outer) (hf : X.env.frame = some X.env.locals) (hN : X.N.Nodup) (tk : Takes X Wout) {hds : List ExceptHandler} {l : List Clause} (C : Clauses X hds l) :
    ∀ {s : Shared}, Hand X pins σ H B a cls d s0 s → wCl X.K Wout D l cls d σ H → wpAny (model X.prog X.w) X.A (handleBy (.ref a) X.env hds) (SP X pins D) X.xe s := by
  induction C with
  | nil => exact fun h q => h.passes hs hf tk q
  | cons test hi hl hsu _ ih =>
    rintro s h ⟨b, e, yes, no⟩
    obtain ⟨oe, vs, _, _, _, I⟩ := h.obj hs hf
    refine wpAny_handleBy_cons (codeAny_handlers_test (test I h.ty e fun h' k => ?_)) fun z => nomatch z
    have h2 := h.more k
    cases b with
    | false => exact ih h2 (no rfl)
    | true => exact h2.meets hs hf hN hi hl hsu (yes rfl a h.free) fun f s2 z => z
variable {body : List Stmt} {h₀ : ExceptHandler} {hds : List ExceptHandler} {l : List Clause} {p : Pos} {tb : WX → TS}
/-- what is raised in the body, as it comes to the clauses -/
abbrev comes (X : Cx) (hds : List ExceptHandler) (pins : List (Addr × Obj)) (D : Ends) (u : Value) (s1 : Shared) : Prop :=
  wpAny (model X.prog X.w) X.A (noteFrame u X.env) (fun _ s2 => wpAny (model X.prog X.w) X.A (setFlight u none) (fun _ s3 => wpAny (model X.prog X.w) X.A (handleBy u X.env hds) (SP X pins D) X.xe s3) X.xe s2) X.xe s1
theorem ps_try_cl (hs : X.stack = X.env :: X.outer) (hf : X.env.frame = some X.env.locals) (hN : X.N.Nodup) (tk : Takes X Wout)
    (hb : ∀ (W : WX) (pn : List (Addr × Obj)) (xe : Value → Shared → Prop), Takes (X.tr pn xe) W → PassesOwn (model X.prog X.w) X.A X.env xe → PSs (X.tr pn xe) body (tb W)) (C : Clauses X (h₀ :: hds) l) :
    PS X (.Try body (h₀ :: hds) [] [] p) (fun D σ H => tb (wCl X.K Wout D l) D σ H) := by
  constructor
  intro pins s σ H D I q
  have fr : X.A.frames = some (X.env :: X.outer) := I.ok.frames.trans (congrArg some hs)
  apply wpAny_Try_except
  have caught : Takes (X.tr (X.pn ++ pins) (comes X (h₀ :: hds) pins D)) (wCl X.K Wout D l) := fun u s1 x => ?_
  · have bodyOk := hb (wCl X.K Wout D l) (X.pn ++ pins) (comes X (h₀ :: hds) pins D) caught PassesOwn.looking
    refine wpAny_mono (bodyOk.run [] s σ H D (I.toTry _) q) (fun f s1 x => ?_) fun _ _ x => x
    match f, x with
    | .next, ⟨_, _, J, q1⟩ => exact wpAny_execs_nil ⟨_, _, J.ofTry I.ok, q1⟩
    | .brk, ⟨_, _, J, q1⟩ => exact ⟨_, _, J.ofTry I.ok, q1⟩
    | .cont, ⟨_, _, J, q1⟩ => exact ⟨_, _, J.ofTry I.ok, q1⟩
    | .ret u, ⟨_, _, _, J, rv, q1⟩ => exact ⟨_, _, _, J.ofTry I.ok, rv, q1⟩
  · obtain ⟨a, B, s0, pins', σ1, H1, cls, d, rfl, J, low, up, sky, na, os, ag, w⟩ := x
    exact Sky.land Zc.steady fr hf (by rw [← hs]; exact sky) fun h3 fl up3 => Hand.goes hs hf hN tk C ⟨J.ofTry I.ok, low, up.trans up3, fl, na, os, ag⟩ w
end
end Ag

end
/-! ## XVN -/
section
set_option linter.all false
set_option maxRecDepth 100000
namespace Ag
open PySem PySem.Spec PyProof.Rows L2
/-! ### except clauses that name classes, for exceptions whose context is None -/
/-! ### an except clause's name goes: a local name, or one that a block within reads too -/
/-- names of the def's own -/
def Own (X : Cx) (n : Str) : Prop := X.env.scope.names.lookup n = some .local ∨ (X.env.scope.names.lookup n = some .cell ∧ X.fn n = true)
theorem Own.loc {X : Cx} {n : Str} (h : Own X n) : Loc X.env.scope n := h.imp id (·.1)
theorem Own.fn {X : Cx} {n : Str} (h : Own X n) : X.fn n = true ∨ X.env.scope.names.lookup n = some .local := h.elim .inr fun z => .inl z.2
section
variable {X : Cx} {pins : List (Addr × Obj)} {σ : L2.St} {H : Hp} {s : Shared}
/-- a cell of the def's is emptied -/
theorem cell_out {i : Nat} {n : Str} {c : Addr} {h' : Heap} {t' : Nat} {v : Option Value} (I : Inv X pins σ H s) (hN : X.N.Nodup) (hi : X.N[i]? = some n) (hf : X.fn n = true) (hc : X.env.cells.lookup n = some c) (hv : h'.IsCell c v) (sb : Heap.SameBut c s.heap h') :
    Inv X pins (σ.set i none) H { s with heap := h', toks := t' } := by
  obtain ⟨m, hn, look⟩ := id I.loc
  obtain ⟨w0, oc, hoc, dc⟩ := I.cell n c hc
  have low := I.ok.cab n c hf hc
  have apart : ∀ {b : Addr} {o : Obj}, X.s_0.heap.get? b = some o → b ≠ c := fun e => Nat.ne_of_lt (Nat.lt_of_lt_of_le (Heap.lt_size e) low)
  refine ⟨I.ok, I.os, I.bare, ⟨fun b o e a1 a2 a3 => (sb.2 b (apart e)).trans (I.base.keep b o e a1 a2 a3), fun b o e a1 a2 a3 => ?_, I.base.free, fun b o e a => ?_, I.base.tups, I.base.frzs, I.base.tbls⟩,
    ⟨m, hn.sameBut sb (Ne.symm (I.cne n c hc)), fun j y u e1 e2 e3 => ?_⟩, fun y d e => ?_, I.free, I.freeC, fun p hp => ?_, fun b o e => ?_, by simpa using I.len⟩
  · obtain ⟨sl, z⟩ := I.base.slot b o e a1 a2 a3
    exact ⟨sl, (sb.2 b (apart e)).trans z⟩
  · obtain ⟨o', z⟩ := I.base.there b o e a
    exact ⟨o', (sb.2 b (apart e)).trans z⟩
  · have ne : j ≠ i := fun z => by
      rw [z] at e2
      by_cases lt : i < σ.length
      · rw [List.getElem?_set_self lt] at e2; cases e2
      · rw [List.getElem?_eq_none (by simpa using lt)] at e2; cases e2
    rw [List.getElem?_set_ne (Ne.symm ne)] at e2
    obtain ⟨w, r, q⟩ := look j y u e1 e2 e3
    refine ⟨w, r, q.imp id fun ⟨k, d, e, z⟩ => ⟨k, d, e, z.sameBut sb fun q => ?_⟩⟩
    rw [q] at e
    exact ne (nodup_ix hN e1 (I.ok.inj _ _ _ e hc ▸ hi))
  · by_cases z : d = c
    · rw [z]; exact ⟨v, hv⟩
    · obtain ⟨w, q⟩ := I.cell y d e
      exact ⟨w, q.sameBut sb z⟩
  · obtain ⟨a1, a2, a3, a4, a5⟩ := I.pin p hp
    refine ⟨(sb.2 p.1 fun z => ?_).trans a1, a2, a3, a4, a5⟩
    rw [z, hoc] at a1
    exact a5 w0 ((congrArg Obj.data (Option.some.inj a1)).symm.trans dc)
  · refine (I.hok b o e).stay (fun d w hd q => (sb.2 d fun z => ?_).trans q) (fun _ q => q) fun _ _ q => q
    have fr := I.freeC n c hc
    rw [z] at hd
    rcases hd with rfl | hd
    · rw [fr] at e; cases e
    · rw [fr] at hd; cases hd
theorem gone_own {M : Model} {A : Around} {E : Value → Shared → Prop} {i : Nat} {n : Str} {pos : Pos} {Q : Unit → Shared → Prop} (I : Inv X pins σ H s) (hN : X.N.Nodup) (hi : X.N[i]? = some n) (ho : Own X n) (h : ∀ s', Inv X pins (σ.set i none) H s' → Q () s') :
    wpAny M A (do bindName X.env n .none; unbindBehindTheSuite X.env n pos) Q E s := by
  rcases ho with hl | ⟨hk, hf⟩
  · exact gone_ok I hN hi hl h
  obtain ⟨c, hc⟩ := I.ok.has n (.inl hk)
  obtain ⟨w0, hw⟩ := I.cell n c hc
  refine wpAny_bind (wpAny_bindName (wpAny_storeName_cell I.ok.kind hk hc hw fun h1 v1 sb1 => ?_))
  unfold unbindBehindTheSuite
  refine wpAny_onRaise ?_
  unfold unbindName
  refine wpAny_bind (wpAny_point (wpAny_bind ?_))
  have kk : X.env.kindOf n = some .cell := hk
  unfold deleteName
  simp only [kk]
  refine wpAny_bind (wpAny_cellOf hc (wpAny_bind (wpAny_cellGet (v := some Value.none) v1 ?_)))
  rw [if_pos (by rfl)]
  refine wpAny_cellSet (v := none) v1 fun h2 v2 sb2 => wpAny_point (h _ ?_)
  exact cell_out (s := s) (t' := s.toks) I hN hi hf hc v2 (sb1.trans sb2)
end
/-- an exception in the hand of a frame that looks for its clause -/
structure HandN (X : Cx) (pins : List (Addr × Obj)) (σ : L2.St) (H : Hp) (B : Heap) (a : Addr) (cls : Value) (d : Option Addr) (s0 s : Shared) : Prop where
  inv : Inv X pins σ H s0
  low : ∀ b o, s0.heap.get? b = some o → b ∉ frs X.stack → B.get? b = some o
  up : s0.heap.UpToSlots s.heap
  fly : HandSPX.FlyingZ B (X.env :: X.outer) a (L2N.Zn cls d) s.heap
  free : H a = none
  os : s.os = s0.os
  bare : AllBare s.gens
section
variable {X : Cx} {pins : List (Addr × Obj)} {σ : L2.St} {H : Hp} {B : Heap} {a : Addr} {cls : Value} {d : Option Addr} {s0 s : Shared}
theorem HandN.now (h : HandN X pins σ H B a cls d s0 s) : Inv X pins σ H s := h.inv.landed h.low h.fly.1 h.up h.os h.bare
/-- things that were made meanwhile take nothing out of the hand -/
theorem HandN.more (h : HandN X pins σ H B a cls d s0 s) {h' : Heap} (k : ∀ b o, s.heap.get? b = some o → h'.get? b = some o) : HandN X pins σ H B a cls d s0 { s with heap := h' } := by
  obtain ⟨f1, f2, f3, oe, vs, T, oT, ts, z1, z2, z3, z4, z5, z6, z7, z8, z9⟩ := h.fly
  exact ⟨h.inv, h.low, h.up.trans (Heap.UpToSlots.of_keeps k), ⟨fun b o e => k b o (f1 b o e), f2, f3.of_keeps (fun b o e _ => ⟨o, k b o e, rfl⟩), oe, vs, T, oT, ts, k _ _ z1, z2, z3, z4, z5, z6, k _ _ z7, z8, z9⟩, h.free, h.os, h.bare⟩
/-- the exception itself, and that it is none of the frames -/
theorem HandN.obj (hs : X.stack = X.env :: X.outer) (hf : X.env.frame = some X.env.locals) (h : HandN X pins σ H B a cls d s0 s) :
    ∃ oe vs, s.heap.get? a = some oe ∧ L2N.Zn cls d oe ∧ oe.data = .fields vs ∧ Inv (X.suite a ((a, oe) :: (X.pn ++ pins))) [] σ H s := by
  obtain ⟨oe, vs, e, z, dd⟩ := h.fly.there
  have out : a ∉ frs (X.env :: X.outer) := fun m => by
    obtain ⟨_, u, eu, hu⟩ := h.fly.2.2.1.mem m
    have := Option.some.inj (e.symm.trans eu)
    subst this
    exact hu vs dd
  refine ⟨oe, vs, e, z, dd, h.now.suite e dd h.free (fun q => out ?_) (fun m => out ?_)⟩
  · rw [q]
    exact List.mem_filterMap.mpr ⟨X.env, List.mem_cons_self, hf⟩
  · obtain ⟨v, hv, ev⟩ := List.mem_filterMap.mp m
    exact List.mem_filterMap.mpr ⟨v, List.mem_cons_of_mem _ hv, ev⟩
end
inductive ClausesN (X : Cx) : List ExceptHandler → List Clause → Prop
  | nil : ClausesN X [] []
  | cons {t : Expr} {n : Str} {cs : List Value} {i : Nat} {ts : Addr → Value → Option Addr → TS} {b₀ : Stmt} {suite : List Stmt} {p : Pos} {hds : List ExceptHandler} {l : List Clause} (test : TestsFor X t cs) (hi : X.N[i]? = some n) (hl : Own X n)
      (hsu : ∀ (a : Addr) (oe : Obj) (cls : Value) (d : Option Addr) (pn : List (Addr × Obj)), L2N.Zn cls d oe → (∃ vs, oe.data = .fields vs) → PSs (X.suite a ((a, oe) :: pn)) (b₀ :: suite) (ts a cls d)) (r : ClausesN X hds l) :
      ClausesN X (.ExceptHandler (some t) (some n) (b₀ :: suite) p :: hds) ((cs, i, ts) :: l)
section
variable {X : Cx} {pins : List (Addr × Obj)} {σ : L2.St} {H : Hp} {B : Heap} {a : Addr} {cls : Value} {d : Option Addr} {s0 s : Shared} {Wout : WX} {D : Ends}
theorem HandN.ty (h : HandN X pins σ H B a cls d s0 s) : PySem.W.Looks (model X.prog X.w) s.heap (typeOf (.ref a)) cls := by
  obtain ⟨oe, vs, e, z, _⟩ := h.fly.there
  exact fun A Q E s2 k q => wpAny_typeOf_ref (k _ _ e) (by rw [z.1]; exact q)
/-- no clause is left: on it flies -/
theorem HandN.passes (hs : X.stack = X.env :: X.outer) (hf : X.env.frame = some X.env.locals) (tk : L2N.Takes X Wout) (h : HandN X pins σ H B a cls d s0 s) (q : Wout cls d σ H) {Q : Flow → Shared → Prop} :
    wpAny (model X.prog X.w) X.A (handleBy (.ref a) X.env []) Q X.xe s := by
  obtain ⟨_, _, _, oe, vs, T, oT, ts, z1, z2, z3, z4, z5, z6, z7, z8, z9⟩ := id h.fly
  have gone : wpAny (model X.prog X.w) X.A (setFlight (.ref a) X.env.frame) (fun _ s4 => wpAny (model X.prog X.w) X.A (throw (.ref a) : Sem Flow) Q X.xe s4) X.xe s := by
    rw [hf]
    exact HandSPX.setFlight_upZ h.fly fun h4 held up4 => wpAny_throw (tk _ _ ⟨a, B, s0, pins, σ, H, cls, d, rfl, h.inv, h.low, h.up.trans up4, .inr (.inr (by rw [hs]; exact held)), h.free, h.os, h.bare, q⟩)
  refine wpAny_handleBy_nil ?_
  unfold PySem.passOn
  refine wpAny_bind (wpAny_field z1 z3 z4 ?_)
  rw [if_neg (by simp)]
  first
    | exact wpAny_bind gone
    | exact wpAny_bind (wpAny_pure (wpAny_bind gone))
/-- the suite of the clause that it meets -/
theorem HandN.meets (hs : X.stack = X.env :: X.outer) (hf : X.env.frame = some X.env.locals) (hN : X.N.Nodup) {n : Str} {i : Nat} {ts : Addr → Value → Option Addr → TS} {b₀ : Stmt} {suite : List Stmt} {p p2 : Pos} (hi : X.N[i]? = some n) (hl : Own X n)
    (hsu : ∀ (a : Addr) (oe : Obj) (cls : Value) (d : Option Addr) (pn : List (Addr × Obj)), L2N.Zn cls d oe → (∃ vs, oe.data = .fields vs) → PSs (X.suite a ((a, oe) :: pn)) (b₀ :: suite) (ts a cls d))
    (h : HandN X pins σ H B a cls d s0 s) (q : ts a cls d (Ends.less D i) (σ.set i (some (.ref a))) H) {R : Result → Shared → Prop}
    (hR : ∀ f s2, (wpAny (model X.prog X.w) X.A (do bindName X.env n .none; unbindBehindTheSuite X.env n p2) (fun _ s3 => SP X pins D f s3) X.xe s2) → R (.ok f) s2) :
    codeAny (model X.prog X.w) (X.A.mark (some (.ref a))) (.handlers (.ref a) [.ExceptHandler none (some n) (b₀ :: suite) p] X.env) R s := by
  refine codeAny_handlers_suite_as (HandSPX.lands_againZ h.fly fun h4 fl4 up4 => ?_)
  have h2 : HandN X pins σ H B a cls d s0 { s with heap := h4 } := ⟨h.inv, h.low, h.up.trans up4, fl4, h.free, h.os, h.bare⟩
  obtain ⟨oe, vs, e, z, dd, I⟩ := h2.obj hs hf
  refine store_ok (X := X.suite a ((a, oe) :: (X.pn ++ pins))) (v := .ref a) I hN hi hl.loc rfl (fun s5 I5 => ?_) hl.fn
  refine wpAny_mono ((hsu a oe cls d (X.pn ++ pins) z ⟨vs, dd⟩).run [] s5 _ H _ I5 q) (fun f s6 hf6 => hR f s6 ?_) fun _ _ x => x.elim
  have wipe : ∀ {σ6 : L2.St} {H6 : Hp} {Q : Shared → Prop}, Inv (X.suite a ((a, oe) :: (X.pn ++ pins))) [] σ6 H6 s6 → (∀ s7, Inv X pins (σ6.set i none) H6 s7 → Q s7) →
      wpAny (model X.prog X.w) X.A (do bindName X.env n .none; unbindBehindTheSuite X.env n p2) (fun _ s7 => Q s7) X.xe s6 := fun J k => gone_own (J.unsuite h.inv.ok) hN hi hl k
  match f, hf6 with
  | .next, ⟨_, _, J, q6⟩ => exact wipe J fun s7 J7 => ⟨_, _, J7, q6⟩
  | .brk, ⟨_, _, J, q6⟩ => exact wipe J fun s7 J7 => ⟨_, _, J7, q6⟩
  | .cont, ⟨_, _, J, q6⟩ => exact wipe J fun s7 J7 => ⟨_, _, J7, q6⟩
  | .ret u, ⟨_, _, _, J, rv, q6⟩ => exact wipe J fun s7 J7 => ⟨_, _, _, J7, rv, q6⟩
theorem HandN.goes (hs : X.stack = X.env :: X.outer) (hf : X.env.frame = some X.env.locals) (hN : X.N.Nodup) (tk : L2N.Takes X Wout) {hds : List ExceptHandler} {l : List Clause} (C : ClausesN X hds l) :
    ∀ {s : Shared}, HandN X pins σ H B a cls d s0 s → wCl X.K Wout D l cls d σ H → wpAny (model X.prog X.w) X.A (handleBy (.ref a) X.env hds) (SP X pins D) X.xe s := by
  induction C with
  | nil => exact fun h q => h.passes hs hf tk q
  | cons test hi hl hsu _ ih =>
    rintro s h ⟨b, e, yes, no⟩
    obtain ⟨oe, vs, _, _, _, I⟩ := h.obj hs hf
    refine wpAny_handleBy_cons (codeAny_handlers_test (test I h.ty e fun h' k => ?_)) fun z => nomatch z
    have h2 := h.more k
    cases b with
    | false => exact ih h2 (no rfl)
    | true => exact h2.meets hs hf hN hi hl hsu (yes rfl a h.free) fun f s2 z => z
variable {body : List Stmt} {h₀ : ExceptHandler} {hds : List ExceptHandler} {l : List Clause} {p : Pos} {tb : WX → TS}
theorem ps_try_clN (hs : X.stack = X.env :: X.outer) (hf : X.env.frame = some X.env.locals) (hN : X.N.Nodup) (tk : L2N.Takes X Wout)
    (hb : ∀ (W : WX) (pn : List (Addr × Obj)) (xe : Value → Shared → Prop), L2N.Takes (X.tr pn xe) W → PassesOwn (model X.prog X.w) X.A X.env xe → PSs (X.tr pn xe) body (tb W)) (C : ClausesN X (h₀ :: hds) l) :
    PS X (.Try body (h₀ :: hds) [] [] p) (fun D σ H => tb (wCl X.K Wout D l) D σ H) := by
  constructor
  intro pins s σ H D I q
  have fr : X.A.frames = some (X.env :: X.outer) := I.ok.frames.trans (congrArg some hs)
  apply wpAny_Try_except
  have caught : L2N.Takes (X.tr (X.pn ++ pins) (comes X (h₀ :: hds) pins D)) (wCl X.K Wout D l) := fun u s1 x => ?_
  · have bodyOk := hb (wCl X.K Wout D l) (X.pn ++ pins) (comes X (h₀ :: hds) pins D) caught PassesOwn.looking
    refine wpAny_mono (bodyOk.run [] s σ H D (I.toTry _) q) (fun f s1 x => ?_) fun _ _ x => x
    match f, x with
    | .next, ⟨_, _, J, q1⟩ => exact wpAny_execs_nil ⟨_, _, J.ofTry I.ok, q1⟩
    | .brk, ⟨_, _, J, q1⟩ => exact ⟨_, _, J.ofTry I.ok, q1⟩
    | .cont, ⟨_, _, J, q1⟩ => exact ⟨_, _, J.ofTry I.ok, q1⟩
    | .ret u, ⟨_, _, _, J, rv, q1⟩ => exact ⟨_, _, _, J.ofTry I.ok, rv, q1⟩
  · obtain ⟨a, B, s0, pins', σ1, H1, cls, d, rfl, J, low, up, sky, na, os, ag, w⟩ := x
    exact L2N.Sky.land L2N.Zn.steady fr hf (by rw [← hs]; exact sky) fun h3 fl up3 => HandN.goes hs hf hN tk C ⟨J.ofTry I.ok, low, up.trans up3, fl, na, os, ag⟩ w
end
end Ag

end
/-! ## LN -/
section
set_option linter.all false
set_option maxRecDepth 100000
set_option maxHeartbeats 1000000
namespace Ag
open PySem PySem.Spec PyProof.Rows L2 LamX
/-! ### a lambda handed to a def that catches what it lets out (exceptions without a context) -/
abbrev lamN (X : Cx) (A : Around) (outer : List Env) (s : Shared) (H : Hp) (E : XK) (scope : Scope) (f c : Addr) : Cx := (lamCx X A outer s H E scope f c).wish fun e u =>
  wpAny (model X.prog X.w) (A.deeper (lamEnv X scope s.heap.objs.size f c)) (leaving (lamEnv X scope s.heap.objs.size f c) e) (fun _ v => L2N.CX X.prog X.w outer H s E e v) (fun e' v => L2N.CX X.prog X.w outer H s E e' v) u
/-- the context of the def that got it -/
abbrev gotC (X : Cx) (Ng : List Str) (q : Str) (sg : Scope) (g : Addr) (cd : Value) (s : Shared) (H : Hp) : Cx := cxOf C8.CX0 X.prog X.w X.K X.mg X.base Ng q sg g cd X.A X.stack s H C8.E0
section
variable {X : Cx} {pins : List (Addr × Obj)} {σ : L2.St} {H HZ : Hp} {s s1 : Shared}
theorem act_N {Ng : List Str} {qg : Str} {sg : Scope} {g f c' : Addr} {cdg pm ctv : Value} {params : Arguments} {body : Expr} {scope : Scope} {k : Nat} {a : Str} {pn : List (Addr × Obj)} {xe : Value → Shared → Prop} {W : WX} {E : XK} {tb : TE} {p1 p2 : Pos}
    (I : Inv X pins σ H s) (L : LamS X.env.scope scope) (hf : s.heap.get? f = some (PySem.W.kla_obj "<lambda>" (X.env.qual ++ "<lambda>") params body scope (cloFrom X.env.cells scope.names []) pm c' ctv)) (hfn : H f = none) (hfr : f ∉ frs X.stack)
    (hbind : bindArgs (PySem.W.kla_fn "<lambda>" (X.env.qual ++ "<lambda>") params body scope (cloFrom X.env.cells scope.names []) pm (.ref c') ctv) ⟨[], []⟩ = pure []) (tk : L2N.Takes ((gotC X Ng qg sg g cdg s H).tr pn xe) W) (hW : ∀ cls d τ G, E cls d G → W cls d τ G)
    (hr : Room (k + 1) (X.A.deeper (envOfC qg sg s.heap.objs.size g cdg))) (hbody : ∀ (A : Around) (outer : List Env) (s : Shared) (H : Hp), Room k (A.deeper (lamEnv X scope s.heap.objs.size f c')) → PE (lamN X A outer s H E scope f c') body tb) (hN : Ng[0]? = some a) (hv : Vis sg a)
    (hd : (a == ("__debug__" : Str)) = false) (hcd : (a == ("__classdict__" : Str)) = false) :
    PE ((gotC X Ng qg sg g cdg s H).tr pn xe) (.Call (.Name a p1) [] [] p2) (fun τ G Q => τ[0]? = some (some (.ref f)) ∧ G c' = some (CodeO c' (X.env.qual ++ "<lambda>")) ∧ tb σ G Q) := by
  constructor
  intro pz sz τ G Q IZ ⟨h1, h2, h3⟩
  refine wpAny_Call_Name_kw (thn ((pe_var (pos := p1) (i := 0) hN hv hd hcd).run pz sz τ G (fun v F => v = .ref f ∧ F = G) IZ ⟨.ref f, h1, rfl, rfl⟩) fun u s1 ⟨v, G1, I1, r1, e1, e2⟩ => ?_)
  subst e1
  rw [e2] at I1
  cases (show u = Value.ref f from r1)
  have lamb := I1.base.keep f _ hf hfn hfr fun z => nomatch (show f ∈ ([] : List Addr) from z)
  refine PySem.W.callWith_F0 ⟨_, _, _, _, lamb⟩ ?_
  obtain ⟨⟨oc, vs, t, k1, k2, k3⟩, _, _⟩ := I1.hok c' _ h2
  have go : codeAny (model X.prog X.w) (X.A.deeper (envOfC qg sg s.heap.objs.size g cdg)) (.call (.ref f) ⟨[], []⟩) (CR (L2N.CX X.prog X.w) (envOfC qg sg s.heap.objs.size g cdg :: X.stack) X.prog X.w G s1 Q E) s1 := by
    refine PySem.W.kla_callFunE hr.depth lamb rfl L.co L.gen rfl ⟨c', oc, vs, t, rfl, k1, k2, k3⟩ ?_
    rw [hbind]; refine wpAny_pure (wpAny_newFunctionEnv (fun y hy => (L.own y hy).2) (fun y hy => absurd hy (by simp)) (fun h2 hns hsb => ⟨I1.nolimit.fresh _ hsb, ?_⟩) L.kind)
    show codeAny _ _ (.expr body (lamEnv X scope s1.heap.objs.size f c')) (CR (L2N.CX X.prog X.w) _ _ _ _ _ _ _) _
    have J := lam_start2 (A := X.A.deeper (envOfC qg sg s.heap.objs.size g cdg)) (outer := envOfC qg sg s.heap.objs.size g cdg :: X.stack) (E := E) (f := f) (c' := c') (tk := s1.toks + ([] : List (Str × Value)).length) I L I1.env0 hr.hd I1.base hns fun b o z => hsb.extBut b o (Nat.ne_of_lt (Heap.lt_size z)) (Heap.get?_push_of_some _ z)
    exact PySem.W.kla_codeExpr (wpAny_mono ((hbody _ _ s1 G (hr.deeper _)).run [] _ _ G Q (J.wish _) h3) (fun v s' ⟨w', G', J', rv, q⟩ => ⟨w', G', J'.os, J'.bare, J'.base, J'.hok, rv, q⟩) fun _ _ z => z)
  have out : Passes (L2N.CX X.prog X.w) ((gotC X Ng qg sg g cdg s H).tr pn xe) E := L2N.passes_call tk hW
  refine wpAny_call (codeAny_mono go ?_)
  rintro (er | fl) s' hq
  · exact out pz τ G s1 er s' I1 hq
  cases fl with
  | ret u => exact I1.after hq
  | _ => exact hq.elim
/-- what the def makes of the lambda's reading -/
def GivesN (X : Cx) (Ng : List Str) (x : Str) (sg : Scope) (g : Addr) (cdg : Value) (bg : List Stmt) (a : Str) (q : Str) (TT : (XK → Hp → VK → Prop) → Hp → VK → Prop) : Prop :=
  ∀ (f c : Addr) (s : Shared) (H : Hp) (Q : VK) (tl : XK → Hp → VK → Prop),
    (∀ (W : WX) (pn : List (Addr × Obj)) (xe : Value → Shared → Prop) (E : XK) (p1 p2 : Pos), L2N.Takes ((gotC X Ng x sg g cdg s H).tr pn xe) W → (∀ cls d τ G, E cls d G → W cls d τ G) →
      PE ((gotC X Ng x sg g cdg s H).tr pn xe) (.Call (.Name a p1) [] [] p2) (fun τ G Q => τ[0]? = some (some (.ref f)) ∧ G c = some (CodeO c q) ∧ tl E G Q)) →
    H c = some (CodeO c q) → TT tl H Q → ∃ t, PSs (gotC X Ng x sg g cdg s H).nox bg t ∧ t { nx := fun _ G => Q .non G, rt := Q } (L2.start Ng [.ref f]) H
theorem pe_lamN {T : List (Addr × Str)} {TT : (XK → Hp → VK → Prop) → Hp → VK → Prop} {x a : Str} {g c P : Addr} {k : Nat} {pg : Arguments} {bg : List Stmt} {sg : Scope} {dV kV doc pm cdv ct oc : Value} {an od : Option Addr} {osl : Array (Option Value)} {Ng : List Str}
    {params : Arguments} {body : Expr} {scope : Scope} {t : XK → TE} {p lpos pos : Pos} (hg : Gl X x) (hm : X.mg x = some (.ref g)) (hk : PySem.W.keepIn X.K (.ref g) = true) (lk : X.K.lookup g = some ⟨oc, od, .func (PySem.W.fnOf x x pg bg sg dV kV doc pm an cdv ct), osl⟩)
    (hcg : PySem.W.codeIn X.K cdv x = true) (hb : L2.Binds X.K (PySem.W.fnOf x x pg bg sg dV kV doc pm an cdv ct) [a] []) (Sg : FnScope Ng [a] sg) (hNg : Ng[0]? = some a) (hva : Vis sg a) (hG : GivesN X Ng x sg g cdv bg a (X.env.qual ++ "<lambda>") TT) (TB : TabB X.base X.mg c P) (hcode : X.env.code = .ref c)
    (hmT : (P, X.env.qual ++ "<lambda>") ∈ T) (hu : ∀ p ∈ T, p.1 = P → p.2 = X.env.qual ++ "<lambda>") (hr : Room (k + 2) X.A) (L : LamS X.env.scope scope) (hdef : defaultsOf params X.env = ([], [])) (hbind : ∀ (q : Str) (cl : List (Str × Addr)) (pm cv ctv : Value), bindArgs (PySem.W.kla_fn "<lambda>" q params body scope cl pm cv ctv) ⟨[], []⟩ = pure [])
    (hbody : ∀ (A : Around) (outer : List Env) (s : Shared) (H : Hp) (E : XK) (f c' : Addr), Room k (A.deeper (lamEnv X scope s.heap.objs.size f c')) → PE (lamN X A outer s H E scope f c') body (t E))
    (hdb : (x == ("__debug__" : Str)) = false := by decide) (hd : (a == ("__debug__" : Str)) = false := by decide) (hcd : (a == ("__classdict__" : Str)) = false := by decide) : PE X (.Call (.Name x p) [.Lambda params body scope lpos] [] pos) (tLam T TT t) := by
  constructor
  intro pins s σ H Q I ⟨hT, h⟩
  refine wpAny_Call_Name_kw (ld_glob I hg hm (PySem.W.callWith_K (h₀ := X.base) I.ok.mod.kin hk ?_ (by rfl) (by rfl)) hdb)
  show wpAny _ _ (spliced ((false, eval (.Lambda params body scope lpos) X.env) :: backTo pos (starEach [] X.env))) (fun us v => _) _ s
  refine Calls.spliced_cons (lam_make2 I TB hcode hmT hu hT hdef (L.has I.ok) fun f c' pm' ctv H1 s' I1 eN T1 hf hfn hfr hco => Calls.spliced_nil ⟨I1.kIn, ?_⟩)
  refine wpAny_call (codeAny_mono (run_ofS (CX := C8.CX0) (E := C8.E0) (Q := Q) (N := Ng) (ps := [a]) (us := [.ref f]) (vs := [.ref f]) lk hcg Sg hr I1.env0 (hb s' [.ref f] I1.kIn rfl) (.cons rfl .nil) rfl fun hr2 => ?_) ?_)
  · obtain ⟨t', h1, h2⟩ := hG f c' s' H1 Q (fun E G Q' => t E σ G Q') (fun W pn xe E p1 p2 tk hW => act_N I1 L hf hfn hfr (hbind _ _ _ _ _) tk hW hr2 (fun A outer s H hr3 => hbody A outer s H E f c' hr3) hNg hva hd hcd) hco (h H1 eN T1)
    exact ⟨t', h1.nox, h2⟩
  · rintro (er | fl) s2 hq
    · exact (show False from hq).elim
    cases fl with
    | ret u => exact I1.after hq
    | _ => exact hq.elim
end
end Ag

end
/-! ## XW -/
section
set_option linter.all false
set_option maxRecDepth 100000
namespace Ag
open PySem PySem.Spec PyProof.Rows L2 HotX L2H
/-! ### a suite for some own classes, each with the same field -/
def tXv (K : PySem.W.Frag) (a : Addr) (cls : Value) (d : Option Addr) (f : Str) (i : Nat) : TE := fun σ H Q => σ[i]? = some (some (.ref a)) ∧ ∃ (C dd : Addr) (fs : List (Str × V)) (v : V), XfC K C ∧ PySem.W.findIn K (.ref C) f = some none ∧ cls = .ref C ∧ d = some dd ∧ H dd = some (.xd fs) ∧ fs.lookup f = some v ∧ Q v H
theorem pe_xv {X : Cx} {a : Addr} {oe : Obj} {cls : Value} {d : Option Addr} {pn : List (Addr × Obj)} {p pos : Pos} {n f : Str} {i : Nat} (hz : Zc cls d oe) (hf : ∃ vs, oe.data = .fields vs) (he : PE (X.suite a ((a, oe) :: pn)) (.Name n p) (tVar i))
    (hb : attributeBase (.Name n p) f X.env (eval (.Name n p) X.env) = eval (.Name n p) X.env := by rfl) : PE (X.suite a ((a, oe) :: pn)) (.Attribute (.Name n p) f pos) (tXv X.K a cls d f i) := by
  constructor
  rintro pins s σ H Q I ⟨h1, C, dd, fs, v, T, no, rfl, rfl, h2, h3, q⟩
  exact (pe_xf (X := X) (pos := pos) T no hz hf he hb).run pins s σ H Q I ⟨.ref a, h1, rfl, rfl, dd, fs, v, rfl, h2, h3, q⟩
/-- isinstance(e, C), e the handled exception, C a class of the module -/
def tIsH (K : PySem.W.Frag) (a : Addr) (cls : Value) (d : Option Addr) (i : Nat) (C : Addr) : TE := fun σ H Q => σ[i]? = some (some (.ref a)) ∧ ∃ (D dd : Addr) (fs : List (Str × V)) (b : Bool), cls = .ref D ∧ d = some dd ∧ H dd = some (.xd fs) ∧ ExcC K D ∧ PySem.W.kitOne K (.ref D) (.ref C) = some b ∧ Q (.bl b) H
theorem pe_isH {X : Cx} {K : PySem.W.Frag} {a C : Addr} {oe : Obj} {cls : Value} {d : Option Addr} {i : Nat} {n x : Str} {p0 p1 p2 p3 : Pos} (hK : X.K = K) (hp : (a, oe) ∈ X.pn) (hz : Zc cls d oe) (hf : ∃ vs, oe.data = .fields vs) (hg : Gl X "isinstance") (hn : X.mg "isinstance" = none) (hv : PE X (.Name n p1) (tVar i)) (hgc : Gl X x)
    (hmc : X.mg x = some (.ref C)) (hdb : (x == ("__debug__" : Str)) = false) : PE X (.Call (.Name "isinstance" p0) [.Name n p1, .Name x p2] [] p3) (tIsH K a cls d i C) := by
  subst hK
  constructor
  rintro pins s σ H Q I ⟨h1, D, dd, fs, b, e1, e2, h2, h3, h4, q⟩
  exact (pe_callB (call_isH hp hz hf) hg hn PyProof.Rows.boot_isinstance (pa_cons hv (pa_cons (pe_cls hgc hmc hdb) pa_nil))).run pins s σ H Q I ⟨.ref a, h1, D, dd, fs, .ref C, .ref C, b, rfl, e1, e2, h2, h3, ref_only, h4, q⟩
/-- the handled exception of a suite -/
theorem hot_zn {X : Cx} {a : Addr} {oe : Obj} {cls : Value} {d : Option Addr} (pn : List (Addr × Obj)) (hz : L2N.Zn cls d oe) (hf : ∃ vs, oe.data = .fields vs) : Hot1 (X.suite a ((a, oe) :: pn)).A (a, oe) := by
  obtain ⟨vs, e⟩ := hf
  exact ⟨rfl, vs, e, hz.2.2 vs e⟩
/-- two names, of a pair -/
theorem pg_twoH {X : Cx} {K : PySem.W.Frag} {i j k : Nat} {x y : Str} {p1 p2 pos : Pos} (hK : X.K = K) (c : HotC X) (nd : X.N.Nodup) (hi : X.N[i]? = some x) (hj : X.N[j]? = some y) (lx : X.env.scope.names.lookup x = some .local) (ly : X.env.scope.names.lookup y = some .local) :
    PG X (.Tuple [.Name x p1, .Name y p2] k pos) (gTup K 2 (gCons (gName i) (gCons (gName j) gNil))) := by
  subst hK
  exact pg_tupH c (pgs_cons (pg_name nd hi (.inl lx) (.inr lx)) (pgs_cons (pg_name nd hj (.inl ly) (.inr ly)) pgs_nil))
theorem pic_listK {X : Cx} {K : PySem.W.Frag} {tg l : Expr} {tl : TE} (hK : X.K = K) (hl : PE X l tl) : Pic HotC X tg l (iList K tl) := by
  subst hK
  exact pic_list hl
theorem pic_tupK {X : Cx} {K : PySem.W.Frag} {tg l : Expr} {tl : TE} (hK : X.K = K) (hl : PE X l tl) : Pic HotC X tg l (iTup K tl) := by
  subst hK
  exact pic_tup hl
theorem takesN_len {X : Cx} {W : WX} (tk : L2N.Takes X W) : L2N.Takes X (fun cls d σ H => σ.length = X.N.length → W cls d σ H) := by
  rintro u s' ⟨a, B, sI, pins, σ, H, cls, d, e, J, nb, up, sky, na, os, ag, z⟩
  exact tk u s' ⟨a, B, sI, pins, σ, H, cls, d, e, J, nb, up, sky, na, os, ag, z J.len⟩
theorem takesN0 {X : Cx} : L2N.Takes X (fun _ _ _ _ => False) := by
  rintro u s' ⟨a, B, sI, pins, σ, H, cls, d, e, J, nb, up, sky, na, os, ag, z⟩
  exact z.elim
theorem six {σ : L2.St} (h : σ.length = 6) : ∃ a b c d e f, σ = [a, b, c, d, e, f] := by
  match σ, h with
  | [a, b, c, d, e, f], _ => exact ⟨a, b, c, d, e, f, rfl⟩
/-- some own exception classes, and the one above them -/
structure Exs (K : PySem.W.Frag) (n : Nat) (cl : Nat → Addr) (G : Addr) : Prop where
  x : ∀ k, k < n → XfC K (cl k)
  c : ∀ k, k < n → ExcC K (cl k)
  no : ∀ k, k < n → PySem.W.findIn K (.ref (cl k)) "thing" = some none
  ex : ∀ k, k < n → PySem.W.exmAny K (.ref (cl k)) ((List.range n).map fun i => .ref (cl i)) = some true
  is : ∀ k, k < n → ∀ j, j < n → PySem.W.kitOne K (.ref (cl k)) (.ref (cl j)) = some (decide (j = k))
  isG : ∀ k, k < n → PySem.W.kitOne K (.ref (cl k)) (.ref G) = some true
end Ag

end
/-! ## Q5 -/
section
set_option linter.all false
set_option maxRecDepth 100000
set_option maxHeartbeats 4000000
namespace Ag
open PySem PySem.Spec PyProof.Rows L2 HotX L2H
/-! ### a call tried: what it returns, or which exception it raises -/
theorem call_tuple_ofK {X : Cx} {K : PySem.W.Frag} (hK : X.K = K) : CallR X (.type "tuple") (fun xs H Q => ∃ p ys, xs = [.ref p] ∧ ((SqL K H p ys ∧ ∀ l, H l = none → Q (.ref l) (upd H l (.tup ys))) ∨ (SqT K H p ys ∧ Q (.ref p) H))) := by
  subst hK
  exact call_tuple_of
theorem op_catAK {X : Cx} {K : PySem.W.Frag} (hK : X.K = K) : OpR X (binaryOp .Add) (rCatA K) := by
  subst hK
  exact op_catA
def wd6 (k : Nat) : List (Str × Bool) := [(nm5 0, decide (0 = k)), (nm5 1, decide (1 = k)), (nm5 4, decide (4 = k)), (nm5 2, decide (2 = k)), (nm5 3, decide (3 = k)), (Str.ofString "no GateError", false)]
theorem wd6_one {k : Nat} (h : k < 5) : ((wd6 k).filter (·.2)).map (fun p => V.str p.1) = [.str (nm5 k)] := by
  match k, h with
  | 0, _ => rfl
  | 1, _ => rfl
  | 2, _ => rfl
  | 3, _ => rfl
  | 4, _ => rfl
def TTried (cl : Nat → Addr) : (XK → Hp → VK → Prop) → Hp → VK → Prop := fun tl H Q => ∀ (H1 : Hp) (E : XK) (R : VK), Same H H1 →
  (∀ cls d G, Same H1 G → (∃ k dd v, k < 5 ∧ cls = .ref (cl k) ∧ d = some dd ∧ G dd = some (.xd [("thing", v)]) ∧ ∀ t G', Same G G' → G t = none → G' t = some (.tup [.str (nm5 k), v]) → Q (.ref t) G') → E cls d G) →
  (∀ v G, Same H1 G → (∀ t G', Same G G' → G t = none → G' t = some (.tup [.str retS, v]) → Q (.ref t) G') → R v G) → tl E H1 R
abbrev YT (X : Cx) (x : Str) (g : Addr) (cdg : Value) (s : Shared) (H : Hp) : Cx := (gotC X N__law_tried x (defScope s__law_tried) g cdg s H).nox
section
variable {X : Cx} {x q : Str} {g G : Addr} {cdg : Value} {cl : Nat → Addr}
theorem ok_tried (B : Blt X.mg) (E : Exs X.K 5 cl G) (g0 : X.mg "BadBody" = some (.ref (cl 0))) (g1 : X.mg "BadMessage" = some (.ref (cl 1))) (g2 : X.mg "BadNews" = some (.ref (cl 2))) (g3 : X.mg "BadNumber" = some (.ref (cl 3))) (g4 : X.mg "Broken" = some (.ref (cl 4))) (gG : X.mg "GateError" = some (.ref G)) :
    GivesN X N__law_tried x (defScope s__law_tried) g cdg (defBody s__law_tried) "_law_call" q (TTried cl) := by
  intro f c s H Q tl act hc h
  refine ⟨_, pss_cons (ps_set (i := 1) sc__law_tried.nd rfl (.inl rfl) pe_non)
    (pss_cons (ps_try_clN (X := YT X x g cdg s H)
      (tb := fun W D σ H => ∃ Ex : XK, (∀ cls d τ G, Ex cls d G → τ.length = 6 → W cls d τ G) ∧ σ[0]? = some (some (.ref f)) ∧ H c = some (LamX.CodeO c q) ∧ tl Ex H fun v G => 2 ≤ sizeLine ∧ ∀ t, G t = none → D.nx (σ.set 1 (some (.ref t))) (upd G t (.tup [.str retS, v])))
      rfl rfl sc__law_tried.nd takesN0 (fun W pn xe tk _ => ⟨fun pins s' σ H' D I h' => ?_⟩)
      (ClausesN.cons (X := YT X x g cdg s H) (tests_row (X := YT X x g cdg s H) (.cons ⟨by rfl, by decide, .inl g0⟩ (.cons ⟨by rfl, by decide, .inl g1⟩ (.cons ⟨by rfl, by decide, .inl g2⟩ (.cons ⟨by rfl, by decide, .inl g3⟩ (.cons ⟨by rfl, by decide, .inl g4⟩ .nil))))) (by decide)) (i := 2) rfl (.inl rfl) (fun a oe cls d pn hz hf =>
        pss_cons (ps_set (i := 3) sc__law_tried.nd rfl (.inl rfl) (pe_lst (pa_cons (pe_tup (pa_cons pe_str (pa_cons (pe_isH (K := X.K) rfl List.mem_cons_self hz.zc hf (by rfl) B.n_isinstance (pv 2) (by rfl) g0 (by decide)) pa_nil))) (pa_cons (pe_tup (pa_cons pe_str (pa_cons (pe_isH (K := X.K) rfl List.mem_cons_self hz.zc hf (by rfl) B.n_isinstance (pv 2) (by rfl) g1 (by decide)) pa_nil))) (pa_cons (pe_tup (pa_cons pe_str (pa_cons (pe_isH (K := X.K) rfl List.mem_cons_self hz.zc hf (by rfl) B.n_isinstance (pv 2) (by rfl) g4 (by decide)) pa_nil))) pa_nil)))))
        (pss_cons (ps_set (i := 3) sc__law_tried.nd rfl (.inl rfl) (pe_op op_cat (pv 3) (pe_lst (pa_cons (pe_tup (pa_cons pe_str (pa_cons (pe_isH (K := X.K) rfl List.mem_cons_self hz.zc hf (by rfl) B.n_isinstance (pv 2) (by rfl) g2 (by decide)) pa_nil))) (pa_cons (pe_tup (pa_cons pe_str (pa_cons (pe_isH (K := X.K) rfl List.mem_cons_self hz.zc hf (by rfl) B.n_isinstance (pv 2) (by rfl) g3 (by decide)) pa_nil))) pa_nil)))))
        (pss_one (ps_set (i := 1) sc__law_tried.nd rfl (.inl rfl) (pe_op (op_catAK (K := X.K) rfl) (pe_callTy (T := "tuple") (call_tuple_ofK (K := X.K) rfl) (by rfl) B.n_tuple (by decide +kernel) (pa_cons
          (pe_lcH (own := [("_law_word_here", 4), ("_law_is_it", 5)]) (p := (a, oe)) List.mem_cons_self (hot_zn pn hz hf) sc__law_tried.nd (pic_listK (X := (YT X x g cdg s H).suite a ((a, oe) :: pn)) (K := X.K) rfl (pe_op op_cat (pv 3) (pe_lst (pa_cons (pe_tup (pa_cons pe_str (pa_cons (pe_not (pe_isH (K := X.K) rfl List.mem_cons_self hz.zc hf (by rfl) B.n_isinstance (pv 2) (by rfl) gG (by decide))) pa_nil))) pa_nil)))) (blkOk_by (N := N__law_tried) (sc := defScope s__law_tried) (by decide +kernel))
            (fun _ _ _ _ _ => pg_twoH (i := 4) (j := 5) (K := X.K) rfl ⟨(a, oe), hot_zn (X := YT X x g cdg s H) pn hz hf, List.mem_cons_self⟩ sc__law_tried.nd rfl rfl rfl rfl)
            (fun _ _ _ _ _ => pts_one (pt_val (pv 5))) (fun _ _ _ _ _ => pv 4)) pa_nil)) (pe_tup (pa_cons (pe_xv hz.zc hf (pv 2)) pa_nil))))))) .nil))
    (pss_one (ps_ret (pv 1)))), ?_⟩
  · obtain ⟨Ex, hW, h1, h2, h3⟩ := h'
    exact (pss_one (ps_set (i := 1) sc__law_tried.nd rfl (.inl rfl) (pe_tup (pa_cons pe_str (pa_cons (act _ pn xe Ex _ _ (takesN_len tk) fun cls d σ' H' e l => hW cls d σ' H' e l) pa_nil))))).run pins s' σ H' D I ⟨h1, h2, h3⟩
  · refine ⟨fun cls d G => ∀ τ : L2.St, τ.length = 6 → wCl X.K (fun _ _ _ _ => False) _ _ cls d τ G, fun cls d τ G hE l6 => hE τ l6, rfl, hc, h H _ _ (Same.refl _) ?_ ?_⟩
    · rintro cls d G sG ⟨k, dd, v, k5, rfl, rfl, hdd, q'⟩ τ l6
      obtain ⟨x0, x1, x2, x3, x4, x5, rfl⟩ := six l6
      refine ⟨true, E.ex k k5, fun _ a ha => ?_, fun z => by cases z⟩
      refine ⟨rfl, _, dd, _, _, rfl, rfl, (Same.refl G) _ _ hdd, E.c k k5, E.is k k5 0 (by omega), sz (Nat.le_of_ble_eq_true rfl), fun t1 ht1 => ?_⟩
      have e1 := same_new (o := .tup [.str (Str.ofString "BadBody"), .bl (decide (0 = k))]) ht1
      have a1 : upd G t1 (.tup [.str (Str.ofString "BadBody"), .bl (decide (0 = k))]) t1 = some (.tup [.str (Str.ofString "BadBody"), .bl (decide (0 = k))]) := upd_same
      have c1 := (Same.refl G).trans e1
      generalize upd G t1 (.tup [.str (Str.ofString "BadBody"), .bl (decide (0 = k))]) = G1 at c1 a1  ⊢
      refine ⟨rfl, _, dd, _, _, rfl, rfl, c1 _ _ hdd, E.c k k5, E.is k k5 1 (by omega), sz (Nat.le_of_ble_eq_true rfl), fun t2 ht2 => ?_⟩
      have e2 := same_new (o := .tup [.str (Str.ofString "BadMessage"), .bl (decide (1 = k))]) ht2
      have a2 : upd G1 t2 (.tup [.str (Str.ofString "BadMessage"), .bl (decide (1 = k))]) t2 = some (.tup [.str (Str.ofString "BadMessage"), .bl (decide (1 = k))]) := upd_same
      have a1 := e2 _ _ a1
      have c2 := c1.trans e2
      generalize upd G1 t2 (.tup [.str (Str.ofString "BadMessage"), .bl (decide (1 = k))]) = G2 at c2 a2 a1 ⊢
      refine ⟨rfl, _, dd, _, _, rfl, rfl, c2 _ _ hdd, E.c k k5, E.is k k5 4 (by omega), sz (Nat.le_of_ble_eq_true rfl), fun t3 ht3 => ?_⟩
      have e3 := same_new (o := .tup [.str (Str.ofString "Broken"), .bl (decide (4 = k))]) ht3
      have a3 : upd G2 t3 (.tup [.str (Str.ofString "Broken"), .bl (decide (4 = k))]) t3 = some (.tup [.str (Str.ofString "Broken"), .bl (decide (4 = k))]) := upd_same
      have a1 := e3 _ _ a1
      have a2 := e3 _ _ a2
      have c3 := c2.trans e3
      generalize upd G2 t3 (.tup [.str (Str.ofString "Broken"), .bl (decide (4 = k))]) = G3 at c3 a3 a1 a2 ⊢
      refine ⟨sz (Nat.le_of_ble_eq_true rfl), fun L1 hL1 => ?_⟩
      have p1 : PsA (upd G3 L1 (.lst [.ref t1, .ref t2, .ref t3])) [.ref t1, .ref t2, .ref t3] [(Str.ofString "BadBody", decide (0 = k)), (Str.ofString "BadMessage", decide (1 = k)), (Str.ofString "Broken", decide (4 = k))] := PsA.to (.cons a1 (.cons a2 (.cons a3 .nil))) (same_new hL1)
      have c4 := c3.trans (same_new (o := .lst [.ref t1, .ref t2, .ref t3]) hL1)
      have l1 : upd G3 L1 (.lst [.ref t1, .ref t2, .ref t3]) L1 = some (.lst [.ref t1, .ref t2, .ref t3]) := upd_same
      generalize upd G3 L1 (.lst [.ref t1, .ref t2, .ref t3]) = G4 at p1 c4 l1 ⊢
      refine ⟨_, rfl, ?_⟩
      refine ⟨rfl, _, dd, _, _, rfl, rfl, c4 _ _ hdd, E.c k k5, E.is k k5 2 (by omega), sz (Nat.le_of_ble_eq_true rfl), fun t5 ht5 => ?_⟩
      have e5 := same_new (o := .tup [.str (Str.ofString "BadNews"), .bl (decide (2 = k))]) ht5
      have a5 : upd G4 t5 (.tup [.str (Str.ofString "BadNews"), .bl (decide (2 = k))]) t5 = some (.tup [.str (Str.ofString "BadNews"), .bl (decide (2 = k))]) := upd_same
      have c5 := c4.trans e5
      have d5 := e5
      generalize upd G4 t5 (.tup [.str (Str.ofString "BadNews"), .bl (decide (2 = k))]) = G5 at c5 d5 a5  ⊢
      refine ⟨rfl, _, dd, _, _, rfl, rfl, c5 _ _ hdd, E.c k k5, E.is k k5 3 (by omega), sz (Nat.le_of_ble_eq_true rfl), fun t6 ht6 => ?_⟩
      have e6 := same_new (o := .tup [.str (Str.ofString "BadNumber"), .bl (decide (3 = k))]) ht6
      have a6 : upd G5 t6 (.tup [.str (Str.ofString "BadNumber"), .bl (decide (3 = k))]) t6 = some (.tup [.str (Str.ofString "BadNumber"), .bl (decide (3 = k))]) := upd_same
      have a5 := e6 _ _ a5
      have c6 := c5.trans e6
      have d6 := d5.trans e6
      generalize upd G5 t6 (.tup [.str (Str.ofString "BadNumber"), .bl (decide (3 = k))]) = G6 at c6 d6 a6 a5 ⊢
      refine ⟨sz (Nat.le_of_ble_eq_true rfl), fun L2 hL2 => ?_⟩
      have p2 : PsA (upd G6 L2 (.lst [.ref t5, .ref t6])) [.ref t5, .ref t6] [(Str.ofString "BadNews", decide (2 = k)), (Str.ofString "BadNumber", decide (3 = k))] := PsA.to (.cons a5 (.cons a6 .nil)) (same_new hL2)
      have e7 := same_new (o := .lst [.ref t5, .ref t6]) hL2
      have c46 := d6.trans e7
      have l1 := c46 _ _ l1
      have p1 := p1.to c46
      have c7 := c6.trans e7
      have l2 : upd G6 L2 (.lst [.ref t5, .ref t6]) L2 = some (.lst [.ref t5, .ref t6]) := upd_same
      generalize upd G6 L2 (.lst [.ref t5, .ref t6]) = G7 at p1 p2 c7 l1 l2 ⊢
      refine ⟨L1, L2, _, _, rfl, rfl, l1, l2, sz (Nat.le_of_ble_eq_true rfl), fun L3 hL3 => ?_⟩
      have p3 : PsA (upd G7 L3 (.lst ([.ref t1, .ref t2, .ref t3] ++ [.ref t5, .ref t6]))) ([.ref t1, .ref t2, .ref t3] ++ [.ref t5, .ref t6]) _ := (p1.app p2).to (same_new hL3)
      have c8 := c7.trans (same_new (o := .lst ([.ref t1, .ref t2, .ref t3] ++ [.ref t5, .ref t6])) hL3)
      have l3 : upd G7 L3 (.lst ([.ref t1, .ref t2, .ref t3] ++ [.ref t5, .ref t6])) L3 = some (.lst ([.ref t1, .ref t2, .ref t3] ++ [.ref t5, .ref t6])) := upd_same
      generalize upd G7 L3 (.lst ([.ref t1, .ref t2, .ref t3] ++ [.ref t5, .ref t6])) = G8 at p3 c8 l3 ⊢
      refine ⟨_, rfl, rfl, _, dd, _, _, rfl, rfl, c8 _ _ hdd, E.c k k5, E.isG k k5, _, rfl, sz (Nat.le_of_ble_eq_true rfl), fun t9 ht9 => ?_⟩
      have e9 := same_new (o := .tup [.str (Str.ofString "no GateError"), .bl (!true)]) ht9
      have a9 : upd G8 t9 (.tup [.str (Str.ofString "no GateError"), .bl (!true)]) t9 = some (.tup [.str (Str.ofString "no GateError"), .bl false]) := upd_same
      have c9 := c8.trans e9
      have l3 := e9 _ _ l3
      have p3 := p3.to e9
      generalize upd G8 t9 (.tup [.str (Str.ofString "no GateError"), .bl (!true)]) = G9 at a9 c9 l3 p3 ⊢
      refine ⟨sz (Nat.le_of_ble_eq_true rfl), fun L4 hL4 => ?_⟩
      have e10 := same_new (o := .lst [.ref t9]) hL4
      have p4 : PsA (upd G9 L4 (.lst [.ref t9])) [.ref t9] [(Str.ofString "no GateError", false)] := PsA.to (.cons a9 .nil) e10
      have c10 := c9.trans e10
      have l3 := e10 _ _ l3
      have p3 := p3.to e10
      have l4 : upd G9 L4 (.lst [.ref t9]) L4 = some (.lst [.ref t9]) := upd_same
      generalize upd G9 L4 (.lst [.ref t9]) = G10 at p4 c10 l3 p3 l4 ⊢
      refine ⟨L3, L4, _, _, rfl, rfl, l3, l4, sz (Nat.le_of_ble_eq_true rfl), fun L5 hL5 => ?_⟩
      have e11 := same_new (o := .lst (([.ref t1, .ref t2, .ref t3] ++ [.ref t5, .ref t6]) ++ [.ref t9])) hL5
      have p5 : PsA (upd G10 L5 (.lst (([.ref t1, .ref t2, .ref t3] ++ [.ref t5, .ref t6]) ++ [.ref t9]))) (([.ref t1, .ref t2, .ref t3] ++ [.ref t5, .ref t6]) ++ [.ref t9]) (wd6 k) := (p3.app p4).to e11
      have c11 := c10.trans e11
      have l5 : upd G10 L5 (.lst (([.ref t1, .ref t2, .ref t3] ++ [.ref t5, .ref t6]) ++ [.ref t9])) L5 = some (.lst (([.ref t1, .ref t2, .ref t3] ++ [.ref t5, .ref t6]) ++ [.ref t9])) := upd_same
      generalize upd G10 L5 (.lst (([.ref t1, .ref t2, .ref t3] ++ [.ref t5, .ref t6]) ++ [.ref t9])) = G11 at p5 c11 l5 ⊢
      refine ⟨L5, rfl, ⟨_, SqL.of l5⟩, fun D hD => ?_⟩
      refine lc_words (K := X.K) p5 l5 (Nat.le_of_ble_eq_true rfl) hD (fun t s b H8 m m0 ht hm hm0 => ?_) fun H9 s9 h9 => ?_
      · refine ⟨t, _, rfl, SqT.of ht, rfl, _, _, rfl, _, _, rfl, rfl, rfl, _, rfl, b, rfl, ?_⟩
        cases b with
        | true => exact iteT ⟨_, rfl, hm rfl⟩
        | false => exact iteF (hm0 rfl)
      · rw [wd6_one k5] at h9
        refine ⟨D, _, rfl, .inl ⟨SqL.of h9, fun l hl => ?_⟩⟩
        have s10 := (c11.trans s9).trans (same_new (o := .tup [V.str (nm5 k)]) hl)
        have h10 : upd H9 l (.tup [V.str (nm5 k)]) l = some (.tup [V.str (nm5 k)]) := upd_same
        generalize upd H9 l (.tup [V.str (nm5 k)]) = H10 at s10 h10 ⊢
        refine ⟨rfl, cl k, dd, _, v, E.x k k5, E.no k k5, rfl, rfl, s10 _ _ hdd, rfl, sz (Nat.le_of_ble_eq_true rfl), fun u hu => ?_⟩
        have s11 := same_new (o := .tup [v]) hu
        have h11 : upd H10 u (.tup [v]) u = some (.tup [v]) := upd_same
        have h10 := s11 _ _ h10
        have s11 := s10.trans s11
        generalize upd H10 u (.tup [v]) = H11 at s11 h10 h11 ⊢
        refine ⟨l, u, _, _, rfl, rfl, SqT.of h10, SqT.of h11, sz (Nat.le_of_ble_eq_true rfl), (fun z => by cases z), (fun _ z => by cases z), fun _ _ t ht => ?_⟩
        exact ⟨_, rfl, q' t _ (s11.trans (same_new ht)) (s11.free ht) upd_same⟩
    · intro v G sG q'
      exact ⟨sz (Nat.le_of_ble_eq_true rfl), fun t ht => ⟨_, rfl, q' t _ (same_new ht) ht upd_same⟩⟩
end
end Ag

end
/-! ## P4 -/
section
set_option linter.all false
set_option maxRecDepth 100000
set_option maxHeartbeats 4000000
namespace Ag
open PySem PySem.Spec PyProof.Rows L2
open SX (S S_len S_cat S_inj)
/-! ### with_message, heard -/
section
variable {P : Program} {w : World} {K : PySem.W.Frag} {mg : Str → Option Value} {base : Heap} {tn tw tb : Tok}
def spWith : Sp := fun vs H Q _ => ∃ p c a b n x v d, vs = [.ref a, v] ∧ VwA H a b n x ∧ x.ok 40 ∧ Dg p c H v d ∧ newsB d = true ∧ NvP p c H Q (newsV x d)
theorem ok_with {f : Addr} {fd : FuncData} (F : Fn K mg "with_message" s_with_message ["view", "message"] f fd) (B : Con mg tn tw tb) : FnOk P w K mg base CX0 1 f fd ["view", "message"] spWith := by
  refine F.F.ok sc_with_message (fun vs H Q E h => ?_) (fun cdv A outer s H vs Q E hr h => ?_)
  · obtain ⟨p, c, a, b, n, x, v, d, rfl, _⟩ := h
    rfl
  · obtain ⟨p, c, a, b, n, x, v, d, rfl, vw, ok, hd, hn, q⟩ := h
    refine ⟨_, (pss_cons (ps_asg (pv 0) (pg_tup rfl (pgs_cons (pg_name (i := 2) sc_with_message.nd rfl (Or.inl rfl)) (pgs_cons (pg_name (i := 3) sc_with_message.nd rfl (Or.inl rfl)) (pgs_cons (pg_name (i := 4) sc_with_message.nd rfl (Or.inl rfl)) (pgs_cons (pg_name (i := 5) sc_with_message.nd rfl (Or.inl rfl)) (pgs_cons (pg_name (i := 6) sc_with_message.nd rfl (Or.inl rfl)) (pgs_cons (pg_name (i := 7) sc_with_message.nd rfl (Or.inl rfl)) (pgs_cons (pg_name (i := 8) sc_with_message.nd rfl (Or.inl rfl)) pgs_nil)))))))))
      (pss_cons (ps_set (i := 9) sc_with_message.nd rfl (.inl rfl) (pe_ix ix_tup (pv 1) pe_int (fun _ _ => rfl)))
      (pss_cons (ps_if (pt_cmpR op_eq (pv 9) pe_str (nomark _))
      (pss_one (ps_ret (pv 0)))
      pss_nil)
      (pss_cons (ps_set (i := 10) sc_with_message.nd rfl (.inl rfl) (pe_ix ix_tup (pv 1) pe_int (fun _ _ => rfl)))
      (pss_cons (ps_if (PW.pt (pw_and (pt_cmpR op_eq (pv 9) pe_str (nomark _)) (pw_and1 (pt_cmpR op_isN (pv 3) pe_non (nomark _)))))
      (pss_one (ps_ret (pe_tup (pa_cons (pv 2) (pa_cons (pv 10) (pa_cons (pv 4) (pa_cons (pv 5) (pa_cons (pv 6) (pa_cons (pv 7) (pa_cons (pv 8) pa_nil))))))))))
      pss_nil)
      (pss_cons (ps_if (PW.pt (pw_and (pt_cmpR op_eq (pv 9) pe_str (nomark _)) (pw_and1 (pt_cmpR op_notIn_seq (pv 10) (pv 5) rfl))))
      (pss_one (ps_ret (pe_tup (pa_cons (pv 2) (pa_cons (pv 3) (pa_cons (pv 4) (pa_cons (pe_callTy call_tuple_of (by rfl) B.n_tuple (by decide +kernel) (pa_cons (pe_callB cr_sortedI (by rfl) B.n_sorted (by decide +kernel) (pa_cons (pe_lst (StX.pa_star (pv 5) (pa_cons (pv 10) pa_nil))) pa_nil)) pa_nil)) (pa_cons (pv 6) (pa_cons (pv 7) (pa_cons (pv 8) pa_nil))))))))))
      pss_nil)
      (pss_cons (ps_if (PW.pt (pw_and (pt_cmpR op_eq (pv 9) pe_str (nomark _)) (pw_and1 (pt_cmpR op_isN (pv 6) pe_non (nomark _)))))
      (pss_one (ps_ret (pe_tup (pa_cons (pv 2) (pa_cons (pv 3) (pa_cons (pv 4) (pa_cons (pv 5) (pa_cons (pv 10) (pa_cons (pv 7) (pa_cons (pv 8) pa_nil))))))))))
      pss_nil)
      (pss_one (ps_ret pe_non))))))))), ?_⟩
    refine ⟨_, rfl, a, _, rfl, SqT.of vw.a, rfl, _, _, rfl, _, _, rfl, _, _, rfl, _, _, rfl, _, _, rfl, _, _, rfl, _, _, rfl, rfl, ?_⟩
    have hn' := hn
    obtain ⟨wd, ds, rfl⟩ := news_shape hn
    cases hd with
    | @tup m xs _ hm hA =>
    cases hA with
    | cons h0 hA =>
    cases h0
    refine ⟨_, rfl, m, _, _, _, rfl, rfl, SqT.of hm.2.2, atI_nat (j := 0) rfl, ?_⟩
    refine ⟨_, rfl, rfl, _, rfl, ?_⟩
    unfold newsB at hn
    split at hn
    · -- well
      rename_i w' e
      injection e with e
      injection e with e1 e2
      injection e1 with e1
      subst e1 e2
      have hw := of_decide_eq_true hn
      subst hw
      cases hA
      exact sT rfl ⟨_, rfl, q a b n H (Same.refl _) vw⟩
    · -- hello, away
      rename_i w' d1 e
      injection e with e
      injection e with e1 e2
      injection e1 with e1
      subst e1 e2
      rw [Bool.and_eq_true, Bool.or_eq_true, decide_eq_true_eq, decide_eq_true_eq] at hn
      obtain ⟨hw, hk⟩ := hn
      obtain ⟨ed, _, e9⟩ := whole_nat (by decide) hk
      cases hA with
      | cons h1 hA =>
      cases hA
      have hq : NvP p c H Q (newsV x (.tuple [.str wd, d1])) := q
      simp only [newsV] at hq
      generalize asNat d1 = k at ed e9 hq
      subst ed
      cases h1
      rcases hw with rfl | rfl
      · refine sF (wS_ne 0 (by decide) 3 (by decide) (by decide)) ⟨_, rfl, m, _, _, _, rfl, rfl, SqT.of hm.2.2, atI_nat (j := 1) rfl, ?_⟩
        rw [if_pos rfl] at hq
        refine ⟨_, rfl, rfl, _, rfl, sT rfl ⟨_, rfl, rfl, _, rfl, ?_⟩⟩
        cases hb : x.bt with
        | none =>
          rw [hb, if_pos rfl] at hq
          rw [show decide (nV none = V.non) = true from rfl]
          refine iteT ⟨_, rfl, _, rfl, _, rfl, _, rfl, _, rfl, _, rfl, _, rfl, sz (Nat.le_of_ble_eq_true rfl), fun a' ha' => ?_⟩
          have s2 := same_new (o := .tup [.str x.h, .int (k : Int), .ref b, .ref n, nV x.aw, nV x.up, .str (stS x.br)]) ha'
          exact hq a' b n _ s2 ⟨upd_same, s2 _ _ vw.b, s2 _ _ vw.n⟩
        | some j =>
          rw [hb, if_neg (fun z => by cases z)] at hq
          rw [show decide (nV (some j) = V.non) = false from rfl]
          refine iteF ?_
          refine ⟨_, rfl, rfl, _, rfl, sF (wS_ne 0 (by decide) 1 (by decide) (by decide)) ⟨_, rfl, rfl, _, rfl, sF (wS_ne 0 (by decide) 2 (by decide) (by decide)) (hq H (Same.refl _))⟩⟩
      · refine sF (wS_ne 2 (by decide) 3 (by decide) (by decide)) ⟨_, rfl, m, _, _, _, rfl, rfl, SqT.of hm.2.2, atI_nat (j := 1) rfl, ?_⟩
        rw [if_neg (wS_ne 2 (by decide) 0 (by decide) (by decide))] at hq
        refine ⟨_, rfl, rfl, _, rfl, sF (wS_ne 2 (by decide) 0 (by decide) (by decide)) ⟨_, rfl, rfl, _, rfl, sF (wS_ne 2 (by decide) 1 (by decide) (by decide)) ⟨_, rfl, rfl, _, rfl, sT rfl ⟨_, rfl, rfl, _, rfl, ?_⟩⟩⟩⟩
        cases hb : x.aw with
        | none =>
          rw [hb, if_pos rfl] at hq
          rw [show decide (nV none = V.non) = true from rfl]
          refine iteT ⟨_, rfl, _, rfl, _, rfl, _, rfl, _, rfl, _, rfl, _, rfl, sz (Nat.le_of_ble_eq_true rfl), fun a' ha' => ?_⟩
          have s2 := same_new (o := .tup [.str x.h, nV x.bt, .ref b, .ref n, .int (k : Int), nV x.up, .str (stS x.br)]) ha'
          exact hq a' b n _ s2 ⟨upd_same, s2 _ _ vw.b, s2 _ _ vw.n⟩
        | some j =>
          rw [hb, if_neg (fun z => by cases z)] at hq
          rw [show decide (nV (some j) = V.non) = false from rfl]
          exact iteF (hq H (Same.refl _))
    · -- answer
      rename_i w' d1 d2 e
      injection e with e
      injection e with e1 e2
      injection e1 with e1
      subst e1 e2
      rw [Bool.and_eq_true, Bool.and_eq_true, decide_eq_true_eq] at hn
      obtain ⟨rfl, hk, _⟩ := hn
      obtain ⟨ed, _, e9⟩ := whole_nat (by decide) hk
      cases hA with
      | cons h1 hA =>
      have hq : NvP p c H Q (newsV x (.tuple [.str (wS 1), d1, d2])) := q
      simp only [newsV] at hq
      generalize asNat d1 = k at ed e9 hq
      subst ed
      cases h1
      refine sF (wS_ne 1 (by decide) 3 (by decide) (by decide)) ⟨_, rfl, m, _, _, _, rfl, rfl, SqT.of hm.2.2, atI_nat (j := 1) rfl, ?_⟩
      refine ⟨_, rfl, rfl, _, rfl, sF (wS_ne 1 (by decide) 0 (by decide) (by decide)) ⟨_, rfl, rfl, _, rfl, sT rfl ⟨_, rfl, _, rfl, n, _, rfl, .inr (SqT.of vw.n), rfl, flat_an _, _, rfl, ?_⟩⟩⟩
      rw [if_pos rfl, in_an]
      by_cases hm' : k ∈ x.an
      · rw [if_pos hm'] at hq
        rw [decide_eq_true hm']
        exact iteF ⟨_, rfl, rfl, _, rfl, sF (wS_ne 1 (by decide) 2 (by decide) (by decide)) (hq H (Same.refl _))⟩
      · rw [if_neg hm'] at hq
        rw [decide_eq_false hm']
        refine iteT ⟨_, rfl, _, rfl, _, rfl, _, rfl, n, _, rfl, .inl (SqT.of vw.n), _, rfl, sz ?_, fun l hl => ?_⟩
        · have := ok.n
          unfold anV
          rw [List.length_append, List.length_map, List.length_singleton]
          omega
        have e1 : (anV x.an ++ [V.int (k : Int)]) = (x.an.map (fun j => ((j : Nat) : Int)) ++ [(k : Int)]).map V.int := by
          unfold anV
          rw [List.map_append, List.map_map]
          rfl
        have s1 := same_new (o := .lst (anV x.an ++ [V.int (k : Int)])) hl
        refine ⟨l, _, rfl, SqL.of (upd_same.trans (congrArg _ (congrArg _ e1))), fun ns W hperm hsort hW => ?_⟩
        have es := sorted_ins (an_asc ok.v) hm' hperm hsort
        subst es
        have s2 := s1.trans (same_new (o := .lst (((insA k x.an).map fun j => ((j : Nat) : Int)).map V.int)) hW)
        refine ⟨W, _, rfl, .inl ⟨SqL.of upd_same, fun n' hn' => ⟨_, rfl, _, rfl, _, rfl, sz (Nat.le_of_ble_eq_true rfl), fun a' ha' => ?_⟩⟩⟩
        have s3 := s2.trans (same_new (o := .tup (((insA k x.an).map fun j => ((j : Nat) : Int)).map V.int)) hn')
        have s4 := same_new (o := .tup [.str x.h, nV x.bt, .ref b, .ref n', nV x.aw, nV x.up, .str (stS x.br)]) ha'
        refine hq a' b n' _ (s3.trans s4) ⟨upd_same, s4 _ _ (s3 _ _ vw.b), s4 _ _ (upd_same.trans ?_)⟩
        show some (HO.tup _) = some (HO.tup (anV (insA k x.an)))
        unfold anV
        rw [List.map_map]
        rfl
    · cases hn
def spHeard (cl : Nat → Addr) : Sp := fun vs H Q E => ∃ p c a b n x v d q nn bb, vs = [.ref a, v] ∧ Dk p c H ∧ VwA H a b n x ∧ x.ok 40 ∧ Dg p c H v d ∧ Gd q d nn bb ∧ OcP cl p c H Q E (heardO x d)
theorem vw_none : viewB .none = false := rfl
theorem ok_heard {cl : Nat → Addr} {f f1 f2 f3 fI1 fI2 fI3 fI4 CV Hd : Addr} {fd fd1 fd2 fd3 d1 d2 d3 d4 : FuncData} (F : Fn K mg "heard" s_heard ["view", "message"] f fd) (B : Con mg tn tw tb) (F_is_view : Fn K mg "is_view" s_is_view ["thing"] f1 fd1) (G_is_view : FnOk P w K mg base CX0 4 f1 fd1 ["thing"] spIsView)
    (F_is_message : Fn K mg "is_message" s_is_message ["thing"] f2 fd2) (G_is_message : FnOk P w K mg base CX0 5 f2 fd2 ["thing"] spMes) (F_with_message : Fn K mg "with_message" s_with_message ["view", "message"] f3 fd3) (G_with_message : FnOk P w K mg base CX0 1 f3 fd3 ["view", "message"] spWith)
    (gH : mg "HEARD" = some (.ref Hd)) (hH : ∀ H, SqT K H Hd hS) (X_BadView : ExcI K mg "BadView" "BadView.__init__" "thing" s_BadView CV fI1 d1) (X_BadMessage : ExcI K mg "BadMessage" "BadMessage.__init__" "thing" s_BadMessage (cl 1) fI2 d2)
    (X_Broken : ExcI K mg "Broken" "Broken.__init__" "thing" s_Broken (cl 4) fI3 d3) (X_BadNews : ExcI K mg "BadNews" "BadNews.__init__" "thing" s_BadNews (cl 2) fI4 d4) : FnOk P w K mg base (L2N.CX P w) 6 f fd ["view", "message"] (spHeard cl) := by
  refine okXN F.F sc_heard (fun vs H Q E h => ?_) (fun cdv A outer s H vs Q E hr h => ?_)
  · obtain ⟨p, c, a, b, n, x, v, d, q, nn, bb, rfl, _⟩ := h
    rfl
  · obtain ⟨p, c, a, b, n, x, v, d, gq, nn, bb, rfl, dk, vw, ok, hd, hg, q⟩ := h
    refine ⟨_, (pss_cons (ps_if (pt_not (pt_val (pe_call G_is_view (hr.mono (by decide)) (by rfl) F_is_view.g F_is_view.F.kp F_is_view.b .nil pass0 (pa_cons (pv 0) pa_nil))))
      (pss_one (L2N.ps_raise rfl (L2N.takes_of rfl rfl rfl rfl) (pmkEN X_BadView.E X_BadView.i (ini_any sc_BadView rfl (.inl rfl) (.inl rfl) (fun _ _ => rfl) rfl rfl X_BadView.F) (hr.mono (by decide)) X_BadView.b pass0 (by rfl) X_BadView.g (pa_cons (pv 0) pa_nil))))
      pss_nil)
      (pss_cons (ps_if (PW.pt (pw_or (pt_not (pt_val (pe_call G_is_message (hr.mono (by decide)) (by rfl) F_is_message.g F_is_message.F.kp F_is_message.b .nil pass0 (pa_cons (pv 1) pa_nil)))) (pw_or1 (pt_cmpR op_notIn_seq (pe_ix ix_tup (pv 1) pe_int (fun _ _ => rfl)) (pe_glob (v := .ref Hd) rfl gH rfl) rfl))))
      (pss_one (L2N.ps_raise rfl (L2N.takes_of rfl rfl rfl rfl) (pmkEN X_BadMessage.E X_BadMessage.i (ini_any sc_BadMessage rfl (.inl rfl) (.inl rfl) (fun _ _ => rfl) rfl rfl X_BadMessage.F) (hr.mono (by decide)) X_BadMessage.b pass0 (by rfl) X_BadMessage.g (pa_cons (pv 1) pa_nil))))
      pss_nil)
      (pss_cons (ps_asg (pv 0) (pg_tup rfl (pgs_cons (pg_name (i := 2) sc_heard.nd rfl (Or.inl rfl)) (pgs_cons (pg_name (i := 3) sc_heard.nd rfl (Or.inl rfl)) (pgs_cons (pg_name (i := 3) sc_heard.nd rfl (Or.inl rfl)) (pgs_cons (pg_name (i := 3) sc_heard.nd rfl (Or.inl rfl)) (pgs_cons (pg_name (i := 3) sc_heard.nd rfl (Or.inl rfl)) (pgs_cons (pg_name (i := 3) sc_heard.nd rfl (Or.inl rfl)) (pgs_cons (pg_name (i := 4) sc_heard.nd rfl (Or.inl rfl)) pgs_nil)))))))))
      (pss_cons (ps_if (pt_cmpR op_eq (pv 4) pe_str (nomark _))
      (pss_one (L2N.ps_raise rfl (L2N.takes_of rfl rfl rfl rfl) (pmkEN X_Broken.E X_Broken.i (ini_any sc_Broken rfl (.inl rfl) (.inl rfl) (fun _ _ => rfl) rfl rfl X_Broken.F) (hr.mono (by decide)) X_Broken.b pass0 (by rfl) X_Broken.g (pa_cons (pv 2) pa_nil))))
      pss_nil)
      (pss_cons (ps_set (i := 5) sc_heard.nd rfl (.inl rfl) (pe_call G_with_message (hr.mono (by decide)) (by rfl) F_with_message.g F_with_message.F.kp F_with_message.b .nil pass0 (pa_cons (pv 0) (pa_cons (pv 1) pa_nil))))
      (pss_cons (ps_if (pt_not (pt_val (pe_call G_is_view (hr.mono (by decide)) (by rfl) F_is_view.g F_is_view.F.kp F_is_view.b .nil pass0 (pa_cons (pv 5) pa_nil))))
      (pss_one (L2N.ps_raise rfl (L2N.takes_of rfl rfl rfl rfl) (pmkEN X_BadNews.E X_BadNews.i (ini_any sc_BadNews rfl (.inl rfl) (.inl rfl) (fun _ _ => rfl) rfl rfl X_BadNews.F) (hr.mono (by decide)) X_BadNews.b pass0 (by rfl) X_BadNews.g (pa_cons (pv 1) pa_nil))))
      pss_nil)
      (pss_one (ps_ret (pv 5))))))))), ?_⟩
    refine ⟨_, rfl, p, c, _, _, false, _, _, rfl, vw.dg dk, ok.gd false, fun H1 s1 => ⟨_, rfl, ?_⟩⟩
    rw [ok.v]
    have vw := vw.to (.of s1)
    have hd := hd.to (.same s1)
    refine iteF ⟨_, rfl, p, c, v, d, gq, _, _, rfl, hd, hg, fun H2 s2 => ⟨_, rfl, ?_⟩⟩
    have s2 := s1.trans s2
    have vw := vw.to (.of ‹Same H1 H2›)
    have hd := hd.to (.same ‹Same H1 H2›)
    have dk := dk.same s2
    unfold heardO at q
    have bad : newsB d = false → tMkO (cl 1) (spIni K "thing") [] (tCons (tVar 1) tNil) _ H2 (fun cls d G => E cls d G) := fun hn => by
      rw [hn] at q
      exact raise_i (σ := L2.start N_heard [V.ref a, v]) X_BadMessage.E X_BadMessage.no rfl (q v H2 s2 hd)
    cases hm : mesB d with
    | false => exact iteT (iteT (bad (news_mes hm)))
    | true =>
    obtain ⟨wd, ds, rfl⟩ := mes_shape hm
    have key := mes_news wd ds
    rw [hm, Bool.true_and] at key
    cases hd with
    | @tup m xs _ hmm hA =>
    cases hA with
    | cons h0 hA =>
    cases h0
    have hd : Dg p c H2 (.ref m) (.tuple (.str wd :: ds)) := .tup hmm (.cons (.str _) hA)
    refine iteF ⟨_, rfl, m, _, _, _, rfl, rfl, SqT.of hmm.2.2, atI_nat (j := 0) rfl, Hd, _, rfl, .inr (hH _), rfl, (by decide), _, rfl, ?_⟩
    rw [if_pos rfl, in_heard]
    cases hh : isHeard wd with
    | false => exact iteT (bad (key.symm.trans hh))
    | true =>
    have hn := key.symm.trans hh
    rw [hn, if_pos rfl] at q
    refine iteF ⟨_, rfl, a, _, rfl, SqT.of vw.a, rfl, _, _, rfl, _, _, rfl, _, _, rfl, _, _, rfl, _, _, rfl, _, _, rfl, _, _, rfl, rfl, ?_⟩
    refine ⟨_, rfl, rfl, _, rfl, ?_⟩
    cases hbr : x.br with
    | true =>
      rw [hbr, if_pos rfl] at q
      exact iteT (raise_i X_Broken.E X_Broken.no rfl (q (.str x.h) H2 s2 (.str _)))
    | false =>
    rw [hbr, if_neg (by decide)] at q
    rw [show decide (V.str (stS false) = V.str (Str.ofString "broken")) = false from decide_eq_false (by decide +kernel)]
    refine iteF ⟨_, rfl, _, rfl, p, c, a, b, n, x, _, _, rfl, vw, ok, hd, hn, ?_⟩
    cases hv : newsV x (.tuple (.str wd :: ds)) with
    | none =>
      rw [hv] at q
      refine fun H3 s3 => ⟨_, rfl, p, c, _, _, false, 0, 0, rfl, .non, .non, fun H4 s4 => ⟨_, rfl, ?_⟩⟩
      rw [vw_none]
      exact iteT (raise_i X_BadNews.E X_BadNews.no rfl (q (.ref m) H4 ((s2.trans s3).trans s4) (hd.to (.same (s3.trans s4)))))
    | some y =>
      rw [hv] at q
      refine fun a' b' n' H3 s3 vw' => ⟨_, rfl, p, c, _, _, false, _, _, rfl, vw'.dg (dk.same s3), (newsV_fit ok hn hv).gd false, fun H4 s4 => ⟨_, rfl, ?_⟩⟩
      cases hvb : viewB (vwD y) with
      | false =>
        simp only [hvb] at q
        exact iteT (raise_i X_BadNews.E X_BadNews.no rfl (q (.ref m) H4 ((s2.trans s3).trans s4) (hd.to (.same (s3.trans s4)))))
      | true =>
        simp only [hvb] at q
        exact iteF ⟨_, rfl, q a' b' n' H4 ((s2.trans s3).trans s4) (vw'.to (.of s4))⟩
end
end Ag

end
/-! ## GT12 -/
section
set_option linter.all false
set_option maxRecDepth 100000
set_option maxHeartbeats 1000000
namespace Ag
open PySem PySem.Spec PyProof.Rows L2
abbrev qLam : Str := (Str.ofString "law" ++ Str.ofString ".<locals>.") ++ Str.ofString "<lambda>"
/-- all but the deck and the table stays -/
def Gt (p c Pt : Addr) (H H' : Hp) : Prop := Kt p c H H' ∧ Dk p c H' ∧ LamX.Tabs [(Pt, qLam)] H'
section
variable {p c Pt : Addr} {H H1 H2 G G' : Hp}
theorem Gt.refl (d : Dk p c H) (t : LamX.Tabs [(Pt, qLam)] H) : Gt p c Pt H H := ⟨Kt.refl, d, t⟩
theorem Gt.trans (a : Gt p c Pt H H1) (b : Gt p c Pt H1 H2) : Gt p c Pt H H2 := ⟨a.1.trans b.1, b.2⟩
theorem Gt.same (a : Gt p c Pt H H1) (s : Same H1 H2) : Gt p c Pt H H2 := ⟨a.1.trans (.of (Kp.same s)), a.2.1.same s, a.2.2.ext s⟩
theorem Gt.ext (a : Gt p c Pt H H1) (e : LamX.ExtN H1 H2) (t : LamX.Tabs [(Pt, qLam)] H2) : Gt p c Pt H H2 := by
  refine ⟨a.1.trans (.ext e), ?_, t⟩
  obtain ⟨m, n, cs, h1, h2, h3⟩ := a.2.1
  exact ⟨m, n, cs, e _ _ h1 (fun _ z => by cases z), e _ _ h2 (fun _ z => by cases z), h3⟩
theorem tabs_gx (d : Dk p c H) (t : LamX.Tabs [(Pt, qLam)] H) (g : Gx p c H H1) : LamX.Tabs [(Pt, qLam)] H1 := by
  obtain ⟨m, n, cs, e1, e2, _⟩ := d
  intro y hy
  obtain ⟨ps, h1, h2, h3⟩ := t y hy
  refine ⟨ps, g.1 _ _ (fun z => ?_) (fun z => ?_) h1, h2, fun pos cv hc => ?_⟩
  · rw [z, e1] at h1; cases h1
  · rw [z, e2] at h1; cases h1
  · obtain ⟨cc, ec, hcc⟩ := h3 pos cv hc
    refine ⟨cc, ec, g.1 _ _ (fun z => ?_) (fun z => ?_) hcc⟩
    · rw [z, e1] at hcc; cases hcc
    · rw [z, e2] at hcc; cases hcc
theorem tabs_put {L : Addr} {ys : List V} {o : HO} (h : H L = some (.lst ys)) (t : LamX.Tabs [(Pt, qLam)] H) : LamX.Tabs [(Pt, qLam)] (upd H L o) := by
  intro y hy
  obtain ⟨ps, h1, h2, h3⟩ := t y hy
  refine ⟨ps, ?_, h2, fun pos cv hc => ?_⟩
  · rw [upd_ne (fun z => by rw [z, h] at h1; cases h1)]
    exact h1
  · obtain ⟨cc, ec, hcc⟩ := h3 pos cv hc
    refine ⟨cc, ec, ?_⟩
    rw [upd_ne (fun z => by rw [z, h] at hcc; cases hcc)]
    exact hcc
theorem Gt.gx (a : Gt p c Pt H H1) (g : Gx p c H1 H2) : Gt p c Pt H H2 := ⟨a.1.trans (.of g.1), g.2, tabs_gx a.2.1 a.2.2 g⟩
end
/-! ### the law's views and the program's -/
def upN {α : Type} (f : Nat → α) (k : Nat) (v : α) : Nat → α := fun j => if j = k then v else f j
theorem upN_set {A : Nat → Addr} {k : Nat} {r : Addr} (h : k < 2) : ([V.ref (A 0), V.ref (A 1)] : List V).set k (.ref r) = [.ref (upN A k r 0), .ref (upN A k r 1)] := by
  match k, h with
  | 0, _ => rfl
  | 1, _ => rfl
structure St (p c Pt L1 L2 : Addr) (H : Hp) (A A' : Nat → Addr) (x : Nat → Vw) (m : Nat) : Prop where
  dk : Dk p c H
  tb : LamX.Tabs [(Pt, qLam)] H
  n1 : L1 ≠ p ∧ L1 ≠ c
  n2 : L2 ≠ p ∧ L2 ≠ c
  n12 : L1 ≠ L2
  e1 : H L1 = some (.lst [.ref (A 0), .ref (A 1)])
  e2 : H L2 = some (.lst [.ref (A' 0), .ref (A' 1)])
  v : ∀ j, j < 2 → (∃ b n, VwA H (A j) b n (x j)) ∧ (∃ b n, VwA H (A' j) b n (x j)) ∧ (x j).ok m
section
variable {p c Pt L1 L2 : Addr} {H H' : Hp} {A A' : Nat → Addr} {x : Nat → Vw} {m : Nat}
theorem St.gt (s : St p c Pt L1 L2 H A A' x m) (g : Gt p c Pt H H') : St p c Pt L1 L2 H' A A' x m := ⟨g.2.1, g.2.2, s.n1, s.n2, s.n12, g.1 _ _ s.n1.1 s.n1.2 (fun _ z => by cases z) s.e1, g.1 _ _ s.n2.1 s.n2.2 (fun _ z => by cases z) s.e2, fun j hj => by
  obtain ⟨⟨b, n, h1⟩, ⟨b', n', h2⟩, h3⟩ := s.v j hj
  have t := Ts.kt s.dk g.1
  exact ⟨⟨b, n, h1.to t⟩, ⟨b', n', h2.to t⟩, h3⟩⟩
theorem St.gx (s : St p c Pt L1 L2 H A A' x m) (g : Gx p c H H') : St p c Pt L1 L2 H' A A' x m := s.gt ((Gt.refl s.dk s.tb).gx g)
theorem St.same (s : St p c Pt L1 L2 H A A' x m) (g : Same H H') : St p c Pt L1 L2 H' A A' x m := s.gt ((Gt.refl s.dk s.tb).same g)
theorem St.mono {k : Nat} (s : St p c Pt L1 L2 H A A' x m) (h : m ≤ k) : St p c Pt L1 L2 H A A' x k := ⟨s.dk, s.tb, s.n1, s.n2, s.n12, s.e1, s.e2, fun j hj => ⟨(s.v j hj).1, (s.v j hj).2.1, (s.v j hj).2.2.mono h⟩⟩
theorem St.at1 (s : St p c Pt L1 L2 H A A' x m) {k : Nat} (h : k < 2) : ([V.ref (A 0), V.ref (A 1)] : List V)[k]? = some (.ref (A k)) := by
  match k, h with
  | 0, _ => rfl
  | 1, _ => rfl
theorem St.at2 (s : St p c Pt L1 L2 H A A' x m) {k : Nat} (h : k < 2) : ([V.ref (A' 0), V.ref (A' 1)] : List V)[k]? = some (.ref (A' k)) := by
  match k, h with
  | 0, _ => rfl
  | 1, _ => rfl
theorem St.set (s : St p c Pt L1 L2 H A A' x m) {k : Nat} (hk : k < 2) {r r' b n b' n' : Addr} {y : Vw} (h1 : VwA H r b n y) (h2 : VwA H r' b' n' y) (ok : y.ok m) :
    St p c Pt L1 L2 (upd (upd H L1 (.lst (([V.ref (A 0), V.ref (A 1)] : List V).set k (.ref r)))) L2 (.lst (([V.ref (A' 0), V.ref (A' 1)] : List V).set k (.ref r')))) (upN A k r) (upN A' k r') (upN x k y) m := by
  have e2 : upd H L1 (.lst (([V.ref (A 0), V.ref (A 1)] : List V).set k (.ref r))) L2 = some (.lst [.ref (A' 0), .ref (A' 1)]) := by
    rw [upd_ne s.n12.symm]
    exact s.e2
  have t : Ts H (upd (upd H L1 (.lst (([V.ref (A 0), V.ref (A 1)] : List V).set k (.ref r)))) L2 (.lst (([V.ref (A' 0), V.ref (A' 1)] : List V).set k (.ref r')))) := (Ts.put s.e1).trans (Ts.put e2)
  refine ⟨?_, tabs_put e2 (tabs_put s.e1 s.tb), s.n1, s.n2, s.n12, ?_, ?_, fun j hj => ?_⟩
  · obtain ⟨q, t, cs, h1, h2, h3⟩ := s.dk
    exact ⟨q, t, cs, by rw [upd_ne s.n2.1.symm, upd_ne s.n1.1.symm]; exact h1, by rw [upd_ne s.n2.2.symm, upd_ne s.n1.2.symm]; exact h2, h3⟩
  · rw [upd_ne s.n12, upd_same, upN_set hk]
  · rw [upd_same, upN_set hk]
  · unfold upN
    by_cases e : j = k
    · rw [if_pos e, if_pos e, if_pos e]
      exact ⟨⟨b, n, h1.to t⟩, ⟨b', n', h2.to t⟩, ok⟩
    · rw [if_neg e, if_neg e, if_neg e]
      obtain ⟨⟨b, n, h1⟩, ⟨b', n', h2⟩, h3⟩ := s.v j hj
      exact ⟨⟨b, n, h1.to t⟩, ⟨b', n', h2.to t⟩, h3⟩
end
/-! ### over the lambdas -/
section
variable {p c Pt : Addr} {H H1 H2 : Hp} {cl : Nat → Addr} {E : XK} {Q : VK} {R : VK} {o : Oc}
theorem core_oc (g : Gt p c Pt H H2) (hk : ∀ k t, o = .bad k t → k < 5)
    (hE : ∀ cls d G, Same H2 G → (∃ k dd v, k < 5 ∧ cls = .ref (cl k) ∧ d = some dd ∧ G dd = some (.xd [("thing", v)]) ∧ ∀ t G', Same G G' → G t = none → G' t = some (.tup [.str (nm5 k), v]) → Q (.ref t) G') → E cls d G)
    (hR : ∀ v G, Same H2 G → (∀ t G', Same G G' → G t = none → G' t = some (.tup [.str retS, v]) → Q (.ref t) G') → R v G)
    (q : ∀ t G, Gt p c Pt H G → OcA p c G t o → Q (.ref t) G) : OcP cl p c H2 R E o := by
  cases o with
  | ret y =>
    intro a b n H3 s3 vw
    exact hR _ _ s3 fun t G' sG nT hT => q t G' ((g.same s3).same sG) ⟨a, b, n, hT, vw.to (.of sG)⟩
  | bad k d =>
    intro v H3 s3 hd dx H4 s4 _ hx
    exact hE _ _ _ (s3.trans s4) ⟨k, dx, v, hk k d rfl, rfl, rfl, hx, fun t G' sG nT hT => q t G' ((g.same (s3.trans s4)).same sG) ⟨v, hT, hd.to (.same (s4.trans sG))⟩⟩
theorem ask_lt {x : Vw} {d : PyData} : ∀ k t, askO x d = .bad k t → k < 5 := by
  intro k t h
  unfold askO at h
  split at h
  · split at h
    · cases h; decide
    · split at h
      · cases h
      · cases h; decide
  · cases h; decide
theorem heard_lt {x : Vw} {d : PyData} : ∀ k t, heardO x d = .bad k t → k < 5 := by
  intro k t h
  unfold heardO at h
  split at h
  · split at h
    · cases h; decide
    · split at h
      · split at h
        · cases h
        · cases h; decide
      · cases h; decide
  · cases h; decide
theorem upto_lt {x : Vw} {d : PyData} : ∀ k t, uptoO x d = .bad k t → k < 5 := by
  intro k t h
  unfold uptoO at h
  split at h
  · split at h
    · cases h
    · cases h; decide
  · cases h; decide
variable {σ : L2.St} {i j l : Nat} {a b n : Addr} {x : Vw} {v : V} {d : PyData} {k : Nat}
theorem lam_ask (g : Gt p c Pt H H1) (e1 : σ[i]? = some (some (.int (k : Int)))) (e2 : σ[j]? = some (some (.ref a))) (e3 : σ[l]? = some (some v)) (dk : Dk p c H1) (vw : VwA H1 a b n x) (ok : x.ok 40) (hd : Dg p c H1 v d) (th : ThG d) (q : ∀ t G, Gt p c Pt H G → OcA p c G t (askO x d) → Q (.ref t) G) :
    LamX.tLam [(Pt, qLam)] (TTried cl) (fun E => tIf (tTest (tOp rEq (tVar i) (tC (.int 0)))) (tCall (spAsk cl) [] E (tCons (tVar j) (tCons (tVar l) tNil))) (tKwE (spAsk cl) 2 List.reverse E (tCons (tVar l) (tCons (tVar j) tNil)))) σ H1 Q := by
  obtain ⟨gq, hg, _⟩ := th
  refine ⟨g.2.2, fun G1 x1 T1 G2 E R s2 hE hR => ?_⟩
  have g2 := (g.ext x1 T1).same s2
  have k2 := (Kt.ext x1).trans (Kt.of (Kp.same s2) : Kt p c G1 G2)
  refine ⟨_, e1, rfl, _, rfl, ite2 (fun _ => ?_) (fun _ => ?_)⟩
  · exact ⟨_, e2, _, e3, p, c, a, b, n, x, v, d, gq, _, _, rfl, g2.2.1, vw.to (Ts.kt dk k2), ok, hd.kt k2, hg, core_oc g2 ask_lt hE hR q⟩
  · exact ⟨_, e3, _, e2, rfl, p, c, a, b, n, x, v, d, gq, _, _, rfl, g2.2.1, vw.to (Ts.kt dk k2), ok, hd.kt k2, hg, core_oc g2 ask_lt hE hR q⟩
theorem lam_heard (g : Gt p c Pt H H1) (e1 : σ[i]? = some (some (.int (k : Int)))) (e2 : σ[j]? = some (some (.ref a))) (e3 : σ[l]? = some (some v)) (dk : Dk p c H1) (vw : VwA H1 a b n x) (ok : x.ok 40) (hd : Dg p c H1 v d) (th : ThG d) (q : ∀ t G, Gt p c Pt H G → OcA p c G t (heardO x d) → Q (.ref t) G) :
    LamX.tLam [(Pt, qLam)] (TTried cl) (fun E => tIf (tTest (tOp rEq (tVar i) (tC (.int 0)))) (tCall (spHeard cl) [] E (tCons (tVar j) (tCons (tVar l) tNil))) (tKwE (spHeard cl) 2 List.reverse E (tCons (tVar l) (tCons (tVar j) tNil)))) σ H1 Q := by
  obtain ⟨gq, hg, _⟩ := th
  refine ⟨g.2.2, fun G1 x1 T1 G2 E R s2 hE hR => ?_⟩
  have g2 := (g.ext x1 T1).same s2
  have k2 := (Kt.ext x1).trans (Kt.of (Kp.same s2) : Kt p c G1 G2)
  refine ⟨_, e1, rfl, _, rfl, ite2 (fun _ => ?_) (fun _ => ?_)⟩
  · exact ⟨_, e2, _, e3, p, c, a, b, n, x, v, d, gq, _, _, rfl, g2.2.1, vw.to (Ts.kt dk k2), ok, hd.kt k2, hg, core_oc g2 heard_lt hE hR q⟩
  · exact ⟨_, e3, _, e2, rfl, p, c, a, b, n, x, v, d, gq, _, _, rfl, g2.2.1, vw.to (Ts.kt dk k2), ok, hd.kt k2, hg, core_oc g2 heard_lt hE hR q⟩
theorem lam_upto (g : Gt p c Pt H H1) (e1 : σ[i]? = some (some (.int (k : Int)))) (e2 : σ[j]? = some (some (.ref a))) (e3 : σ[l]? = some (some v)) (dk : Dk p c H1) (vw : VwA H1 a b n x) (ok : x.ok 40) (hd : Dg p c H1 v d) (th : ThG d) (q : ∀ t G, Gt p c Pt H G → OcA p c G t (uptoO x d) → Q (.ref t) G) :
    LamX.tLam [(Pt, qLam)] (TTried cl) (fun E => tIf (tTest (tOp rEq (tVar i) (tC (.int 0)))) (tCall (spUpto cl) [] E (tCons (tVar j) (tCons (tVar l) tNil))) (tKwE (spUpto cl) 2 List.reverse E (tCons (tVar l) (tCons (tVar j) tNil)))) σ H1 Q := by
  obtain ⟨gq, hg, _⟩ := th
  refine ⟨g.2.2, fun G1 x1 T1 G2 E R s2 hE hR => ?_⟩
  have g2 := (g.ext x1 T1).same s2
  have k2 := (Kt.ext x1).trans (Kt.of (Kp.same s2) : Kt p c G1 G2)
  refine ⟨_, e1, rfl, _, rfl, ite2 (fun _ => ?_) (fun _ => ?_)⟩
  · exact ⟨_, e2, _, e3, p, c, a, b, n, x, v, d, rfl, g2.2.1, vw.to (Ts.kt dk k2), ok, hd.kt k2, core_oc g2 upto_lt hE hR q⟩
  · exact ⟨_, e3, _, e2, rfl, p, c, a, b, n, x, v, d, rfl, g2.2.1, vw.to (Ts.kt dk k2), ok, hd.kt k2, core_oc g2 upto_lt hE hR q⟩

end
end Ag

end
/-! ## GC -/
section
set_option linter.all false
set_option maxRecDepth 100000
namespace Ag
open PySem PySem.Spec PyProof.Rows L2
section
variable {P : Program} {w : World} {K : PySem.W.Frag} {mg : Str → Option Value} {base : Heap}
/-- like okG, and the code object is told -/
theorem okGc {x qual : Str} {st : Stmt} {f : Addr} {fd : FuncData} {N ps : List Str} {k : Nat} {sp : Sp} (F : Fun K x qual st f fd) (S : FnScope N ps (defScope st))
    (len : ∀ vs H Q E, sp vs H Q E → vs.length = ps.length)
    (hbody : ∀ (A : Around) (outer : List Env) (s : Shared) (H : Hp) (vs : List V) (Q : VK) (E : XK), Room k (A.deeper (envOfC qual (defScope st) s.heap.objs.size f fd.code)) →
      (A.deeper (envOfC qual (defScope st) s.heap.objs.size f fd.code)).guards = some [] → sp vs H Q E →
      ∃ t, PSs (cxOf CX0 P w K mg base N qual (defScope st) f fd.code A outer s H E).nox (defBody st) t ∧ t { nx := fun _ H' => Q .non H', rt := Q } (start N vs) H) :
    FnG P w K mg base (k + 1) f fd ps sp := by
  obtain ⟨oc, od, kV, doc, pm, an, cdv, ct, osl, rfl, lk, hcd⟩ := F.ex
  refine ⟨len, ?_⟩
  intro A outer s H args us vs Q E hr hg env0 hb rel hsp
  have below : ∀ b o, base.get? b = some o → s.heap.get? b = some o := fun b o e => (env0.bs b o e).1
  have KX : K.In s.heap := env0.mod.kin.keeps below
  have lim : s.heap.NoLimit := env0.mod.nolimit.keeps below
  have kinds : ∀ y ∈ ps.zip us, (defScope st).names.lookup y.1 = some .local ∨ ((defScope st).names.lookup y.1 = some .cell ∧ ((cellsFrom (s.heap.objs.size + 1) (defScope st).names []).lookup y.1).isSome = true) := by
    rintro ⟨n, v⟩ hy
    exact (S.par n (List.of_mem_zip hy).1).imp id fun q => ⟨q, PySem.W.cellsFrom_some _ _ _ (.inl q)⟩
  refine codeAny_call_function hr.depth (KX f _ lk) rfl S.co S.gen rfl (PySem.W.codeRec_of KX hcd) (hb _ _ _ _ (wpAny_newFunctionEnv_cells S.kind kinds ?_))
  intro env he s1 z
  subst he
  refine ⟨lim.keeps z.toInCall.keep, codeAny_func ?_⟩
  obtain ⟨t, ht, hq⟩ := hbody A outer s H vs Q E (hr.deeper _) (g_deeper hg) hsp
  have I := inv_start (CX := CX0) (E := E) S hr.hd env0 (len vs H Q E hsp) rel z
  refine wpAny_mono (ht.nox.run [] s1 (start N vs) H _ I hq) (fun fl s' hs => ?_) (fun e s' hs => hs)
  cases fl with
  | brk => exact hs.elim fun _ z => z.elim fun _ z => z.2.elim
  | cont => exact hs.elim fun _ z => z.elim fun _ z => z.2.elim
  | next =>
    obtain ⟨σ', H', J, q⟩ := hs
    exact ⟨.non, H', J.os, J.bare, J.base, J.hok, rfl, q⟩
  | ret u =>
    obtain ⟨v, σ', H', J, rv, q⟩ := hs
    exact ⟨v, H', J.os, J.bare, J.base, J.hok, rv, q⟩
end
end Ag

end
/-! ## IfM -/
section
set_option linter.all false
set_option maxRecDepth 100000
namespace Ag
open PySem PySem.Spec PyProof.Rows L2
/-- a value, by way of what is known of it -/
def tMid (t : TE) : TE := fun σ H Q => ∃ I : V → Hp → Prop, (∀ Q' : VK, (∀ v H', I v H' → Q' v H') → t σ H Q') ∧ ∀ v H', I v H' → Q v H'
theorem pe_ifMid {X : Cx} {c a b : Expr} {pos : Pos} {tA : TT} {ta tb : TE} (hc : PT X c tA) (ha : PE X a ta) (hb : PE X b tb) : PE X (.IfExp c a b pos) (tMid (tIf tA ta tb)) :=
  ⟨fun pins s σ H Q I hw => by
    obtain ⟨J, h1, h2⟩ := hw
    exact (pe_ifExp hc ha hb).run pins s σ H Q I (h1 Q h2)⟩
end Ag

end
/-! ## Q6 -/
section
set_option linter.all false
set_option maxRecDepth 100000
set_option maxHeartbeats 8000000
namespace Ag
open PySem PySem.Spec PyProof.Rows L2
open SX (S S_len S_cat S_inj)
theorem one_flat {zs : List (List Nat)} (h : ∀ z ∈ zs, ∃ ch, z = [ch] ∧ azC ch = true) : zs.flatten.length = zs.length ∧ zs.flatten.all azC = true := by
  induction zs with
  | nil => exact ⟨rfl, rfl⟩
  | cons z zs ih =>
    obtain ⟨h1, h2⟩ := ih fun u hu => h u (List.mem_cons_of_mem _ hu)
    obtain ⟨ch, rfl, hc⟩ := h z List.mem_cons_self
    refine ⟨?_, ?_⟩
    · rw [List.flatten_cons, List.length_append, h1]
      simp
      omega
    · rw [List.flatten_cons, List.all_append, h2]
      simp [hc]
section
variable {P : Program} {w : World} {K : PySem.W.Frag} {mg : Str → Option Value} {base : Heap} {tn tw tb : Tok}
def spMkWd : Sp := fun vs H Q _ => ∃ (p c : Addr), vs = [.ref p] ∧ Dk p c H ∧ ∀ (x : Str) H', wordB (.str x) = true → Gx p c H H' → Q (.str x) H'
theorem ok_mkwd {f f2 f1 : Addr} {fd fd2 fd1 : FuncData} (F : Fn K mg "_law_word" s__law_word ["_law_deck"] f fd) (B : Con mg tn tw tb) (F__law_draw : Fn K mg "_law_draw" s__law_draw ["_law_deck", "_law_many"] f1 fd1) (F__law_pick : Fn K mg "_law_pick" s__law_pick ["_law_deck", "_law_some"] f2 fd2) :
    FnOk P w K mg base CX0 3 f fd ["_law_deck"] spMkWd := by
  have G__law_pick : FnOk P w K mg base CX0 2 f2 fd2 ["_law_deck", "_law_some"] spPick := ok_pick F__law_pick B.toBlt F__law_draw
  refine F.F.ok sc__law_word (fun vs H Q E h => ?_) (fun cdv A outer s H vs Q E hr h => ?_)
  · obtain ⟨p, c, rfl, _⟩ := h
    rfl
  · obtain ⟨p, c, rfl, dk, q⟩ := h
    refine ⟨_, (pss_cons (ps_setLc (i := 1) (own := [("_law_sign", 2)]) rfl sc__law_word.nd rfl rfl (sw_true rfl rfl rfl (by decide +kernel)) (pi_range1 (by rfl) B.n_range (pa_cons (pe_call G__law_pick (hr.mono (by decide)) (by rfl) F__law_pick.g F__law_pick.F.kp F__law_pick.b .nil pass0 (pa_cons (pv 0) (pa_cons (pe_lst (pa_cons pe_int (pa_cons pe_int (pa_cons pe_int (pa_cons pe_int pa_nil))))) pa_nil))) pa_nil)) (blkOk_by (N := N__law_word) (sc := defScope s__law_word) (by decide +kernel)) (fun _ _ _ _ _ => (pg_name (i := 2) sc__law_word.nd rfl (Or.inl rfl))) (fun _ _ _ _ _ => pts_nil) (fun _ _ _ _ _ => (pe_call G__law_pick (hr.mono (by decide)) (by rfl) F__law_pick.g F__law_pick.F.kp F__law_pick.b .nil pass0 (pa_cons (pv 0) (pa_cons pe_str pa_nil)))))
      (pss_one (ps_ret (pe_join pe_str (pv 1))))), ?_⟩
    refine ⟨_, rfl, sz (by show 4 ≤ 16000000; decide), fun a ha => ?_⟩
    have g1 := Gx.new (o := .lst [.int 3, .int 1, .int 10, .int 2]) dk ha
    have a1 := At.new (o := .lst [.int 3, .int 1, .int 10, .int 2]) dk ha
    refine ⟨p, c, .ref a, rfl, g1.2, .inl ⟨a, _, rfl, a1, (by show 1 ≤ 4; decide), (by show 4 ≤ 100000; decide), fun r x H2 hx g2 => ?_⟩⟩
    have g2 := g1.trans g2
    obtain ⟨m, hm, rfl⟩ : ∃ m : Nat, (1 ≤ m ∧ m ≤ 10) ∧ x = .int (m : Int) := by
      have mem := List.mem_of_getElem? hx
      simp only [List.mem_cons, List.not_mem_nil, or_false] at mem
      rcases mem with rfl | rfl | rfl | rfl
      · exact ⟨3, by decide, rfl⟩
      · exact ⟨1, by decide, rfl⟩
      · exact ⟨10, by decide, rfl⟩
      · exact ⟨2, by decide, rfl⟩
    refine ⟨_, rfl, by omega, by omega, fun D hD => ?_⟩
    have nD := g2.2.ne hD
    have hD0 := g2.free dk hD
    have hmm : ((m : Int)).toNat = m := by simp
    refine lc_all (walk_range (lo := 0) (n := ((m : Int)).toNat)) (fun H' => Gx p c H H') (fun _ y => ∃ z, (∃ ch, z = [ch] ∧ azC ch = true) ∧ y = .str (S z)) (by rw [hmm]; omega) g2 (fun H' o g => g.put dk hD0 nD) (fun _ _ => trivial) ?_ ?_
    · rintro i x Ha Hb xs k hi g hxs ⟨rfl, rfl⟩ hk
      refine ⟨rfl, _, rfl, p, c, _, rfl, g.2, .inr ⟨_, congrArg V.str azzS, by decide, by decide, fun r d H8 hd g8 => ?_⟩⟩
      refine hk _ _ ⟨[d], ⟨d, rfl, ?_⟩, rfl⟩ (g.trans g8) (g8.1 D _ nD.1 nD.2 hxs)
      obtain ⟨e, he, rfl⟩ := List.mem_map.mp (List.mem_of_getElem? hd)
      have he := List.mem_range.mp he
      simp only [azC, Bool.and_eq_true, decide_eq_true_eq]
      omega
    · rintro H' xs hl hv g hxs
      obtain ⟨zs, rfl, hz⟩ := strs_of (P := fun z => ∃ ch, z = [ch] ∧ azC ch = true) (fun i y hy => hv i y hy)
      have hzl : zs.length = m := by rw [← hmm, ← hl]; simp
      obtain ⟨hf1, hf2⟩ := one_flat hz
      refine ⟨⟨_, rfl⟩, _, rfl, _, D, zs.map S, rfl, rfl, .inl (SqL.of hxs), ?_, ?_⟩
      · rw [len_sum, emptyS, S_len, List.length_nil, Nat.mul_zero]
        omega
      · rw [emptyS, SX.join_S, joinL_nil]
        refine q _ _ ?_ g
        show wordL zs.flatten = true
        unfold wordL
        rw [hf2, decide_eq_true (by omega : 1 ≤ zs.flatten.length), decide_eq_true (by omega : zs.flatten.length ≤ 10)]
        rfl
end
end Ag

end
/-! ## ExM -/
section
set_option linter.all false
set_option maxRecDepth 100000
namespace Ag
open PySem PySem.Spec PyProof.Rows L2
/-! ### the facts of some own exception classes -/
/-- what is looked up of one class -/
structure ExF (K : PySem.W.Frag) (C : Addr) : Prop where
  ga : PySem.W.findIn K (.ref C) "__getattribute__" = some (some (.builtin "BaseException.__getattribute__"))
  gg : PySem.W.findIn K (.ref C) "__getattr__" = some none
  sb : PySem.W.subIn K (.ref C) (.type "BaseException") = some true
  hd : PySem.W.hasDictIn K C = true
  no : PySem.W.findIn K (.ref C) "thing" = some none
  cl : PySem.W.findIn K (.ref C) "__class__" = some (some (.builtin "object.__class__"))
  mo : PySem.W.mroIn K C (.type "object") = some true
  ty : PySem.W.typeIn K (.ref C) = some (.type "type")
  ci : (PySem.W.clsIn K C).isSome = true
theorem kit_cls {K : PySem.W.Frag} {t : Value} {C : Addr} {b : Bool} (ty : PySem.W.typeIn K (.ref C) = some (.type "type")) (ci : (PySem.W.clsIn K C).isSome = true) (s : PySem.W.subIn K t (.ref C) = some b) : PySem.W.kitCls K t (.ref C) = some b := by
  simp [PySem.W.kitCls, ty, ci, s]
theorem kit_one {K : PySem.W.Frag} {D C : Addr} {b : Bool} (ty : PySem.W.typeIn K (.ref C) = some (.type "type")) (ci : (PySem.W.clsIn K C).isSome = true) (s : PySem.W.subIn K (.ref D) (.ref C) = some b) (r : PySem.W.subIn K (.ref C) (.ref C) = some true) : PySem.W.kitOne K (.ref D) (.ref C) = some b := by
  unfold PySem.W.kitOne
  by_cases e : D = C
  · subst e
    rw [r] at s
    rw [← Option.some.inj s]
    simp
  · rw [if_neg (by simpa using e)]
    exact kit_cls ty ci s
theorem exm_any {K : PySem.W.Frag} {t : Value} : ∀ {cs : List Addr} {bs : List Bool}, (∀ C ∈ cs, ExF K C) → (cs.map fun C => PySem.W.subIn K t (.ref C)) = bs.map some → PySem.W.exmAny K t (cs.map Value.ref) = some (bs.any id)
  | [], [], _, _ => rfl
  | [], _ :: _, _, h => by cases h
  | _ :: _, [], _, h => by cases h
  | C :: cs, b :: bs, hF, h => by
    rw [List.map_cons, List.map_cons, List.cons.injEq] at h
    have F := hF C List.mem_cons_self
    have ih := exm_any (t := t) (fun D hD => hF D (List.mem_cons_of_mem _ hD)) h.2
    have one : PySem.W.exmOne K t (.ref C) = some b := by
      unfold PySem.W.exmOne
      rw [if_pos (by rw [F.sb]; rfl)]
      exact kit_cls F.ty F.ci h.1
    rw [List.map_cons]
    unfold PySem.W.exmAny
    rw [one, ih]
    rfl
theorem exs_mk {K : PySem.W.Frag} {n : Nat} {cl : Nat → Addr} {G : Addr} (F : ∀ k, k < n → ExF K (cl k)) (h1 : PySem.W.specialIn K (.builtin "object.__class__") "__get__" = some (some (.builtin "getset_descriptor.__get__"))) (h2 : PySem.W.takesIn K (.builtin "object.__class__") = some true)
    (sub : ∀ k, k < n → ∀ j, j < n → PySem.W.subIn K (.ref (cl k)) (.ref (cl j)) = some (decide (j = k))) (gt : PySem.W.typeIn K (.ref G) = some (.type "type")) (gc : (PySem.W.clsIn K G).isSome = true) (gr : PySem.W.subIn K (.ref G) (.ref G) = some true) (gs : ∀ k, k < n → PySem.W.subIn K (.ref (cl k)) (.ref G) = some true) : Exs K n cl G where
  x k hk := ⟨(F k hk).ga, (F k hk).gg, (F k hk).sb, (F k hk).hd⟩
  c k hk := ⟨(F k hk).ga, (F k hk).gg, (F k hk).sb, (F k hk).hd, (F k hk).cl, h1, h2, (F k hk).mo⟩
  no k hk := (F k hk).no
  ex k hk := by
    have e := exm_any (K := K) (t := .ref (cl k)) (cs := (List.range n).map cl) (bs := (List.range n).map fun j => decide (j = k)) (fun C hC => by
      obtain ⟨j, hj, rfl⟩ := List.mem_map.mp hC
      exact F j (List.mem_range.mp hj)) (by
      rw [List.map_map, List.map_map]
      exact List.map_congr_left fun j hj => sub k hk j (List.mem_range.mp hj))
    rw [List.map_map] at e
    have : (((List.range n).map fun j => decide (j = k)).any id) = true := List.any_eq_true.mpr ⟨true, List.mem_map.mpr ⟨k, List.mem_range.mpr hk, decide_eq_true rfl⟩, rfl⟩
    rw [this] at e
    exact e
  is k hk j hj := kit_one (F j hj).ty (F j hj).ci (sub k hk j hj) (by rw [sub j hj j hj, decide_eq_true rfl])
  isG k hk := kit_one gt gc (gs k hk) gr
end Ag

end
/-! ## LcH -/
section
set_option linter.all false
set_option maxRecDepth 100000
namespace Ag
open PySem PySem.Spec PyProof.Rows L2
/-- a comprehension without tests, each item as v says of the heap and its place -/
theorem lc_allH {J : It} {n : Nat} {G : Hp → Prop} {Y : Nat → Hp → V → Hp → Prop} (w : Walk J n G Y) {g : TG} {te : TE} {vs : List Nat} {σ : L2.St} {H1 : Hp} {D : Addr} {Qd : Hp → Prop} (R : Hp → Prop) (v : Hp → Nat → V → Prop) (hn : n ≤ 16000000) (r0 : R H1) (rD : ∀ H o, R H → R (upd H D o))
    (vD : ∀ H o j y, v H j y → v (upd H D o) j y) (hG : ∀ H, R H → G H)
    (hs : ∀ i x H H' xs (k : VK), i < n → R H → H D = some (.lst xs) → Y i H x H' → (∀ y H4, (∀ j z, v H j z → v H4 j z) → v H4 i y → R H4 → H4 D = some (.lst xs) → k y H4) → g x (wipe σ vs) H' fun σ2 H2 => wipe σ2 vs = wipe σ vs ∧ te σ2 H2 k)
    (hd : ∀ H xs, xs.length = n → (∀ i y, xs[i]? = some y → v H i y) → R H → H D = some (.lst xs) → Qd H) :
    ∃ W : Nat → Nat → Hp → Prop, (∃ m, W 0 m (upd H1 D (.lst []))) ∧ ∀ i m H, W i m H →
      (J.stop i H ∧ Qd H) ∨ (J.go i H ∧ ∃ Nx : Hp → Prop, (∀ H', Nx H' → ∃ m', m' < m ∧ W (i + 1) m' H') ∧ ∀ x H', J.yld i H x H' → g x (wipe σ vs) H' fun σ2 H2 => wipe σ2 vs = wipe σ vs ∧ tYes σ2 H2 fun b H3 =>
        if b = true then te σ2 H3 fun y H4 => ∃ acc, H4 D = some (.lst acc) ∧ acc.length < sizeLine ∧ Nx (upd H4 D (.lst (acc ++ [y]))) else Nx H3) := by
  refine lc_it (g := g) (tt := tYes) (te := te) (vs := vs) (σ := σ) w (fun i H => ∃ xs : List V, xs.length = i ∧ (∀ j y, xs[j]? = some y → v H j y) ∧ R H ∧ H D = some (.lst xs)) ⟨[], rfl, fun j y h => by simp at h, rD _ _ r0, upd_same⟩ (fun i H hi p => ?_) (fun i x H H' hi p hy => ?_) (fun H p => ?_)
  · obtain ⟨xs, _, _, r, _⟩ := p
    exact hG H r
  · obtain ⟨xs, hl, hv, r, hD⟩ := p
    refine hs i x H H' xs _ hi r hD hy ?_
    rintro y H4 keep hvy r4 h4
    refine ⟨xs, h4, ?_, xs ++ [y], by simp [hl], fun j z hz => vD _ _ _ _ ?_, rD _ _ r4, upd_same⟩
    · rw [sizeLine_eq]; omega
    · rw [List.getElem?_append] at hz
      split at hz
      · exact keep j z (hv j z hz)
      · rename_i hj
        have e : j - xs.length = 0 := by
          cases hq : j - xs.length with
          | zero => rfl
          | succ k => rw [hq] at hz; simp at hz
        rw [e] at hz
        simp at hz
        subst hz
        have : j = i := by omega
        subst this
        exact hvy
  · obtain ⟨xs, hl, hv, r, hD⟩ := p
    exact hd H xs hl hv r hD
end Ag

end
/-! ## Q7 -/
section
set_option linter.all false
set_option maxRecDepth 100000
set_option maxHeartbeats 8000000
namespace Ag
open PySem PySem.Spec PyProof.Rows L2
open SX (S S_len S_cat S_inj)
def nw (s : Str) : Vw := ⟨s, none, [], [], none, none, false⟩
theorem new_ok {s : Str} (h : wordB (.str s) = true) : (nw s).ok 0 :=
  ⟨vw_view (x := nw s) h rfl rfl, Nat.le_refl _, Nat.le_refl _, (fun k hk => by cases hk), (fun k hk => by cases hk), (fun k hk => by cases hk), fun k hk => by cases hk⟩
theorem ix2 {k : Nat} (h : k < 2) : ixN 2 (k : Int) = some k := by
  match k, h with
  | 0, _ => rfl
  | 1, _ => rfl
theorem ask_bad {x : Vw} {d t : PyData} {k : Nat} (h : askO x d = .bad k t) : t = .str x.h ∨ t = d := by
  unfold askO at h
  split at h
  · split at h
    · cases h; exact .inl rfl
    · split at h
      · cases h
      · cases h; exact .inr rfl
  · cases h; exact .inr rfl
theorem heard_bad {x : Vw} {d t : PyData} {k : Nat} (h : heardO x d = .bad k t) : t = .str x.h ∨ t = d := by
  unfold heardO at h
  split at h
  · split at h
    · cases h; exact .inl rfl
    · split at h
      · split at h
        · cases h
        · cases h; exact .inr rfl
      · cases h; exact .inr rfl
  · cases h; exact .inr rfl
theorem upto_bad {x : Vw} {d t : PyData} {k : Nat} (h : uptoO x d = .bad k t) : t = .str x.h ∨ t = d := by
  unfold uptoO at h
  split at h
  · split at h
    · cases h
    · cases h; exact .inr rfl
  · cases h; exact .inr rfl
def spLaw (Pt : Addr) (K : PySem.W.Frag) : Sp := fun vs H Q _ => ∃ (a : Addr) (ns : List Int), vs = [.ref a] ∧ SqL K H a (ns.map V.int) ∧ ns.length ≤ 63 ∧ LamX.Tabs [(Pt, qLam)] H ∧ ∀ H', Q (.bl true) H'
section
variable {P : Program} {w : World} {K : PySem.W.Frag} {mg : Str → Option Value} {base : Heap} {tn tw tb : Tok}
theorem ok_law {f fd1 fd2 fd3 fd4 fd5 fd6 fd7 fd8 fd9 fd10 fd11 fd12 fd13 cA Pt G : Addr} {cl : Nat → Addr} {fd e1 e2 e3 e4 e5 e6 e7 e8 e9 e10 e11 e12 e13 : FuncData} (F : Fn K mg "law" s_law ["_law_script"] f fd) (B : Con mg tn tw tb) (hcode : fd.code = .ref cA) (TB : LamX.TabB base mg cA Pt)
    (Ex : Exs K 5 cl G) (g0 : mg "BadBody" = some (.ref (cl 0))) (g1 : mg "BadMessage" = some (.ref (cl 1))) (g2 : mg "BadNews" = some (.ref (cl 2))) (g3 : mg "BadNumber" = some (.ref (cl 3))) (g4 : mg "Broken" = some (.ref (cl 4))) (gG : mg "GateError" = some (.ref G))
    (F__law_dealt : Fn K mg "_law_dealt" s__law_dealt ["_law_script"] fd1 e1) (G__law_dealt : FnOk P w K mg base CX0 1 fd1 e1 ["_law_script"] (spDeck K))
    (F__law_draw : Fn K mg "_law_draw" s__law_draw ["_law_deck", "_law_many"] fd2 e2) (F__law_pick : Fn K mg "_law_pick" s__law_pick ["_law_deck", "_law_some"] fd3 e3)
    (F__law_word : Fn K mg "_law_word" s__law_word ["_law_deck"] fd4 e4) (G__law_word : FnOk P w K mg base CX0 3 fd4 e4 ["_law_deck"] spMkWd)
    (F_view_new : Fn K mg "view_new" s_view_new ["house"] fd5 e5) (G_view_new : FnOk P w K mg base CX0 2 fd5 e5 ["house"] spNew) (K_view_new_house : KwB K e5 ["house"] ["house"] (fun u => u) (fun u => u))
    (F__law_drawn : Fn K mg "_law_drawn" s__law_drawn ["_law_deck", "_law_view", "_law_way"] fd6 e6) (G__law_drawn : FnOk P w K mg base CX0 4 fd6 e6 ["_law_deck", "_law_view", "_law_way"] spDrawn)
    (F__law_due : Fn K mg "_law_due" s__law_due ["_law_view", "_law_way", "_law_thing"] fd7 e7) (G__law_due : FnOk P w K mg base CX0 6 fd7 e7 ["_law_view", "_law_way", "_law_thing"] spLDu)
    (F_asked : Fn K mg "asked" s_asked ["view", "body"] fd8 e8) (G_asked : FnOk P w K mg base (L2N.CX P w) 5 fd8 e8 ["view", "body"] (spAsk cl)) (Kask : KwB K e8 ["view", "body"] ["body", "view"] List.reverse List.reverse)
    (F_heard : Fn K mg "heard" s_heard ["view", "message"] fd9 e9) (G_heard : FnOk P w K mg base (L2N.CX P w) 6 fd9 e9 ["view", "message"] (spHeard cl)) (Khrd : KwB K e9 ["view", "message"] ["message", "view"] List.reverse List.reverse)
    (F_told_upto : Fn K mg "told_upto" s_told_upto ["view", "number"] fd10 e10) (G_told_upto : FnOk P w K mg base (L2N.CX P w) 5 fd10 e10 ["view", "number"] (spUpto cl)) (Kupt : KwB K e10 ["view", "number"] ["number", "view"] List.reverse List.reverse)
    (F_broken : Fn K mg "broken" s_broken ["view"] fd11 e11) (G_broken : FnOk P w K mg base CX0 5 fd11 e11 ["view"] spBrk)
    (F__law_is_told : Fn K mg "_law_is_told" s__law_is_told ["_law_view", "_law_told"] fd12 e12) (G__law_is_told : FnG P w K mg base 7 fd12 e12 ["_law_view", "_law_told"] spTold)
    (F__law_tried : Fn K mg "_law_tried" s__law_tried ["_law_call"] fd13 e13) : FnG P w K mg base 9 f fd ["_law_script"] (spLaw Pt K) := by
  have G__law_draw : FnOk P w K mg base CX0 1 fd2 e2 ["_law_deck", "_law_many"] spDraw := ok_draw F__law_draw B.toBlt
  have G__law_pick : FnOk P w K mg base CX0 2 fd3 e3 ["_law_deck", "_law_some"] spPick := ok_pick F__law_pick B.toBlt F__law_draw
  obtain ⟨ocg, odg, kVg, docg, pmg, ang, cdg, ctg, oslg, rfl, lkg, hcg⟩ := F__law_tried.F.ex
  refine okGc F.F sc_law (fun vs H Q E h => ?_) (fun A outer s H vs Q E hr hG h => ?_)
  · obtain ⟨a, ns, rfl, _⟩ := h
    rfl
  · obtain ⟨a, ns, rfl, hS, hl, hT, q⟩ := h
    rw [hcode] at hr hG ⊢
    refine ⟨_, (pss_cons (ps_set (i := 1) sc_law.nd rfl (.inl rfl) (pe_call G__law_dealt (hr.mono (by decide)) (by rfl) F__law_dealt.g F__law_dealt.F.kp F__law_dealt.b .nil pass0 (pa_cons (pv 0) pa_nil)))
      (pss_cons (ps_set (i := 2) sc_law.nd rfl (.inl rfl) (pe_lst (pa_cons (pe_call G__law_word (hr.mono (by decide)) (by rfl) F__law_word.g F__law_word.F.kp F__law_word.b .nil pass0 (pa_cons (pv 1) pa_nil)) (pa_cons (pe_call G__law_word (hr.mono (by decide)) (by rfl) F__law_word.g F__law_word.F.kp F__law_word.b .nil pass0 (pa_cons (pv 1) pa_nil)) pa_nil))))
      (pss_cons (ps_par (i := 3) (j := 4) (by rfl) sc_law.nd rfl rfl (by decide) rfl rfl (pa_cons (pe_lc (own := [("_law_name", 13)]) rfl sc_law.nd (pi_list (pv 2)) (blkOk_by (N := N_law) (sc := defScope s_law) (by decide +kernel)) (fun _ _ _ _ _ => (pg_name (i := 13) sc_law.nd rfl (Or.inl rfl))) (fun _ _ _ _ _ => pts_nil) (fun _ _ _ _ _ => (pe_tup (pa_cons (pv 13) (pa_cons pe_non (pa_cons (pe_tup pa_nil) (pa_cons (pe_tup pa_nil) (pa_cons pe_non (pa_cons pe_non (pa_cons pe_str pa_nil)))))))))) (pa_cons (pe_lst (pa_cons (pe_call G_view_new (hr.mono (by decide)) (by rfl) F_view_new.g F_view_new.F.kp F_view_new.b .nil pass0 (pa_cons (pe_ix ix_list (pv 2) pe_int (fun _ _ => rfl)) pa_nil)) (pa_cons (pe_callKwG (FnG.of G_view_new) (hr.mono (by decide)) hG (by rfl) F_view_new.g F_view_new.F.kp K_view_new_house (pk_cons (pe_ix ix_list (pv 2) pe_int (fun _ _ => rfl)) pk_nil)) pa_nil))) pa_nil)) (by rfl))
      (pss_cons (ps_for PassesOwn.never rfl (pi_range1 (by rfl) B.n_range (pa_cons (pe_call G__law_pick (hr.mono (by decide)) (by rfl) F__law_pick.g F__law_pick.F.kp F__law_pick.b .nil pass0 (pa_cons (pv 1) (pa_cons (pe_lst (pa_cons pe_int (pa_cons pe_int (pa_cons pe_int (pa_cons pe_int pa_nil))))) pa_nil))) pa_nil)) (pg_name (i := 5) sc_law.nd rfl (Or.inl rfl))
      (pss_cons (ps_asg (pe_tup (pa_cons (pe_call G__law_draw (hr.mono (by decide)) (by rfl) F__law_draw.g F__law_draw.F.kp F__law_draw.b .nil pass0 (pa_cons (pv 1) (pa_cons pe_int pa_nil))) (pa_cons (pe_call G__law_draw (hr.mono (by decide)) (by rfl) F__law_draw.g F__law_draw.F.kp F__law_draw.b .nil pass0 (pa_cons (pv 1) (pa_cons pe_int pa_nil))) pa_nil))) (pg_tup rfl (pgs_cons (pg_name (i := 6) sc_law.nd rfl (Or.inr rfl)) (pgs_cons (pg_name (i := 7) sc_law.nd rfl (Or.inl rfl)) pgs_nil))))
        (pss_cons (ps_set (i := 8) sc_law.nd rfl (.inl rfl) (pe_ifMid (pt_cmpR op_lt (pv 7) pe_int (nomark _)) pe_str (pe_ifExp (pt_cmpR op_lt (pv 7) pe_int (nomark _)) pe_str pe_str)))
        (pss_cons (ps_asg (pe_tup (pa_cons (pe_call G__law_drawn (hr.mono (by decide)) (by rfl) F__law_drawn.g F__law_drawn.F.kp F__law_drawn.b .nil pass0 (pa_cons (pv 1) (pa_cons (pe_ix ix_list (pv 3) (pv 6) (fun _ _ => rfl)) (pa_cons (pv 8) pa_nil)))) (pa_cons (pe_ix ix_list (pv 4) (pv 6) (fun _ _ => rfl)) pa_nil))) (pg_tup rfl (pgs_cons (pg_name (i := 9) sc_law.nd rfl (Or.inr rfl)) (pgs_cons (pg_name (i := 10) sc_law.nd rfl (Or.inr rfl)) pgs_nil))))
        (pss_cons (ps_set (i := 11) sc_law.nd rfl (.inl rfl) (pe_call G__law_due (hr.mono (by decide)) (by rfl) F__law_due.g F__law_due.F.kp F__law_due.b .nil pass0 (pa_cons (pe_ix ix_list (pv 3) (pv 6) (fun _ _ => rfl)) (pa_cons (pv 8) (pa_cons (pv 9) pa_nil)))))
        (C8.pss_cut (ps_if (pt_cmpR op_eq (pv 8) pe_str (nomark _))
        (pss_one (ps_set (i := 12) sc_law.nd rfl (.inl rfl) (pe_lamN (TT := TTried cl) (T := [(Pt, qLam)]) (k := 6) (by rfl) F__law_tried.g F__law_tried.F.kp lkg hcg F__law_tried.b sc__law_tried rfl (.inl rfl) (ok_tried B.toBlt Ex g0 g1 g2 g3 g4 gG) TB rfl (List.mem_singleton_self _) (fun y hy _ => (congrArg Prod.snd (List.mem_singleton.mp hy)).trans rfl) (hr.mono (by decide)) (LamX.lamS_by (sc := defScope s_law) (by decide +kernel)) (by rfl) (fun _ _ _ _ _ => by rfl) (fun _ _ _ _ _ _ _ hr2 => pe_ifExp (pt_cmpR op_eq (pv 6) pe_int (nomark _)) (pe_call G_asked (hr2.mono (by decide)) (by rfl) F_asked.g F_asked.F.kp F_asked.b .nil (L2N.passes_call (L2N.takes_of rfl rfl rfl rfl) (fun _ _ _ _ h => h)) (pa_cons (pv 10) (pa_cons (pv 9) pa_nil))) (pe_callKwX (ks := ["body", "view"]) (gV := List.reverse) G_asked (hr2.mono (by decide)) (by rfl) F_asked.g F_asked.F.kp Kask (L2N.passes_call (L2N.takes_of rfl rfl rfl rfl) (fun _ _ _ _ h => h)) (pk_cons (pv 9) (pk_cons (pv 10) pk_nil)))))))
        (pss_one (ps_if (pt_cmpR op_eq (pv 8) pe_str (nomark _))
          (pss_one (ps_set (i := 12) sc_law.nd rfl (.inl rfl) (pe_lamN (TT := TTried cl) (T := [(Pt, qLam)]) (k := 6) (by rfl) F__law_tried.g F__law_tried.F.kp lkg hcg F__law_tried.b sc__law_tried rfl (.inl rfl) (ok_tried B.toBlt Ex g0 g1 g2 g3 g4 gG) TB rfl (List.mem_singleton_self _) (fun y hy _ => (congrArg Prod.snd (List.mem_singleton.mp hy)).trans rfl) (hr.mono (by decide)) (LamX.lamS_by (sc := defScope s_law) (by decide +kernel)) (by rfl) (fun _ _ _ _ _ => by rfl) (fun _ _ _ _ _ _ _ hr2 => pe_ifExp (pt_cmpR op_eq (pv 6) pe_int (nomark _)) (pe_call G_heard (hr2.mono (by decide)) (by rfl) F_heard.g F_heard.F.kp F_heard.b .nil (L2N.passes_call (L2N.takes_of rfl rfl rfl rfl) (fun _ _ _ _ h => h)) (pa_cons (pv 10) (pa_cons (pv 9) pa_nil))) (pe_callKwX (ks := ["message", "view"]) (gV := List.reverse) G_heard (hr2.mono (by decide)) (by rfl) F_heard.g F_heard.F.kp Khrd (L2N.passes_call (L2N.takes_of rfl rfl rfl rfl) (fun _ _ _ _ h => h)) (pk_cons (pv 9) (pk_cons (pv 10) pk_nil)))))))
          (pss_one (ps_set (i := 12) sc_law.nd rfl (.inl rfl) (pe_lamN (TT := TTried cl) (T := [(Pt, qLam)]) (k := 6) (by rfl) F__law_tried.g F__law_tried.F.kp lkg hcg F__law_tried.b sc__law_tried rfl (.inl rfl) (ok_tried B.toBlt Ex g0 g1 g2 g3 g4 gG) TB rfl (List.mem_singleton_self _) (fun y hy _ => (congrArg Prod.snd (List.mem_singleton.mp hy)).trans rfl) (hr.mono (by decide)) (LamX.lamS_by (sc := defScope s_law) (by decide +kernel)) (by rfl) (fun _ _ _ _ _ => by rfl) (fun _ _ _ _ _ _ _ hr2 => pe_ifExp (pt_cmpR op_eq (pv 6) pe_int (nomark _)) (pe_call G_told_upto (hr2.mono (by decide)) (by rfl) F_told_upto.g F_told_upto.F.kp F_told_upto.b .nil (L2N.passes_call (L2N.takes_of rfl rfl rfl rfl) (fun _ _ _ _ h => h)) (pa_cons (pv 10) (pa_cons (pv 9) pa_nil))) (pe_callKwX (ks := ["number", "view"]) (gV := List.reverse) G_told_upto (hr2.mono (by decide)) (by rfl) F_told_upto.g F_told_upto.F.kp Kupt (L2N.passes_call (L2N.takes_of rfl rfl rfl rfl) (fun _ _ _ _ h => h)) (pk_cons (pv 9) (pk_cons (pv 10) pk_nil))))))))))
        (pss_cons (ps_if (PW.pt (pw_or (pt_cmpR op_ne (pe_callB (call_repr_any (h66u hr) hG) (by rfl) B.n_repr (by decide +kernel) (pa_cons (pv 12) pa_nil)) (pe_callB (call_repr_any (h66u hr) hG) (by rfl) B.n_repr (by decide +kernel) (pa_cons (pv 11) pa_nil)) (nomark _)) (pw_or1 (pt_cmpR op_ne (pe_callB (call_repr_any (h66u hr) hG) (by rfl) B.n_repr (by decide +kernel) (pa_cons (pv 10) pa_nil)) (pe_callB (call_repr_any (h66u hr) hG) (by rfl) B.n_repr (by decide +kernel) (pa_cons (pe_ix ix_list (pv 3) (pv 6) (fun _ _ => rfl)) pa_nil)) (nomark _)))))
        (pss_one (ps_ret pe_bl))
        pss_nil)
        (C8.pss_cut (ps_if (pt_cmpR op_eq (pe_ix ix_tup (pv 11) pe_int (fun _ _ => rfl)) pe_str (nomark _))
        (pss_one (ps_asg (pe_tup (pa_cons (pe_ix ix_tup (pv 11) pe_int (fun _ _ => rfl)) (pa_cons (pe_ix ix_tup (pv 12) pe_int (fun _ _ => rfl)) pa_nil))) (pg_tup rfl (pgs_cons (pg_sub (pv 3) (pv 6) set_list) (pgs_cons (pg_sub (pv 4) (pv 6) set_list) pgs_nil)))))
        pss_nil)
        (C8.pss_cut (ps_if (pt_cmpR op_eq (pe_call G__law_draw (hr.mono (by decide)) (by rfl) F__law_draw.g F__law_draw.F.kp F__law_draw.b .nil pass0 (pa_cons (pv 1) (pa_cons pe_int pa_nil))) pe_int (nomark _))
        (pss_one (ps_asg (pe_tup (pa_cons (pe_op op_catA (pe_slice sl_tupA (pe_ix ix_list (pv 3) (pv 6) (fun _ _ => rfl)) po_none (po_some pe_int)) (pe_tup (pa_cons pe_str pa_nil))) (pa_cons (pe_call G_broken (hr.mono (by decide)) (by rfl) F_broken.g F_broken.F.kp F_broken.b .nil pass0 (pa_cons (pe_ix ix_list (pv 4) (pv 6) (fun _ _ => rfl)) pa_nil)) pa_nil))) (pg_tup rfl (pgs_cons (pg_sub (pv 3) (pv 6) set_list) (pgs_cons (pg_sub (pv 4) (pv 6) set_list) pgs_nil)))))
        pss_nil)
        (pss_one (ps_if (pt_not (pt_val (pe_callG G__law_is_told (hr.mono (by decide)) hG (by rfl) F__law_is_told.g F__law_is_told.F.kp F__law_is_told.b (pa_cons (pe_ix ix_list (pv 3) (pv 6) (fun _ _ => rfl)) (pa_cons (pe_ix ix_list (pv 4) (pv 6) (fun _ _ => rfl)) pa_nil)))))
        (pss_one (ps_ret pe_bl))
        pss_nil)))))))))))
      (pss_one (ps_ret (pe_and (pe_callG G__law_is_told (hr.mono (by decide)) hG (by rfl) F__law_is_told.g F__law_is_told.F.kp F__law_is_told.b (pa_cons (pe_ix ix_list (pv 3) pe_int (fun _ _ => rfl)) (pa_cons (pe_ix ix_list (pv 4) pe_int (fun _ _ => rfl)) pa_nil))) (pe_one (pe_callG G__law_is_told (hr.mono (by decide)) hG (by rfl) F__law_is_told.g F__law_is_told.F.kp F__law_is_told.b (pa_cons (pe_ix ix_list (pv 3) pe_int (fun _ _ => rfl)) (pa_cons (pe_ix ix_list (pv 4) pe_int (fun _ _ => rfl)) pa_nil))))))))))), ?_⟩
    refine ⟨_, rfl, a, ns, rfl, hS, hl, fun p c H1 hp1 hc1 s1 dk1 => ?_⟩
    refine ⟨_, rfl, p, c, rfl, dk1, fun w0 H2 hw0 g2 => ⟨_, rfl, p, c, rfl, g2.2, fun w1 H3 hw1 g3 => ⟨sz (Nat.le_of_ble_eq_true rfl), fun ln hln => ?_⟩⟩⟩
    have dk3 := (g2.trans g3).2
    have aln : At p c (upd H3 ln (.lst [.str w0, .str w1])) ln (.lst [.str w0, .str w1]) := .new dk3 hln
    have gt3 := (((Gt.refl dk1 (hT.ext s1)).gx g2).gx g3).same (same_new (o := .lst [.str w0, .str w1]) hln)
    generalize upd H3 ln (.lst [.str w0, .str w1]) = H4 at aln gt3 ⊢
    clear dk3 g2 g3 hln
    -- the law's views
    refine ⟨_, rfl, ln, rfl, ⟨_, SqL.of aln.2.2⟩, fun L1 hL1 => ?_⟩
    have nL1 := gt3.2.1.ne hL1
    refine lc_allH (walk_list (K := K) (a := ln) (xs := [.str w0, .str w1])) (fun H' => Same H4 H') (fun H' j y => ∃ (r b n : Addr) (s : Str), y = .ref r ∧ r ≠ L1 ∧ b ≠ L1 ∧ n ≠ L1 ∧ ([w0, w1] : List Str)[j]? = some s ∧ VwA H' r b n (nw s)) (Nat.le_of_ble_eq_true rfl) (Same.refl _) (fun H' o r b u e => by rw [upd_ne (ne_of_none e hL1)]; exact r b u e) ?_ (fun H' s => SqL.of (s _ _ aln.2.2)) ?_ ?_
    · rintro H' o j y ⟨r, b, n, s, rfl, n1, n2, n3, hs, vw⟩
      exact ⟨r, b, n, s, rfl, n1, n2, n3, hs, by rw [upd_ne n1]; exact vw.a, by rw [upd_ne n2]; exact vw.b, by rw [upd_ne n3]; exact vw.n⟩
    · rintro i y H5 H6 xs kk hi s5 h5 ⟨rfl, hy⟩ hkk
      obtain ⟨s, hs, rfl⟩ : ∃ s, ([w0, w1] : List Str)[i]? = some s ∧ y = .str s := by
        match i, hy with
        | 0, e => exact ⟨w0, rfl, (Option.some.inj e).symm⟩
        | 1, e => exact ⟨w1, rfl, (Option.some.inj e).symm⟩
      refine ⟨rfl, _, rfl, sz (Nat.le_of_ble_eq_true rfl), fun b hb => ⟨sz (Nat.le_of_ble_eq_true rfl), fun n hn => ⟨sz (Nat.le_of_ble_eq_true rfl), fun r hr => ?_⟩⟩⟩
      have t1 := same_new (o := .tup []) hb
      have t2 := same_new (o := .tup []) hn
      have t3 := same_new (o := .tup [.str s, .non, .ref b, .ref n, .non, .non, .str (Str.ofString "open")]) hr
      have t123 := (t1.trans t2).trans t3
      refine hkk _ _ ?_ ⟨r, b, n, s, rfl, (ne_of_none (t2 _ _ (t1 _ _ h5)) hr).symm, (ne_of_none h5 hb).symm, (ne_of_none (t1 _ _ h5) hn).symm, hs, upd_same, t3 _ _ (t2 _ _ upd_same), t3 _ _ upd_same⟩ (s5.trans t123) (t123 _ _ h5)
      rintro j z ⟨r, b, n, s, rfl, n1, n2, n3, hs, vw⟩
      exact ⟨r, b, n, s, rfl, n1, n2, n3, hs, vw.to (.of t123)⟩
    intro H5 xs hxl hxs s5 h5
    obtain ⟨ra, rb, rfl, ⟨ba, na, va⟩, ⟨bb, nb, vb⟩⟩ : ∃ ra rb, xs = [.ref ra, .ref rb] ∧ (∃ b n, VwA H5 ra b n (nw w0)) ∧ ∃ b n, VwA H5 rb b n (nw w1) := by
      match xs, hxl, hxs with
      | [y0, y1], _, hxs =>
        obtain ⟨r, b, n, s, rfl, _, _, _, hs, vw⟩ := hxs 0 y0 rfl
        obtain ⟨r', b', n', s', rfl, _, _, _, hs', vw'⟩ := hxs 1 y1 rfl
        cases hs
        cases hs'
        exact ⟨r, r', rfl, ⟨b, n, vw⟩, b', n', vw'⟩
    have gt5 := gt3.same s5
    have aln := aln.kp (.same s5)
    clear hL1 hxl hxs s5
    -- the program's
    refine ⟨_, rfl, ln, _, _, _, rfl, rfl, SqL.of aln.2.2, atI_nat (j := 0) rfl, w0, rfl, hw0, fun rc bc nc H6 s6 vc => ?_⟩
    have aln := aln.kp (.same s6)
    refine ⟨_, rfl, ln, _, _, _, rfl, rfl, SqL.of aln.2.2, atI_nat (j := 1) rfl, rfl, w1, rfl, hw1, fun rd bd nd H7 s7 vd => ⟨sz (Nat.le_of_ble_eq_true rfl), fun L2 hL2 => ?_⟩⟩
    have s67 := s6.trans s7
    have s8 := same_new (o := .lst [.ref rc, .ref rd]) hL2
    have s68 := s67.trans s8
    have gt8 := gt5.same s68
    have n2 := (gt5.same s67).2.1.ne hL2
    have h5 := s67 _ _ h5
    have n12 : L1 ≠ L2 := ne_of_none h5 hL2
    have st : St p c Pt L1 L2 (upd H7 L2 (.lst [.ref rc, .ref rd])) (fun j => if j = 0 then ra else rb) (fun j => if j = 0 then rc else rd) (fun j => if j = 0 then nw w0 else nw w1) 0 :=
      ⟨gt8.2.1, gt8.2.2, nL1, n2, n12, s8 _ _ h5, upd_same, fun j hj => by
        match j, hj with
        | 0, _ => exact ⟨⟨ba, na, va.to (.of s68)⟩, ⟨bc, nc, vc.to (.of (s7.trans s8))⟩, new_ok hw0⟩
        | 1, _ => exact ⟨⟨bb, nb, vb.to (.of s68)⟩, ⟨bd, nd, vd.to (.of s8)⟩, new_ok hw1⟩⟩
    generalize upd H7 L2 (.lst [.ref rc, .ref rd]) = H8 at st ⊢
    clear gt8 gt5 gt3 s8 s7 s6 s67 s68 va vb vc vd h5 hL2 n2 n12 aln dk1 s1 hT
    refine ⟨_, _, rfl, ?_⟩
    -- the turns
    refine ⟨_, rfl, sz (Nat.le_of_ble_eq_true rfl), fun a3 h3 => ⟨p, c, _, rfl, (Gx.new st.dk h3).2, .inl ⟨a3, _, rfl, .new st.dk h3, by decide, by decide, fun r x H9 hx g9 => ?_⟩⟩⟩
    have st := st.gx ((Gx.new st.dk h3).trans g9)
    obtain ⟨N, rfl, hN⟩ : ∃ N : Nat, x = .int (N : Int) ∧ N ≤ 32 := by
      match r, hx with
      | 0, e => exact ⟨20, (Option.some.inj e).symm, by decide⟩
      | 1, e => exact ⟨16, (Option.some.inj e).symm, by decide⟩
      | 2, e => exact ⟨26, (Option.some.inj e).symm, by decide⟩
      | 3, e => exact ⟨32, (Option.some.inj e).symm, by decide⟩
    clear h3 g9 hx
    refine ⟨_, rfl, by omega, by omega, ?_⟩
    refine for_range (lo := 0) (n := ((N : Nat) : Int).toNat) (fun m σ H' => ∃ A A' x x5 x6 x7 x8 x9 x10 x11 x12, σ = [some (.ref a), some (.ref p), some (.ref ln), some (.ref L1), some (.ref L2), x5, x6, x7, x8, x9, x10, x11, x12, none] ∧ St p c Pt L1 L2 H' A A' x m) ⟨_, _, _, _, _, _, _, _, _, _, _, rfl, st⟩ ?_ ?_
    · rintro m σ Ha hm ⟨A, A', x, x5, x6, x7, x8, x9, x10, x11, x12, rfl, st⟩
      have hm : m < 32 := by omega
      clear q
      -- where, and how
      refine ⟨_, rfl, p, c, _, rfl, st.dk, by decide, by decide, fun z Hb hz gb => ⟨_, rfl, p, c, _, rfl, gb.2, by decide, by decide, fun z2 Hc hz2 gc => ⟨sz (Nat.le_of_ble_eq_true rfl), fun t0 ht0 => ?_⟩⟩⟩
      have hz : z < 2 := by omega
      have st := (st.gx gb).gx gc
      have st := st.same (same_new (o := .tup [.int (z : Int), .int (z2 : Int)]) ht0)
      refine ⟨t0, _, rfl, SqT.of upd_same, rfl, _, _, rfl, _, _, rfl, rfl, ?_⟩
      generalize upd Hc t0 (.tup [.int (z : Int), .int (z2 : Int)]) = Hd at st ⊢
      clear gb gc ht0
      refine ⟨fun v H' => H' = Hd ∧ ∃ i, i ≤ 2 ∧ v = .str (wyS i), fun Q' hQ => ?_, ?_⟩
      · refine ⟨_, rfl, _, _, rfl, rfl, _, rfl, ite2 (fun _ => hQ _ _ ⟨rfl, 0, by decide, rfl⟩) (fun _ => ⟨_, rfl, _, _, rfl, rfl, _, rfl, ite2 (fun _ => hQ _ _ ⟨rfl, 1, by decide, rfl⟩) (fun _ => hQ _ _ ⟨rfl, 2, by decide, rfl⟩)⟩)⟩
      rintro _ _ ⟨rfl, i, hi, rfl⟩
      -- the thing, the view
      obtain ⟨⟨b1, n1, v1⟩, _, o1⟩ := st.v z hz
      have o1 := o1.mono (show m ≤ 40 by omega)
      refine ⟨_, rfl, _, rfl, _, rfl, L1, _, _, _, rfl, rfl, SqL.of st.e1, atI_nat (st.at1 hz), _, rfl, p, c, A z, b1, n1, x z, i, rfl, hi, st.dk, v1, o1, fun v d He ge hd th => ?_⟩
      have st := st.gx ge
      refine ⟨_, rfl, _, rfl, L2, _, _, _, rfl, rfl, SqL.of st.e2, atI_nat (st.at2 hz), sz (Nat.le_of_ble_eq_true rfl), fun t1 ht1 => ?_⟩
      have sn := same_new (o := .tup [v, .ref (A' z)]) ht1
      have st := st.same sn
      have hd := hd.to (.same sn)
      refine ⟨t1, _, rfl, SqT.of upd_same, rfl, _, _, rfl, _, _, rfl, rfl, ?_⟩
      generalize upd He t1 (.tup [v, .ref (A' z)]) = Hf at st hd ⊢
      clear sn ht1 v1 ge
      -- what is due
      obtain ⟨⟨b1, n1, v1⟩, _, _⟩ := st.v z hz
      refine ⟨_, rfl, _, rfl, L1, _, _, _, rfl, rfl, SqL.of st.e1, atI_nat (st.at1 hz), _, rfl, _, rfl, p, c, A z, b1, n1, x z, v, d, i, rfl, hi, st.dk, v1, o1, hd, th, fun td Hg sg od => ?_⟩
      have st := st.same sg
      have hd := hd.to (.same sg)
      clear v1 sg
      obtain ⟨⟨b1, n1, v1⟩, ⟨b2, n2, v2⟩, _⟩ := st.v z hz
      have w1 := (vw_parts o1.v).1
      have okO : OkO (x z) (ocO i (x z) d) := by
        have key : ∀ o : Oc, (∀ y, o = .ret y → y.ok (m + 1)) → (∀ k t, o = .bad k t → t = .str (x z).h ∨ t = d) → OkO (x z) o := by
          intro o h1 h2
          cases o with
          | ret y => exact (h1 y rfl).mono (by omega)
          | bad k t =>
            rcases h2 k t rfl with rfl | rfl
            · exact .inl rfl
            · exact .inr th
        have o0 := (st.v z hz).2.2
        match i, hi with
        | 0, _ => exact key _ (fun y h => askO_ok o0 h) fun k t h => ask_bad h
        | 1, _ => exact key _ (fun y h => heardO_ok o0 h) fun k t h => heard_bad h
        | 2, _ => exact key _ (fun y h => uptoO_ok o0 h) fun k t h => upto_bad h
      have ok1 : ∀ y, ocO i (x z) d = .ret y → y.ok (m + 1) := by
        have o0 := (st.v z hz).2.2
        match i, hi with
        | 0, _ => exact fun y h => askO_ok o0 h
        | 1, _ => exact fun y h => heardO_ok o0 h
        | 2, _ => exact fun y h => uptoO_ok o0 h
      -- what comes
      refine ⟨fun σ H' => ∃ tf, σ = [some (.ref a), some (.ref p), some (.ref ln), some (.ref L1), some (.ref L2), some (.int (0 + (m : Int))), some (.int (z : Int)), some (.int (z2 : Int)), some (.str (wyS i)), some v, some (.ref (A' z)), some (.ref td), some (.ref tf), none] ∧ Gt p c Pt Hg H' ∧ OcA p c H' tf (ocO i (x z) d), ?_, ?_⟩
      · match i, hi, od with
        | 0, _, od => exact ⟨_, rfl, rfl, _, rfl, sT rfl (lam_ask (Pt := Pt) (Gt.refl st.dk st.tb) rfl rfl rfl st.dk v2 o1 hd th fun t G gG oc => ⟨t, rfl, gG, oc⟩)⟩
        | 1, _, od => exact ⟨_, rfl, rfl, _, rfl, sF (by decide +kernel) ⟨_, rfl, rfl, _, rfl, sT rfl (lam_heard (Pt := Pt) (Gt.refl st.dk st.tb) rfl rfl rfl st.dk v2 o1 hd th fun t G gG oc => ⟨t, rfl, gG, oc⟩)⟩⟩
        | 2, _, od => exact ⟨_, rfl, rfl, _, rfl, sF (by decide +kernel) ⟨_, rfl, rfl, _, rfl, sF (by decide +kernel) (lam_upto (Pt := Pt) (Gt.refl st.dk st.tb) rfl rfl rfl st.dk v2 o1 hd th fun t G gG oc => ⟨t, rfl, gG, oc⟩)⟩⟩
      rintro _ Hh ⟨tf, rfl, gh, of'⟩
      have od := od.kt st.dk gh.1
      have st := st.gt gh
      clear v1 v2 gh hd
      obtain ⟨⟨b1, n1, v1⟩, ⟨b2, n2, v2⟩, _⟩ := st.v z hz
      have ft := okO.sh w1
      have fv := (o1.gd false).fit (by decide) (by decide)
      generalize ocO i (x z) d = o at od of' okO ok1 ft ⊢
      refine ⟨_, rfl, _, _, p, c, rfl, of'.dg st.dk, ft.1, ft.2.1, ft.2.2.1, ft.2.2.2, _, rfl, _, _, p, c, rfl, od.dg st.dk, ft.1, ft.2.1, ft.2.2.1, ft.2.2.2, rfl, _, rfl, ?_⟩
      rw [decide_eq_true rfl]
      refine iteF ⟨_, rfl, _, _, p, c, rfl, v2.dg st.dk, fv.1, fv.2.1, fv.2.2.1, fv.2.2.2, _, rfl, _, rfl, L1, _, _, _, rfl, rfl, SqL.of st.e1, atI_nat (st.at1 hz), _, _, p, c, rfl, v1.dg st.dk, fv.1, fv.2.1, fv.2.2.1, fv.2.2.2, rfl, _, rfl, ?_⟩
      rw [decide_eq_true rfl]
      refine iteF ?_
      -- what was returned
      generalize A' z = av
      refine ⟨fun σ H' => σ = [some (.ref a), some (.ref p), some (.ref ln), some (.ref L1), some (.ref L2), some (.int (0 + (m : Int))), some (.int (z : Int)), some (.int (z2 : Int)), some (.str (wyS i)), some v, some (.ref av), some (.ref td), some (.ref tf), none] ∧ ∃ A A' x, St p c Pt L1 L2 H' A A' x (m + 1), ?_, ?_⟩
      · cases o with
        | bad k t =>
          obtain ⟨u1, h1, _⟩ := od
          exact ⟨_, rfl, td, _, _, _, rfl, rfl, SqT.of h1, atI_nat (j := 0) rfl, rfl, _, rfl, sF (nm5_ne k) ⟨rfl, A, A', x, st.mono (by omega)⟩⟩
        | ret y =>
          obtain ⟨ra, rb, rn, h1, w1⟩ := od
          obtain ⟨qa, qb, qn, h2, w2⟩ := of'
          refine ⟨_, rfl, td, _, _, _, rfl, rfl, SqT.of h1, atI_nat (j := 0) rfl, rfl, _, rfl, sT rfl ?_⟩
          refine ⟨_, rfl, td, _, _, _, rfl, rfl, SqT.of h1, atI_nat (j := 1) rfl, _, rfl, tf, _, _, _, rfl, rfl, SqT.of h2, atI_nat (j := 1) rfl, sz (Nat.le_of_ble_eq_true rfl), fun u hu => ?_⟩
          have sn := same_new (o := .tup [.ref ra, .ref qa]) hu
          have st := (st.same sn).mono (show m ≤ m + 1 by omega)
          have w1 := w1.to (.of sn)
          have w2 := w2.to (.of sn)
          have hu2 : upd Hh u (.tup [.ref ra, .ref qa]) u = some (.tup [.ref ra, .ref qa]) := upd_same
          generalize upd Hh u (.tup [.ref ra, .ref qa]) = Hi at st w1 w2 hu2 ⊢
          have s2 := st.set hz w1 w2 (ok1 y rfl)
          refine ⟨u, _, rfl, SqT.of hu2, rfl, _, _, rfl, _, rfl, _, rfl, L1, _, _, z, rfl, rfl, st.e1, ix2 hz, _, _, rfl, _, rfl, _, rfl, L2, [V.ref (A' 0), V.ref (A' 1)], _, z, rfl, rfl, ?_, ix2 hz, rfl, rfl, _, _, _, s2⟩
          rw [upd_ne st.n12.symm]
          exact st.e2
      rintro _ Hi ⟨rfl, A, A', x, st⟩
      -- broken
      refine ⟨fun σ H' => σ = [some (.ref a), some (.ref p), some (.ref ln), some (.ref L1), some (.ref L2), some (.int (0 + (m : Int))), some (.int (z : Int)), some (.int (z2 : Int)), some (.str (wyS i)), some v, some (.ref av), some (.ref td), some (.ref tf), none] ∧ ∃ A A' x, St p c Pt L1 L2 H' A A' x (m + 1), ?_, ?_⟩
      · refine ⟨_, rfl, p, c, _, rfl, st.dk, by decide, by decide, fun z3 Hj hz3 gj => ⟨rfl, _, rfl, ite2 (fun _ => ?_) (fun _ => ⟨rfl, A, A', x, st.gx gj⟩)⟩⟩
        have st := st.gx gj
        obtain ⟨⟨b1, n1, v1⟩, _, o1⟩ := st.v z hz
        have o1' := o1.mono (show m + 1 ≤ 40 by omega)
        refine ⟨_, rfl, _, rfl, L1, _, _, _, rfl, rfl, SqL.of st.e1, atI_nat (st.at1 hz), ?_⟩
        dsimp only [tNoPart]
        refine ⟨_, rfl, ?_⟩
        refine sl_t v1.a fun s6 Hk sk hk => ⟨sz (Nat.le_of_ble_eq_true rfl), fun u hu => ?_⟩
        have sn := sk.trans (same_new (o := .tup [.str (Str.ofString "broken")]) hu)
        have hk := same_new (o := .tup [.str (Str.ofString "broken")]) hu _ _ hk
        have hu2 : upd Hk u (.tup [.str (Str.ofString "broken")]) u = some (.tup [.str (Str.ofString "broken")]) := upd_same
        generalize upd Hk u (.tup [.str (Str.ofString "broken")]) = Hl at sn hk hu2 ⊢
        refine cat_t hk hu2 (Nat.le_of_ble_eq_true rfl) fun ra Hm sm hra => ?_
        have sm := sn.trans sm
        have w1 : VwA Hm ra b1 n1 { x z with br := true } := ⟨hra.trans rfl, sm _ _ v1.b, sm _ _ v1.n⟩
        have st := st.same sm
        obtain ⟨_, ⟨b2, n2, v2⟩, _⟩ := st.v z hz
        refine ⟨_, rfl, _, rfl, L2, _, _, _, rfl, rfl, SqL.of st.e2, atI_nat (st.at2 hz), p, c, A' z, b2, n2, x z, rfl, st.dk, v2, o1', fun qa qb qn Hn sN w2 => ⟨sz (Nat.le_of_ble_eq_true rfl), fun u2 hu2 => ?_⟩⟩
        have st := st.same sN
        have w1 := w1.to (.of sN)
        have so := same_new (o := .tup [.ref ra, .ref qa]) hu2
        have st := st.same so
        have w1 := w1.to (.of so)
        have w2 := w2.to (.of so)
        have hu3 : upd Hn u2 (.tup [.ref ra, .ref qa]) u2 = some (.tup [.ref ra, .ref qa]) := upd_same
        generalize upd Hn u2 (.tup [.ref ra, .ref qa]) = Ho at st w1 w2 hu3 ⊢
        have s2 := st.set hz w1 w2 o1.broken
        refine ⟨u2, _, rfl, SqT.of hu3, rfl, _, _, rfl, _, rfl, _, rfl, L1, _, _, z, rfl, rfl, st.e1, ix2 hz, _, _, rfl, _, rfl, _, rfl, L2, [V.ref (A' 0), V.ref (A' 1)], _, z, rfl, rfl, ?_, ix2 hz, rfl, rfl, _, _, _, s2⟩
        rw [upd_ne st.n12.symm]
        exact st.e2
      rintro _ Hj ⟨rfl, A, A', x, st⟩
      obtain ⟨⟨b1, n1, v1⟩, ⟨b2, n2, v2⟩, o1⟩ := st.v z hz
      have o1 := o1.mono (show m + 1 ≤ 40 by omega)
      exact ⟨_, rfl, _, rfl, L1, _, _, _, rfl, rfl, SqL.of st.e1, atI_nat (st.at1 hz), _, rfl, _, rfl, L2, _, _, _, rfl, rfl, SqL.of st.e2, atI_nat (st.at2 hz), p, c, A z, b1, n1, A' z, b2, n2, x z, rfl, st.dk, v1, v2, o1, fun Hk sk => ⟨_, rfl, iteF ⟨A, A', x, _, _, _, _, _, _, _, _, rfl, st.same sk⟩⟩⟩
    · rintro σ H10 ⟨A, A', x, x5, x6, x7, x8, x9, x10, x11, x12, rfl, st⟩
      obtain ⟨⟨b, n, v1⟩, ⟨b', n', v2⟩, o1⟩ := st.v 0 (by decide)
      have o1 := o1.mono (show ((N : Nat) : Int).toNat ≤ 40 by omega)
      refine ⟨_, rfl, L1, _, _, _, rfl, rfl, SqL.of st.e1, atI_nat (j := 0) rfl, _, rfl, L2, _, _, _, rfl, rfl, SqL.of st.e2, atI_nat (j := 0) rfl, p, c, A 0, b, n, A' 0, b', n', x 0, rfl, st.dk, v1, v2, o1, fun H11 s11 => ⟨_, rfl, iteT ?_⟩⟩
      have st := st.same s11
      obtain ⟨⟨b, n, v1⟩, ⟨b', n', v2⟩, o1⟩ := st.v 1 (by decide)
      have o1 := o1.mono (show ((N : Nat) : Int).toNat ≤ 40 by omega)
      exact ⟨_, rfl, L1, _, _, _, rfl, rfl, SqL.of st.e1, atI_nat (j := 1) rfl, _, rfl, L2, _, _, _, rfl, rfl, SqL.of st.e2, atI_nat (j := 1) rfl, p, c, A 1, b, n, A' 1, b', n', x 1, rfl, st.dk, v1, v2, o1, fun H12 s12 => q H12⟩
end
end Ag

end
/-! ## End0 -/
section
set_option linter.all false
set_option maxRecDepth 100000
namespace Ag
open PySem PySem.Spec PyProof.Rows L2
/-! ### the end of a law's row, over FnG -/
/-- the heap at the law's entry: the script alone is known -/
def hScr (K : PySem.W.Frag) (a : Addr) (o : Obj) (xs : List V) : Hp := fun b => if b = a ∧ K.lookup a = none then some (.frz o (.lst xs)) else none
theorem hScr_at {K : PySem.W.Frag} {a b : Addr} {o : Obj} {xs : List V} {u : HO} (h : hScr K a o xs b = some u) : b = a ∧ K.lookup a = none ∧ u = .frz o (.lst xs) := by
  unfold hScr at h
  split at h
  · rename_i c
    exact ⟨c.1, c.2, (Option.some.inj h).symm⟩
  · cases h
theorem hScr_only {K : PySem.W.Frag} {a b : Addr} {o : Obj} {xs : List V} : hScr K a o xs b = none ∨ hScr K a o xs b = some (.frz o (.lst xs)) := by
  cases h : hScr K a o xs b with
  | none => exact .inl rfl
  | some u => exact .inr (by rw [(hScr_at h).2.2])
theorem lawG {P : Program} {w : World} {K : PySem.W.Frag} {mg mb : Str → Option Value} {k : Nat} {fa a : Addr} {fd : FuncData} {x : Str} {sp : Sp} {s₁ : Shared} {vs : List Value} {ns : List Int}
    (KX : K.In s₁.heap) (hns : s₁.heap.Ns mainGlobals mg) (hb : s₁.heap.Ns builtinsNs mb) (hbb : ∀ x : Str, x ≠ "__name__" → mb x = bootBuiltins x) (hlim : s₁.heap.NoLimit) (gens : s₁.gens = #[])
    (ha : s₁.heap.get? a = some { cls := .type "list", data := .seq vs.toArray }) (hi : IntsAre vs ns) (hl : ns.length ≤ sizeLine) (hr : Room k callerA)
    (F : ∀ base : Heap, K.In base → base.Ns mainGlobals mg → FnG P w K mg base k fa fd [x] sp) (hbind : ∀ (s : Shared) (u : Value), BindsTo s fd ⟨[u], []⟩ [(x, u)])
    (hsp : ∀ H : Hp, SqL K H a (ns.map V.int) → sp [.ref a] H (fun v _ => v = .bl true) E0) :
    codeAny (model P w) callerA (.call (.ref fa) ⟨[.ref a], []⟩) (fun r s' => r = .ok (.ret (.bool true)) ∧ OldK s₁.heap s'.heap ∧ s'.os = s₁.os ∧ AllBare s'.gens) s₁ := by
  generalize hH : hScr K a { cls := .type "list", data := .seq vs.toArray } (ns.map V.int) = H
  have at_ : ∀ {b u}, H b = some u → b = a ∧ K.lookup a = none ∧ u = .frz { cls := .type "list", data := .seq vs.toArray } (.lst (ns.map V.int)) := fun h => hScr_at (by rw [hH]; exact h)
  have rv : Vals (ns.map V.int) vs := vals_ints hi
  have hok : HOk P w H s₁.heap := fun b u e => by
    obtain ⟨rfl, _, rfl⟩ := at_ e
    exact ⟨ha, by rw [List.length_map]; exact hl, vs, _, rv, ha⟩
  have sq : SqL K H a (ns.map V.int) := by
    cases hk : K.lookup a with
    | some o =>
      have e := KX a o hk
      rw [ha] at e
      cases e
      exact .inr ⟨_, vs.toArray, _, hk, rfl, rfl, rfl, by rw [List.size_toArray, hi.length]; exact hl, by simpa using rv⟩
    | none => exact .inl (.inr ⟨_, by rw [← hH]; exact if_pos ⟨rfl, hk⟩⟩)
  have keepB : ∀ {b : Addr} {o : Obj}, s₁.heap.get? b = some o → H b = none → (hidT s₁.heap H).get? b = some o := fun e n => hidT_get e n
  have dicts : ∀ {b : Addr} {o : Obj} {es : Array DictEntry} {ep : Nat}, s₁.heap.get? b = some o → o.data = .dict es ep → H b = none := by
    intro b o es ep e d
    cases q : H b with
    | none => rfl
    | some u =>
      obtain ⟨rfl, _, _⟩ := at_ q
      rw [ha] at e
      cases e
      cases d
  have nsB : ∀ {b : Addr} {m : Str → Option Value}, s₁.heap.Ns b m → (hidT s₁.heap H).Ns b m := by
    rintro b m ⟨o, es, ep, e, d, r⟩
    exact ⟨o, es, ep, keepB e (dicts e d), d, r⟩
  have kinB : K.In (hidT s₁.heap H) := by
    intro b o e
    refine keepB (KX b o e) ?_
    cases q : H b with
    | none => rfl
    | some u =>
      obtain ⟨rfl, n, _⟩ := at_ q
      rw [n] at e
      cases e
  have modB : Mod K mg (hidT s₁.heap H) := ⟨kinB, nsB hns, ⟨mb, nsB hb, hbb⟩, hlim.elim fun mc z => ⟨mc, nsB z.1, z.2⟩⟩
  have env : Env0 P w K mg (hidT s₁.heap H) callerA [] s₁ H :=
    ⟨rfl, modB, fun _ _ e => of_hidT e, Nat.le_of_eq (hidT_size s₁.heap H), trivial, (fun b z => by cases z), hok, .of_eq gens⟩
  refine codeAny_mono ((F _ kinB (nsB hns)).run callerA [] s₁ H ⟨[.ref a], []⟩ [.ref a] [.ref a] _ _ hr rfl env (hbind s₁ (.ref a)) (.cons rfl .nil) (hsp H sq)) ?_
  intro r s' h
  match r, h with
  | .error e, h => exact h.elim
  | .ok (.ret u), h =>
    obtain ⟨v, H', os, bare, un, hok', r', rfl⟩ := h
    obtain rfl : u = Value.bool true := r'
    refine ⟨rfl, OldK.of_keep fun b o e => ?_, os, bare⟩
    cases q : H b with
    | none => exact un.keep b o e q (fun z => by cases z) (fun z => by cases z)
    | some u =>
      obtain ⟨rfl, _, rfl⟩ := at_ q
      have e1 := (hok b _ q).1
      have e2 := (hok' b _ (un.frzs b _ _ q)).1
      rw [e] at e1
      rw [Option.some.inj e1]
      exact e2
theorem walkG {l : PySem.W.OpenLaw} {n k : Nat} {q : Program} {loose : List Str} {XP : (Str → Option Value) → Heap → Prop} {YP : World → Heap → Prop} {d : DefRec} {K : Params → PySem.W.Frag} {sp : PySem.W.Frag → Sp} {x : Str}
    (hn : l.most = some n) (hn2 : n ≤ sizeLine) (hdf : d.params.defaults = []) (hr : Room k callerA) (hY : ∀ (w : World) (h : Heap), YP w h → (K w.params).In h)
    (F : ∀ (w : World) (mg : Str → Option Value) (fa : Addr) (h : Heap), (K w.params).In h → h.Ns mainGlobals mg → mg d.name = some (.ref fa) →
      ∃ fd : FuncData, (∀ (s : Shared) (u : Value), BindsTo s fd ⟨[u], []⟩ [(x, u)]) ∧ ∀ base : Heap, (K w.params).In base → base.Ns mainGlobals mg → FnG l.prog w (K w.params) mg base k fa fd [x] (sp (K w.params)))
    (hsp : ∀ (K : PySem.W.Frag) (H : Hp) (a : Addr) (ns : List Int), ns.length ≤ n → SqL K H a (ns.map V.int) → sp K [.ref a] H (fun v _ => v = .bl true) E0) :
    PySem.W.WalkO q loose XP YP l.row.toRowW d [] (fun f vs => PySem.call f vs) := by
  refine Att.attach_call hn hdf ?_
  intro w s₀ s₁ mg mb fa o pm cd doc a vs ns G Y ho hd hcd hmg hobj hints hlen hg
  obtain ⟨fd, hb, hF⟩ := F w mg fa _ (hY w _ Y) G.T.g hmg
  exact lawG (hY w _ Y) G.T.g G.T.b G.T.builtins G.T.nolimit hg hobj hints (Nat.le_trans hlen hn2) hr hF hb (fun H sq => hsp _ H a ns hlen sq)
end Ag

end
/-! ## End1 -/
section
set_option linter.all false
set_option maxRecDepth 100000
namespace Ag
open PySem PySem.Spec PyProof.Rows L2
/-! ### the end of a law's row, over FnG, with a table of code objects -/
/-- the heap at the law's entry: the script and an empty table are known -/
def hScrT (K : PySem.W.Frag) (a Pt : Addr) (o : Obj) (xs : List V) : Hp := fun b => if b = Pt then some (.tbl #[]) else if b = a ∧ K.lookup a = none then some (.frz o (.lst xs)) else none
theorem hScrT_at {K : PySem.W.Frag} {a b Pt : Addr} {o : Obj} {xs : List V} {u : HO} (h : hScrT K a Pt o xs b = some u) : (b = Pt ∧ u = .tbl #[]) ∨ (b = a ∧ K.lookup a = none ∧ u = .frz o (.lst xs)) := by
  unfold hScrT at h
  split at h
  · rename_i z
    exact .inl ⟨z, (Option.some.inj h).symm⟩
  · split at h
    · rename_i z
      exact .inr ⟨z.1, z.2, (Option.some.inj h).symm⟩
    · cases h
theorem lawGT {P : Program} {w : World} {K : PySem.W.Frag} {mg mb : Str → Option Value} {k : Nat} {fa a cA Pt : Addr} {fd : FuncData} {x : Str} {sp : Sp} {s₁ : Shared} {vs : List Value} {ns : List Int}
    (KX : K.In s₁.heap) (hns : s₁.heap.Ns mainGlobals mg) (hb : s₁.heap.Ns builtinsNs mb) (hbb : ∀ x : Str, x ≠ "__name__" → mb x = bootBuiltins x) (hlim : s₁.heap.NoLimit) (gens : s₁.gens = #[])
    (hT : s₁.heap.get? Pt = some { cls := .none, data := .fields #[] }) (nT : K.lookup Pt = none) (hCd : PySem.W.codeHdIn K cA Pt = true)
    (hmod : ∃ (m : Addr) (u : Obj), mg "__builtins__" = some (.ref m) ∧ m ≠ builtinsNs ∧ s₁.heap.get? m = some u ∧ u.cls = .type "module" ∧ u.dict = some builtinsNs ∧ u.data = .plain)
    (ha : s₁.heap.get? a = some { cls := .type "list", data := .seq vs.toArray }) (hi : IntsAre vs ns) (hl : ns.length ≤ sizeLine) (hr : Room k callerA)
    (F : ∀ base : Heap, K.In base → base.Ns mainGlobals mg → LamX.TabB base mg cA Pt → FnG P w K mg base k fa fd [x] sp) (hbind : ∀ (s : Shared) (u : Value), BindsTo s fd ⟨[u], []⟩ [(x, u)])
    (hsp : ∀ H : Hp, H Pt = some (.tbl #[]) → SqL K H a (ns.map V.int) → sp [.ref a] H (fun v _ => v = .bl true) E0) :
    codeAny (model P w) callerA (.call (.ref fa) ⟨[.ref a], []⟩) (fun r s' => r = .ok (.ret (.bool true)) ∧ OldK s₁.heap s'.heap ∧ s'.os = s₁.os ∧ AllBare s'.gens) s₁ := by
  have nPa : a ≠ Pt := fun z => by rw [z, hT] at ha; cases ha
  generalize hH : hScrT K a Pt { cls := .type "list", data := .seq vs.toArray } (ns.map V.int) = H
  have at_ : ∀ {b u}, H b = some u → (b = Pt ∧ u = .tbl #[]) ∨ (b = a ∧ K.lookup a = none ∧ u = .frz { cls := .type "list", data := .seq vs.toArray } (.lst (ns.map V.int))) := fun h => hScrT_at (by rw [hH]; exact h)
  have hP : H Pt = some (.tbl #[]) := by rw [← hH]; exact if_pos rfl
  have rv : Vals (ns.map V.int) vs := vals_ints hi
  have hok : HOk P w H s₁.heap := fun b u e => by
    rcases at_ e with ⟨rfl, rfl⟩ | ⟨rfl, _, rfl⟩
    · exact hT
    · exact ⟨ha, by rw [List.length_map]; exact hl, vs, _, rv, ha⟩
  have sq : SqL K H a (ns.map V.int) := by
    cases hk : K.lookup a with
    | some o =>
      have e := KX a o hk
      rw [ha] at e
      cases e
      exact .inr ⟨_, vs.toArray, _, hk, rfl, rfl, rfl, by rw [List.size_toArray, hi.length]; exact hl, by simpa using rv⟩
    | none => exact .inl (.inr ⟨_, by rw [← hH]; exact (if_neg nPa).trans (if_pos ⟨rfl, hk⟩)⟩)
  have keepB : ∀ {b : Addr} {o : Obj}, s₁.heap.get? b = some o → H b = none → (hidT s₁.heap H).get? b = some o := fun e n => hidT_get e n
  have other : ∀ {b : Addr} {o : Obj}, s₁.heap.get? b = some o → (∀ ys n, o.data ≠ .seq ys n) → (∀ ys, o.data ≠ .fields ys) → H b = none := by
    intro b o e n1 n2
    cases q : H b with
    | none => rfl
    | some u =>
      rcases at_ q with ⟨rfl, _⟩ | ⟨rfl, _, _⟩
      · rw [hT] at e
        cases e
        exact absurd rfl (n2 _)
      · rw [ha] at e
        cases e
        exact absurd rfl (n1 _ _)
  have nsB : ∀ {b : Addr} {m : Str → Option Value}, s₁.heap.Ns b m → (hidT s₁.heap H).Ns b m := by
    rintro b m ⟨o, es, ep, e, d, r⟩
    exact ⟨o, es, ep, keepB e (other e (fun _ _ z => by rw [d] at z; cases z) fun _ z => by rw [d] at z; cases z), d, r⟩
  have kinB : K.In (hidT s₁.heap H) := by
    intro b o e
    refine keepB (KX b o e) ?_
    cases q : H b with
    | none => rfl
    | some u =>
      rcases at_ q with ⟨rfl, _⟩ | ⟨rfl, n, _⟩
      · rw [nT] at e
        cases e
      · rw [n] at e
        cases e
  have modB : Mod K mg (hidT s₁.heap H) := ⟨kinB, nsB hns, ⟨mb, nsB hb, hbb⟩, hlim.elim fun mc z => ⟨mc, nsB z.1, z.2⟩⟩
  have TB : LamX.TabB (hidT s₁.heap H) mg cA Pt := by
    obtain ⟨og, eg, pg, hog, hdg, _⟩ := hns
    refine ⟨PySem.W.codeHd_of_K kinB hCd, ?_, fun z => ?_⟩
    · obtain ⟨m, u, m1, m2, m3, m4, m5, m6⟩ := hmod
      refine ⟨m, u, m1, m2, fun z => ?_, fun z => ?_, keepB m3 (other m3 (fun _ _ z => by rw [m6] at z; cases z) fun _ z => by rw [m6] at z; cases z), m4, m5, m6⟩
      · rw [z, hog] at m3
        cases m3
        rw [hdg] at m6
        cases m6
      · rw [z, hT] at m3
        cases m3
        cases m6
    · rw [z, hT] at hog
      cases hog
      cases hdg
  have env : Env0 P w K mg (hidT s₁.heap H) callerA [] s₁ H :=
    ⟨rfl, modB, fun _ _ e => of_hidT e, Nat.le_of_eq (hidT_size s₁.heap H), trivial, (fun b z => by cases z), hok, .of_eq gens⟩
  refine codeAny_mono ((F _ kinB (nsB hns) TB).run callerA [] s₁ H ⟨[.ref a], []⟩ [.ref a] [.ref a] _ _ hr rfl env (hbind s₁ (.ref a)) (.cons rfl .nil) (hsp H hP sq)) ?_
  intro r s' h
  match r, h with
  | .error e, h => exact h.elim
  | .ok (.ret u), h =>
    obtain ⟨v, H', os, bare, un, hok', r', rfl⟩ := h
    obtain rfl : u = Value.bool true := r'
    have kept : ∀ b o, b ≠ Pt → s₁.heap.get? b = some o → s'.heap.get? b = some o := fun b o nb e => by
      cases q : H b with
      | none => exact un.keep b o e q (fun z => by cases z) (fun z => by cases z)
      | some u =>
        rcases at_ q with ⟨z, _⟩ | ⟨rfl, _, rfl⟩
        · exact absurd z nb
        · have e1 := (hok b _ q).1
          have e2 := (hok' b _ (un.frzs b _ _ q)).1
          rw [e] at e1
          rw [Option.some.inj e1]
          exact e2
    obtain ⟨more, hm⟩ : ∃ more : Array Value, s'.heap.get? Pt = some { cls := .none, data := .fields more } := by
      obtain ⟨more, z⟩ := un.tbls Pt #[] hP
      exact ⟨_, hok' Pt _ z⟩
    refine ⟨rfl, ⟨fun b o e => ?_, fun b o e => ?_⟩, os, bare⟩
    · by_cases nb : b = Pt
      · subst nb
        rw [hT] at e
        cases e
        exact .inr (.inl ⟨((PySem.W.codeHd_of_K KX hCd).tab hT).isCodeTable, rfl, #[], more, rfl, by rw [Array.empty_append]; exact hm⟩)
      · exact .inl (kept b o nb e)
    · by_cases nb : b = Pt
      · rw [nb]
        exact ⟨_, hm⟩
      · exact ⟨o, kept b o nb e⟩
/-- the def of the name x has an empty table -/
def TabOf (K : PySem.W.Frag) (mg : Str → Option Value) (x : Str) (h : Heap) : Prop := ∀ f, mg x = some (.ref f) → LamX.OwnTab K f h
theorem walkGT {l : PySem.W.OpenLaw} {n k : Nat} {q : Program} {loose : List Str} {XP : (Str → Option Value) → Heap → Prop} {YP : World → Heap → Prop} {d : DefRec} {K : Params → PySem.W.Frag} {sp : Addr → PySem.W.Frag → Sp} {x y : Str}
    (hn : l.most = some n) (hn2 : n ≤ sizeLine) (hdf : d.params.defaults = []) (hr : Room k callerA) (hrec : ((recsOf q).any fun e => e.name == y) = true) (hY : ∀ (w : World) (h : Heap), YP w h → (K w.params).In h)
    (F : ∀ (w : World) (mg : Str → Option Value) (fa : Addr) (h : Heap), (K w.params).In h → h.Ns mainGlobals mg → mg d.name = some (.ref fa) → TabOf (K w.params) mg y h →
      ∃ (fd : FuncData) (cA Pt : Addr), h.get? Pt = some { cls := .none, data := .fields #[] } ∧ (K w.params).lookup Pt = none ∧ PySem.W.codeHdIn (K w.params) cA Pt = true ∧ (∀ (s : Shared) (u : Value), BindsTo s fd ⟨[u], []⟩ [(x, u)]) ∧
        ∀ base : Heap, (K w.params).In base → base.Ns mainGlobals mg → LamX.TabB base mg cA Pt → FnG l.prog w (K w.params) mg base k fa fd [x] (sp Pt (K w.params)))
    (hsp : ∀ (Pt : Addr) (K : PySem.W.Frag) (H : Hp) (a : Addr) (ns : List Int), ns.length ≤ n → H Pt = some (.tbl #[]) → SqL K H a (ns.map V.int) → sp Pt K [.ref a] H (fun v _ => v = .bl true) E0) :
    PySem.W.WalkO q loose XP YP l.row.toRowW d [] (fun f vs => PySem.call f vs) := by
  refine Att.attach_call hn hdf ?_
  intro w s₀ s₁ mg mb fa o pm cd doc a vs ns G Y ho hd hcd hmg hobj hints hlen hg
  have KX := hY w _ Y
  have own : TabOf (K w.params) mg y s₁.heap := by
    intro f hf c1 P1 o1 fd1 e1 dd1 vs1 sl1 k1 k2 k3 k4 k5
    obtain ⟨r, hm, hn1⟩ := List.any_eq_true.mp hrec
    have hn2 : r.name = y := beq_iff_eq.mp hn1
    obtain ⟨a', o', fd', c', P', h1, h2, h3, h4, h5, h6⟩ := G.T.tab r hm
    rw [hn2, hf] at h1
    cases h1
    rw [KX _ _ k1] at h2
    cases h2
    rw [k2] at h3
    cases h3
    rw [k3] at h4
    cases h4
    obtain ⟨⟨oc, vc, z1, _, z3, z4⟩, hP⟩ := h6
    rw [KX _ _ k4] at z1
    cases z1
    cases z3
    rw [k5] at z4
    cases z4
    exact hP
  obtain ⟨fd, cA, Pt, hT, nT, hC, hb, hF⟩ := F w mg fa _ KX G.T.g hmg own
  exact lawGT KX G.T.g G.T.b G.T.builtins G.T.nolimit hg hT nT hC G.T.bmain hobj hints (Nat.le_trans hlen hn2) hr hF hb (fun H hH sq => hsp Pt _ H a ns hlen hH sq)
end Ag

end
/-! ## E -/
section
set_option linter.all false
set_option maxRecDepth 100000
namespace Ag
open PySem PySem.Spec PyProof.Rows L2
theorem vals_app : ∀ {a : List V} {b : List Value} {c : List V} {d : List Value}, Vals a b → Vals c d → Vals (a ++ c) (b ++ d)
  | [], [], _, _, _, h => h
  | _ :: _, _ :: _, _, _, .cons h t, k => .cons h (vals_app t k)
theorem vals_rev : ∀ {a : List V} {b : List Value}, Vals a b → Vals a.reverse b.reverse
  | [], [], _ => .nil
  | _ :: _, _ :: _, .cons h t => by
    rw [List.reverse_cons, List.reverse_cons]
    exact vals_app (vals_rev t) (.cons h .nil)
theorem exm_self {K : PySem.W.Frag} {C : Addr} {cd : ClassData} (h1 : PySem.W.subIn K (.ref C) (.type "BaseException") = some true) (h2 : PySem.W.clsIn K C = some cd) (h3 : PySem.W.typeIn K (.ref C) = some (.type "type")) (h4 : PySem.W.subIn K (.ref C) (.ref C) = some true) :
    PySem.W.exmOne K (.ref C) (.ref C) = some true := by
  simp [PySem.W.exmOne, PySem.W.kitCls, h1, h2, h3, h4]
open SX (S S_len S_cat S_inj)
theorem sqT_lit {K : PySem.W.Frag} {a n : Nat} {d : Option Addr} {its : Array Value} {sl : Array (Option Value)} {xs : List V} (h : K.lookup a = some ⟨.type "tuple", d, .seq its n, sl⟩) (hv : its.size ≤ sizeLine ∧ Vals xs its.toList) (H : Hp) : SqT K H a xs :=
  .inr ⟨_, its, n, h, rfl, rfl, hv.1, hv.2⟩
/-- a written dict's entries, text to place -/
def entS (e : DictEntry) : Option (Str × Addr) := match e.key, e.val with
  | .str x _, .ref a => some (x, a)
  | _, _ => none
theorem ent_find (z : Str) : ∀ (l : List DictEntry) (ps : List (Str × Addr)), l.map entS = ps.map some → (l.find? (·.key.isStr z)).map (·.val) = (ps.lookup z).map Value.ref ∧ l.any (·.refKey) = false
  | [], [], _ => ⟨rfl, rfl⟩
  | [], p :: ps, h => by simp at h
  | e :: l, [], h => by simp at h
  | e :: l, p :: ps, h => by
    rw [List.map_cons, List.map_cons, List.cons.injEq] at h
    obtain ⟨i1, i2⟩ := ent_find z l ps h.2
    obtain ⟨hs, k, v⟩ := e
    have h1 := h.1
    unfold entS at h1
    simp only at h1
    split at h1
    · rename_i x t a
      injection h1 with h1
      subst h1
      have hk : (DictEntry.key ⟨hs, .str x t, .ref a⟩).isStr z = (x == z) := by
        rw [PySem.W.isStr_of]
        rfl
      have hrk : DictEntry.refKey ⟨hs, .str x t, .ref a⟩ = false := rfl
      refine ⟨?_, by rw [List.any_cons, hrk, i2]; rfl⟩
      rw [List.find?_cons, hk]
      by_cases hx : x = z
      · subst hx
        simp [List.lookup]
      · have e1 : (x == z) = false := beq_eq_false_iff_ne.mpr hx
        have e2 : (z == x) = false := beq_eq_false_iff_ne.mpr fun y => hx y.symm
        rw [e1]
        simp only [List.lookup, e2]
        exact i1
    · cases h1
theorem ns_ent {K : PySem.W.Frag} {d : Addr} {es : Array DictEntry} {n : Nat} (h : K.lookup d = some ⟨.type "dict", none, .dict es n, #[]⟩) {ps : List (Str × Addr)} (he : es.toList.map entS = ps.map some) (z : Str) :
    PySem.W.nsIn K d z = some ((ps.lookup z).map Value.ref) := by
  obtain ⟨i1, i2⟩ := ent_find z _ _ he
  unfold PySem.W.nsIn
  rw [h]
  simp only
  cases hf : es.toList.find? (·.key.isStr z) with
  | none =>
    rw [hf] at i1
    simp only
    rw [i2, ← i1]
    rfl
  | some e =>
    rw [hf] at i1
    simp only
    rw [← i1]
    rfl
/-- the table of forms by its words -/
theorem look_key (wd : List Nat) (x : Str) (l : List Nat) (h : x = S l) : (S wd == x) = decide (wd = l) := by
  subst h
  rw [SX.S_beq_eq]
theorem look0 (t0 t1 t2 t3 t4 t5 t6 t7 t8 : Addr) : List.lookup (S [97, 115, 107]) ([("ask", t0), ("past", t1), ("look", t2), ("hello", t3), ("answer", t4), ("upto", t5), ("forgot", t6), ("well", t7), ("away", t8)] : List (Str × Addr)) = some t0 := by
  simp only [List.lookup, look_key _ _ [97, 115, 107] (show Str.ofString "ask" = S [97, 115, 107] from by decide +kernel), look_key _ _ [112, 97, 115, 116] (show Str.ofString "past" = S [112, 97, 115, 116] from by decide +kernel), look_key _ _ [108, 111, 111, 107] (show Str.ofString "look" = S [108, 111, 111, 107] from by decide +kernel), look_key _ _ [104, 101, 108, 108, 111] (show Str.ofString "hello" = S [104, 101, 108, 108, 111] from by decide +kernel), look_key _ _ [97, 110, 115, 119, 101, 114] (show Str.ofString "answer" = S [97, 110, 115, 119, 101, 114] from by decide +kernel), look_key _ _ [117, 112, 116, 111] (show Str.ofString "upto" = S [117, 112, 116, 111] from by decide +kernel), look_key _ _ [102, 111, 114, 103, 111, 116] (show Str.ofString "forgot" = S [102, 111, 114, 103, 111, 116] from by decide +kernel), look_key _ _ [119, 101, 108, 108] (show Str.ofString "well" = S [119, 101, 108, 108] from by decide +kernel), look_key _ _ [97, 119, 97, 121] (show Str.ofString "away" = S [97, 119, 97, 121] from by decide +kernel)]
  rfl
theorem look1 (t0 t1 t2 t3 t4 t5 t6 t7 t8 : Addr) : List.lookup (S [112, 97, 115, 116]) ([("ask", t0), ("past", t1), ("look", t2), ("hello", t3), ("answer", t4), ("upto", t5), ("forgot", t6), ("well", t7), ("away", t8)] : List (Str × Addr)) = some t1 := by
  simp only [List.lookup, look_key _ _ [97, 115, 107] (show Str.ofString "ask" = S [97, 115, 107] from by decide +kernel), look_key _ _ [112, 97, 115, 116] (show Str.ofString "past" = S [112, 97, 115, 116] from by decide +kernel), look_key _ _ [108, 111, 111, 107] (show Str.ofString "look" = S [108, 111, 111, 107] from by decide +kernel), look_key _ _ [104, 101, 108, 108, 111] (show Str.ofString "hello" = S [104, 101, 108, 108, 111] from by decide +kernel), look_key _ _ [97, 110, 115, 119, 101, 114] (show Str.ofString "answer" = S [97, 110, 115, 119, 101, 114] from by decide +kernel), look_key _ _ [117, 112, 116, 111] (show Str.ofString "upto" = S [117, 112, 116, 111] from by decide +kernel), look_key _ _ [102, 111, 114, 103, 111, 116] (show Str.ofString "forgot" = S [102, 111, 114, 103, 111, 116] from by decide +kernel), look_key _ _ [119, 101, 108, 108] (show Str.ofString "well" = S [119, 101, 108, 108] from by decide +kernel), look_key _ _ [97, 119, 97, 121] (show Str.ofString "away" = S [97, 119, 97, 121] from by decide +kernel)]
  rfl
theorem look2 (t0 t1 t2 t3 t4 t5 t6 t7 t8 : Addr) : List.lookup (S [108, 111, 111, 107]) ([("ask", t0), ("past", t1), ("look", t2), ("hello", t3), ("answer", t4), ("upto", t5), ("forgot", t6), ("well", t7), ("away", t8)] : List (Str × Addr)) = some t2 := by
  simp only [List.lookup, look_key _ _ [97, 115, 107] (show Str.ofString "ask" = S [97, 115, 107] from by decide +kernel), look_key _ _ [112, 97, 115, 116] (show Str.ofString "past" = S [112, 97, 115, 116] from by decide +kernel), look_key _ _ [108, 111, 111, 107] (show Str.ofString "look" = S [108, 111, 111, 107] from by decide +kernel), look_key _ _ [104, 101, 108, 108, 111] (show Str.ofString "hello" = S [104, 101, 108, 108, 111] from by decide +kernel), look_key _ _ [97, 110, 115, 119, 101, 114] (show Str.ofString "answer" = S [97, 110, 115, 119, 101, 114] from by decide +kernel), look_key _ _ [117, 112, 116, 111] (show Str.ofString "upto" = S [117, 112, 116, 111] from by decide +kernel), look_key _ _ [102, 111, 114, 103, 111, 116] (show Str.ofString "forgot" = S [102, 111, 114, 103, 111, 116] from by decide +kernel), look_key _ _ [119, 101, 108, 108] (show Str.ofString "well" = S [119, 101, 108, 108] from by decide +kernel), look_key _ _ [97, 119, 97, 121] (show Str.ofString "away" = S [97, 119, 97, 121] from by decide +kernel)]
  rfl
theorem look3 (t0 t1 t2 t3 t4 t5 t6 t7 t8 : Addr) : List.lookup (S [104, 101, 108, 108, 111]) ([("ask", t0), ("past", t1), ("look", t2), ("hello", t3), ("answer", t4), ("upto", t5), ("forgot", t6), ("well", t7), ("away", t8)] : List (Str × Addr)) = some t3 := by
  simp only [List.lookup, look_key _ _ [97, 115, 107] (show Str.ofString "ask" = S [97, 115, 107] from by decide +kernel), look_key _ _ [112, 97, 115, 116] (show Str.ofString "past" = S [112, 97, 115, 116] from by decide +kernel), look_key _ _ [108, 111, 111, 107] (show Str.ofString "look" = S [108, 111, 111, 107] from by decide +kernel), look_key _ _ [104, 101, 108, 108, 111] (show Str.ofString "hello" = S [104, 101, 108, 108, 111] from by decide +kernel), look_key _ _ [97, 110, 115, 119, 101, 114] (show Str.ofString "answer" = S [97, 110, 115, 119, 101, 114] from by decide +kernel), look_key _ _ [117, 112, 116, 111] (show Str.ofString "upto" = S [117, 112, 116, 111] from by decide +kernel), look_key _ _ [102, 111, 114, 103, 111, 116] (show Str.ofString "forgot" = S [102, 111, 114, 103, 111, 116] from by decide +kernel), look_key _ _ [119, 101, 108, 108] (show Str.ofString "well" = S [119, 101, 108, 108] from by decide +kernel), look_key _ _ [97, 119, 97, 121] (show Str.ofString "away" = S [97, 119, 97, 121] from by decide +kernel)]
  rfl
theorem look4 (t0 t1 t2 t3 t4 t5 t6 t7 t8 : Addr) : List.lookup (S [97, 110, 115, 119, 101, 114]) ([("ask", t0), ("past", t1), ("look", t2), ("hello", t3), ("answer", t4), ("upto", t5), ("forgot", t6), ("well", t7), ("away", t8)] : List (Str × Addr)) = some t4 := by
  simp only [List.lookup, look_key _ _ [97, 115, 107] (show Str.ofString "ask" = S [97, 115, 107] from by decide +kernel), look_key _ _ [112, 97, 115, 116] (show Str.ofString "past" = S [112, 97, 115, 116] from by decide +kernel), look_key _ _ [108, 111, 111, 107] (show Str.ofString "look" = S [108, 111, 111, 107] from by decide +kernel), look_key _ _ [104, 101, 108, 108, 111] (show Str.ofString "hello" = S [104, 101, 108, 108, 111] from by decide +kernel), look_key _ _ [97, 110, 115, 119, 101, 114] (show Str.ofString "answer" = S [97, 110, 115, 119, 101, 114] from by decide +kernel), look_key _ _ [117, 112, 116, 111] (show Str.ofString "upto" = S [117, 112, 116, 111] from by decide +kernel), look_key _ _ [102, 111, 114, 103, 111, 116] (show Str.ofString "forgot" = S [102, 111, 114, 103, 111, 116] from by decide +kernel), look_key _ _ [119, 101, 108, 108] (show Str.ofString "well" = S [119, 101, 108, 108] from by decide +kernel), look_key _ _ [97, 119, 97, 121] (show Str.ofString "away" = S [97, 119, 97, 121] from by decide +kernel)]
  rfl
theorem look5 (t0 t1 t2 t3 t4 t5 t6 t7 t8 : Addr) : List.lookup (S [117, 112, 116, 111]) ([("ask", t0), ("past", t1), ("look", t2), ("hello", t3), ("answer", t4), ("upto", t5), ("forgot", t6), ("well", t7), ("away", t8)] : List (Str × Addr)) = some t5 := by
  simp only [List.lookup, look_key _ _ [97, 115, 107] (show Str.ofString "ask" = S [97, 115, 107] from by decide +kernel), look_key _ _ [112, 97, 115, 116] (show Str.ofString "past" = S [112, 97, 115, 116] from by decide +kernel), look_key _ _ [108, 111, 111, 107] (show Str.ofString "look" = S [108, 111, 111, 107] from by decide +kernel), look_key _ _ [104, 101, 108, 108, 111] (show Str.ofString "hello" = S [104, 101, 108, 108, 111] from by decide +kernel), look_key _ _ [97, 110, 115, 119, 101, 114] (show Str.ofString "answer" = S [97, 110, 115, 119, 101, 114] from by decide +kernel), look_key _ _ [117, 112, 116, 111] (show Str.ofString "upto" = S [117, 112, 116, 111] from by decide +kernel), look_key _ _ [102, 111, 114, 103, 111, 116] (show Str.ofString "forgot" = S [102, 111, 114, 103, 111, 116] from by decide +kernel), look_key _ _ [119, 101, 108, 108] (show Str.ofString "well" = S [119, 101, 108, 108] from by decide +kernel), look_key _ _ [97, 119, 97, 121] (show Str.ofString "away" = S [97, 119, 97, 121] from by decide +kernel)]
  rfl
theorem look6 (t0 t1 t2 t3 t4 t5 t6 t7 t8 : Addr) : List.lookup (S [102, 111, 114, 103, 111, 116]) ([("ask", t0), ("past", t1), ("look", t2), ("hello", t3), ("answer", t4), ("upto", t5), ("forgot", t6), ("well", t7), ("away", t8)] : List (Str × Addr)) = some t6 := by
  simp only [List.lookup, look_key _ _ [97, 115, 107] (show Str.ofString "ask" = S [97, 115, 107] from by decide +kernel), look_key _ _ [112, 97, 115, 116] (show Str.ofString "past" = S [112, 97, 115, 116] from by decide +kernel), look_key _ _ [108, 111, 111, 107] (show Str.ofString "look" = S [108, 111, 111, 107] from by decide +kernel), look_key _ _ [104, 101, 108, 108, 111] (show Str.ofString "hello" = S [104, 101, 108, 108, 111] from by decide +kernel), look_key _ _ [97, 110, 115, 119, 101, 114] (show Str.ofString "answer" = S [97, 110, 115, 119, 101, 114] from by decide +kernel), look_key _ _ [117, 112, 116, 111] (show Str.ofString "upto" = S [117, 112, 116, 111] from by decide +kernel), look_key _ _ [102, 111, 114, 103, 111, 116] (show Str.ofString "forgot" = S [102, 111, 114, 103, 111, 116] from by decide +kernel), look_key _ _ [119, 101, 108, 108] (show Str.ofString "well" = S [119, 101, 108, 108] from by decide +kernel), look_key _ _ [97, 119, 97, 121] (show Str.ofString "away" = S [97, 119, 97, 121] from by decide +kernel)]
  rfl
theorem look7 (t0 t1 t2 t3 t4 t5 t6 t7 t8 : Addr) : List.lookup (S [119, 101, 108, 108]) ([("ask", t0), ("past", t1), ("look", t2), ("hello", t3), ("answer", t4), ("upto", t5), ("forgot", t6), ("well", t7), ("away", t8)] : List (Str × Addr)) = some t7 := by
  simp only [List.lookup, look_key _ _ [97, 115, 107] (show Str.ofString "ask" = S [97, 115, 107] from by decide +kernel), look_key _ _ [112, 97, 115, 116] (show Str.ofString "past" = S [112, 97, 115, 116] from by decide +kernel), look_key _ _ [108, 111, 111, 107] (show Str.ofString "look" = S [108, 111, 111, 107] from by decide +kernel), look_key _ _ [104, 101, 108, 108, 111] (show Str.ofString "hello" = S [104, 101, 108, 108, 111] from by decide +kernel), look_key _ _ [97, 110, 115, 119, 101, 114] (show Str.ofString "answer" = S [97, 110, 115, 119, 101, 114] from by decide +kernel), look_key _ _ [117, 112, 116, 111] (show Str.ofString "upto" = S [117, 112, 116, 111] from by decide +kernel), look_key _ _ [102, 111, 114, 103, 111, 116] (show Str.ofString "forgot" = S [102, 111, 114, 103, 111, 116] from by decide +kernel), look_key _ _ [119, 101, 108, 108] (show Str.ofString "well" = S [119, 101, 108, 108] from by decide +kernel), look_key _ _ [97, 119, 97, 121] (show Str.ofString "away" = S [97, 119, 97, 121] from by decide +kernel)]
  rfl
theorem look8 (t0 t1 t2 t3 t4 t5 t6 t7 t8 : Addr) : List.lookup (S [97, 119, 97, 121]) ([("ask", t0), ("past", t1), ("look", t2), ("hello", t3), ("answer", t4), ("upto", t5), ("forgot", t6), ("well", t7), ("away", t8)] : List (Str × Addr)) = some t8 := by
  simp only [List.lookup, look_key _ _ [97, 115, 107] (show Str.ofString "ask" = S [97, 115, 107] from by decide +kernel), look_key _ _ [112, 97, 115, 116] (show Str.ofString "past" = S [112, 97, 115, 116] from by decide +kernel), look_key _ _ [108, 111, 111, 107] (show Str.ofString "look" = S [108, 111, 111, 107] from by decide +kernel), look_key _ _ [104, 101, 108, 108, 111] (show Str.ofString "hello" = S [104, 101, 108, 108, 111] from by decide +kernel), look_key _ _ [97, 110, 115, 119, 101, 114] (show Str.ofString "answer" = S [97, 110, 115, 119, 101, 114] from by decide +kernel), look_key _ _ [117, 112, 116, 111] (show Str.ofString "upto" = S [117, 112, 116, 111] from by decide +kernel), look_key _ _ [102, 111, 114, 103, 111, 116] (show Str.ofString "forgot" = S [102, 111, 114, 103, 111, 116] from by decide +kernel), look_key _ _ [119, 101, 108, 108] (show Str.ofString "well" = S [119, 101, 108, 108] from by decide +kernel), look_key _ _ [97, 119, 97, 121] (show Str.ofString "away" = S [97, 119, 97, 121] from by decide +kernel)]
  rfl
theorem look_no {t0 t1 t2 t3 t4 t5 t6 t7 t8 : Addr} {wd : List Nat} (h : formOf wd = none) : List.lookup (S wd) ([("ask", t0), ("past", t1), ("look", t2), ("hello", t3), ("answer", t4), ("upto", t5), ("forgot", t6), ("well", t7), ("away", t8)] : List (Str × Addr)) = none := by
  have n0 : wd ≠ [97, 115, 107] := fun z => by rw [z] at h; exact absurd h (by decide)
  have n1 : wd ≠ [112, 97, 115, 116] := fun z => by rw [z] at h; exact absurd h (by decide)
  have n2 : wd ≠ [108, 111, 111, 107] := fun z => by rw [z] at h; exact absurd h (by decide)
  have n3 : wd ≠ [104, 101, 108, 108, 111] := fun z => by rw [z] at h; exact absurd h (by decide)
  have n4 : wd ≠ [97, 110, 115, 119, 101, 114] := fun z => by rw [z] at h; exact absurd h (by decide)
  have n5 : wd ≠ [117, 112, 116, 111] := fun z => by rw [z] at h; exact absurd h (by decide)
  have n6 : wd ≠ [102, 111, 114, 103, 111, 116] := fun z => by rw [z] at h; exact absurd h (by decide)
  have n7 : wd ≠ [119, 101, 108, 108] := fun z => by rw [z] at h; exact absurd h (by decide)
  have n8 : wd ≠ [97, 119, 97, 121] := fun z => by rw [z] at h; exact absurd h (by decide)
  simp only [List.lookup, look_key _ _ [97, 115, 107] (show Str.ofString "ask" = S [97, 115, 107] from by decide +kernel), look_key _ _ [112, 97, 115, 116] (show Str.ofString "past" = S [112, 97, 115, 116] from by decide +kernel), look_key _ _ [108, 111, 111, 107] (show Str.ofString "look" = S [108, 111, 111, 107] from by decide +kernel), look_key _ _ [104, 101, 108, 108, 111] (show Str.ofString "hello" = S [104, 101, 108, 108, 111] from by decide +kernel), look_key _ _ [97, 110, 115, 119, 101, 114] (show Str.ofString "answer" = S [97, 110, 115, 119, 101, 114] from by decide +kernel), look_key _ _ [117, 112, 116, 111] (show Str.ofString "upto" = S [117, 112, 116, 111] from by decide +kernel), look_key _ _ [102, 111, 114, 103, 111, 116] (show Str.ofString "forgot" = S [102, 111, 114, 103, 111, 116] from by decide +kernel), look_key _ _ [119, 101, 108, 108] (show Str.ofString "well" = S [119, 101, 108, 108] from by decide +kernel), look_key _ _ [97, 119, 97, 121] (show Str.ofString "away" = S [97, 119, 97, 121] from by decide +kernel), decide_eq_false n0, decide_eq_false n1, decide_eq_false n2, decide_eq_false n3, decide_eq_false n4, decide_eq_false n5, decide_eq_false n6, decide_eq_false n7, decide_eq_false n8]
/-- what a code object's fields must tell -/
def codeB (vs : Array Value) (c P : Addr) : Bool := (match (vs[11]? : Option Value) with | some (.ref P') => P' == P | _ => false) && ((match vs.getD 18 .none with | .str _ _ => true | _ => false) && ((match vs.getD 7 .none with | .int _ _ => true | _ => false) &&
  ((match vs.getD 9 .none with | .bool _ => true | _ => false) && ((match vs.getD 10 .none with | .int _ _ => true | _ => false) && c != P))))
theorem codeB_in {K : PySem.W.Frag} {c P : Addr} {d : Option Addr} {vs : Array Value} {sl : Array (Option Value)} (h : K.lookup c = some ⟨.type "code", d, .fields vs, sl⟩) (hb : codeB vs c P = true) : PySem.W.codeHdIn K c P = true := by
  unfold PySem.W.codeHdIn
  rw [h]
  unfold codeB at hb
  simp only [Bool.and_eq_true] at hb ⊢
  obtain ⟨b1, b2, b3, b4, b5, b6⟩ := hb
  exact ⟨⟨⟨⟨⟨b1, b2⟩, b3⟩, b4⟩, b5⟩, b6⟩
set_option maxHeartbeats 4000000 in
theorem all_mk {l : PySem.W.OpenLaw} {w : World} {K : PySem.W.Frag} {h : Heap} {mg : Str → Option Value} {fa f0 f1 f2 f3 f4 f5 f6 f7 f8 f9 f10 f11 f12 f13 f14 f15 f16 f17 f18 f19 f20 f21 f22 f23 f24 f25 f26 f27 f28 f29 f30 f31 f32 f33 f34 f35 f36 f37 f38 : Addr} (X : K.In h) (G : h.Ns mainGlobals mg) (hfa : mg "law" = some (.ref fa)) (own : TabOf K mg "law" h)
    {od0 an0 od1 an1 od2 an2 od3 an3 od4 an4 od5 an5 od6 an6 od7 an7 od8 an8 od9 an9 od10 an10 od11 an11 od12 an12 od13 an13 od14 an14 od15 an15 od16 an16 od17 an17 od18 an18 od19 an19 od20 an20 od21 an21 od22 an22 od23 an23 od24 an24 od25 an25 od26 an26 od27 an27 od28 an28 od29 an29 od30 an30 od31 an31 od32 an32 od33 an33 od34 an34 od35 an35 od36 an36 od37 an37 od38 an38 : Option Addr} {sl0 sl1 sl2 sl3 sl4 sl5 sl6 sl7 sl8 sl9 sl10 sl11 sl12 sl13 sl14 sl15 sl16 sl17 sl18 sl19 sl20 sl21 sl22 sl23 sl24 sl25 sl26 sl27 sl28 sl29 sl30 sl31 sl32 sl33 sl34 sl35 sl36 sl37 sl38 : Array (Option Value)} {oc0 kV0 dc0 pm0 ct0 cd0 oc1 kV1 dc1 pm1 ct1 cd1 oc2 kV2 dc2 pm2 ct2 cd2 oc3 kV3 dc3 pm3 ct3 cd3 oc4 kV4 dc4 pm4 ct4 cd4 oc5 kV5 dc5 pm5 ct5 cd5 oc6 kV6 dc6 pm6 ct6 cd6 oc7 kV7 dc7 pm7 ct7 cd7 oc8 kV8 dc8 pm8 ct8 cd8 oc9 kV9 dc9 pm9 ct9 cd9 oc10 kV10 dc10 pm10 ct10 cd10 oc11 kV11 dc11 pm11 ct11 cd11 oc12 kV12 dc12 pm12 ct12 cd12 oc13 kV13 dc13 pm13 ct13 cd13 oc14 kV14 dc14 pm14 ct14 cd14 oc15 kV15 dc15 pm15 ct15 cd15 oc16 kV16 dc16 pm16 ct16 cd16 oc17 kV17 dc17 pm17 ct17 cd17 oc18 kV18 dc18 pm18 ct18 cd18 oc19 kV19 dc19 pm19 ct19 cd19 oc20 kV20 dc20 pm20 ct20 cd20 oc21 kV21 dc21 pm21 ct21 cd21 oc22 kV22 dc22 pm22 ct22 cd22 oc23 kV23 dc23 pm23 ct23 cd23 oc24 kV24 dc24 pm24 ct24 cd24 oc25 kV25 dc25 pm25 ct25 cd25 oc26 kV26 dc26 pm26 ct26 cd26 oc27 kV27 dc27 pm27 ct27 cd27 oc28 kV28 dc28 pm28 ct28 cd28 oc29 kV29 dc29 pm29 ct29 cd29 oc30 kV30 dc30 pm30 ct30 cd30 oc31 kV31 dc31 pm31 ct31 cd31 oc32 kV32 dc32 pm32 ct32 cd32 oc33 kV33 dc33 pm33 ct33 cd33 oc34 kV34 dc34 pm34 ct34 cd34 oc35 kV35 dc35 pm35 ct35 cd35 oc36 kV36 dc36 pm36 ct36 cd36 oc37 kV37 dc37 pm37 ct37 cd37 oc38 kV38 dc38 pm38 ct38 : Value} {tk0 tk1 tk2 : Tok} {cA : Addr}
    (a0 : PySem.W.nsIn K mainGlobals "is_integer" = some (some (.ref f0))) (l0 : K.lookup f0 = some ⟨oc0, od0, .func (PySem.W.fnOf "is_integer" "is_integer" (defArgs s_is_integer) (defBody s_is_integer) (defScope s_is_integer) .none kV0 dc0 pm0 an0 cd0 ct0), sl0⟩) (c0 : PySem.W.codeIn K cd0 "is_integer" = true) (k0 : PySem.W.keepIn K (.ref f0) = true)
    (a1 : PySem.W.nsIn K mainGlobals "is_between" = some (some (.ref f1))) (l1 : K.lookup f1 = some ⟨oc1, od1, .func (PySem.W.fnOf "is_between" "is_between" (defArgs s_is_between) (defBody s_is_between) (defScope s_is_between) .none kV1 dc1 pm1 an1 cd1 ct1), sl1⟩) (c1 : PySem.W.codeIn K cd1 "is_between" = true) (k1 : PySem.W.keepIn K (.ref f1) = true)
    (a2 : PySem.W.nsIn K mainGlobals "is_number" = some (some (.ref f2))) (l2 : K.lookup f2 = some ⟨oc2, od2, .func (PySem.W.fnOf "is_number" "is_number" (defArgs s_is_number) (defBody s_is_number) (defScope s_is_number) .none kV2 dc2 pm2 an2 cd2 ct2), sl2⟩) (c2 : PySem.W.codeIn K cd2 "is_number" = true) (k2 : PySem.W.keepIn K (.ref f2) = true)
    (a3 : PySem.W.nsIn K mainGlobals "is_plain" = some (some (.ref f3))) (l3 : K.lookup f3 = some ⟨oc3, od3, .func (PySem.W.fnOf "is_plain" "is_plain" (defArgs s_is_plain) (defBody s_is_plain) (defScope s_is_plain) .none kV3 dc3 pm3 an3 cd3 ct3), sl3⟩) (c3 : PySem.W.codeIn K cd3 "is_plain" = true) (k3 : PySem.W.keepIn K (.ref f3) = true)
    (a4 : PySem.W.nsIn K mainGlobals "is_word" = some (some (.ref f4))) (l4 : K.lookup f4 = some ⟨oc4, od4, .func (PySem.W.fnOf "is_word" "is_word" (defArgs s_is_word) (defBody s_is_word) (defScope s_is_word) .none kV4 dc4 pm4 an4 cd4 ct4), sl4⟩) (c4 : PySem.W.codeIn K cd4 "is_word" = true) (k4 : PySem.W.keepIn K (.ref f4) = true)
    (a5 : PySem.W.nsIn K mainGlobals "are_counted" = some (some (.ref f5))) (l5 : K.lookup f5 = some ⟨oc5, od5, .func (PySem.W.fnOf "are_counted" "are_counted" (defArgs s_are_counted) (defBody s_are_counted) (defScope s_are_counted) .none kV5 dc5 pm5 an5 cd5 ct5), sl5⟩) (c5 : PySem.W.codeIn K cd5 "are_counted" = true) (k5 : PySem.W.keepIn K (.ref f5) = true)
    (a6 : PySem.W.nsIn K mainGlobals "is_body" = some (some (.ref f6))) (l6 : K.lookup f6 = some ⟨oc6, od6, .func (PySem.W.fnOf "is_body" "is_body" (defArgs s_is_body) (defBody s_is_body) (defScope s_is_body) .none kV6 dc6 pm6 an6 cd6 ct6), sl6⟩) (c6 : PySem.W.codeIn K cd6 "is_body" = true) (k6 : PySem.W.keepIn K (.ref f6) = true)
    (a7 : PySem.W.nsIn K mainGlobals "is_item" = some (some (.ref f7))) (l7 : K.lookup f7 = some ⟨oc7, od7, .func (PySem.W.fnOf "is_item" "is_item" (defArgs s_is_item) (defBody s_is_item) (defScope s_is_item) .none kV7 dc7 pm7 an7 cd7 ct7), sl7⟩) (c7 : PySem.W.codeIn K cd7 "is_item" = true) (k7 : PySem.W.keepIn K (.ref f7) = true)
    (a8 : PySem.W.nsIn K mainGlobals "is_message" = some (some (.ref f8))) (l8 : K.lookup f8 = some ⟨oc8, od8, .func (PySem.W.fnOf "is_message" "is_message" (defArgs s_is_message) (defBody s_is_message) (defScope s_is_message) .none kV8 dc8 pm8 an8 cd8 ct8), sl8⟩) (c8 : PySem.W.codeIn K cd8 "is_message" = true) (k8 : PySem.W.keepIn K (.ref f8) = true)
    (a9 : PySem.W.nsIn K mainGlobals "is_view" = some (some (.ref f9))) (l9 : K.lookup f9 = some ⟨oc9, od9, .func (PySem.W.fnOf "is_view" "is_view" (defArgs s_is_view) (defBody s_is_view) (defScope s_is_view) .none kV9 dc9 pm9 an9 cd9 ct9), sl9⟩) (c9 : PySem.W.codeIn K cd9 "is_view" = true) (k9 : PySem.W.keepIn K (.ref f9) = true)
    (a10 : PySem.W.nsIn K mainGlobals "view_new" = some (some (.ref f10))) (l10 : K.lookup f10 = some ⟨oc10, od10, .func (PySem.W.fnOf "view_new" "view_new" (defArgs s_view_new) (defBody s_view_new) (defScope s_view_new) .none kV10 dc10 pm10 an10 cd10 ct10), sl10⟩) (c10 : PySem.W.codeIn K cd10 "view_new" = true) (k10 : PySem.W.keepIn K (.ref f10) = true)
    (a11 : PySem.W.nsIn K mainGlobals "asked" = some (some (.ref f11))) (l11 : K.lookup f11 = some ⟨oc11, od11, .func (PySem.W.fnOf "asked" "asked" (defArgs s_asked) (defBody s_asked) (defScope s_asked) .none kV11 dc11 pm11 an11 cd11 ct11), sl11⟩) (c11 : PySem.W.codeIn K cd11 "asked" = true) (k11 : PySem.W.keepIn K (.ref f11) = true)
    (a12 : PySem.W.nsIn K mainGlobals "heard" = some (some (.ref f12))) (l12 : K.lookup f12 = some ⟨oc12, od12, .func (PySem.W.fnOf "heard" "heard" (defArgs s_heard) (defBody s_heard) (defScope s_heard) .none kV12 dc12 pm12 an12 cd12 ct12), sl12⟩) (c12 : PySem.W.codeIn K cd12 "heard" = true) (k12 : PySem.W.keepIn K (.ref f12) = true)
    (a13 : PySem.W.nsIn K mainGlobals "with_message" = some (some (.ref f13))) (l13 : K.lookup f13 = some ⟨oc13, od13, .func (PySem.W.fnOf "with_message" "with_message" (defArgs s_with_message) (defBody s_with_message) (defScope s_with_message) .none kV13 dc13 pm13 an13 cd13 ct13), sl13⟩) (c13 : PySem.W.codeIn K cd13 "with_message" = true) (k13 : PySem.W.keepIn K (.ref f13) = true)
    (a14 : PySem.W.nsIn K mainGlobals "told_upto" = some (some (.ref f14))) (l14 : K.lookup f14 = some ⟨oc14, od14, .func (PySem.W.fnOf "told_upto" "told_upto" (defArgs s_told_upto) (defBody s_told_upto) (defScope s_told_upto) .none kV14 dc14 pm14 an14 cd14 ct14), sl14⟩) (c14 : PySem.W.codeIn K cd14 "told_upto" = true) (k14 : PySem.W.keepIn K (.ref f14) = true)
    (a15 : PySem.W.nsIn K mainGlobals "broken" = some (some (.ref f15))) (l15 : K.lookup f15 = some ⟨oc15, od15, .func (PySem.W.fnOf "broken" "broken" (defArgs s_broken) (defBody s_broken) (defScope s_broken) .none kV15 dc15 pm15 an15 cd15 ct15), sl15⟩) (c15 : PySem.W.codeIn K cd15 "broken" = true) (k15 : PySem.W.keepIn K (.ref f15) = true)
    (a16 : PySem.W.nsIn K mainGlobals "bounds" = some (some (.ref f16))) (l16 : K.lookup f16 = some ⟨oc16, od16, .func (PySem.W.fnOf "bounds" "bounds" (defArgs s_bounds) (defBody s_bounds) (defScope s_bounds) .none kV16 dc16 pm16 an16 cd16 ct16), sl16⟩) (c16 : PySem.W.codeIn K cd16 "bounds" = true) (k16 : PySem.W.keepIn K (.ref f16) = true)
    (a17 : PySem.W.nsIn K mainGlobals "fate" = some (some (.ref f17))) (l17 : K.lookup f17 = some ⟨oc17, od17, .func (PySem.W.fnOf "fate" "fate" (defArgs s_fate) (defBody s_fate) (defScope s_fate) .none kV17 dc17 pm17 an17 cd17 ct17), sl17⟩) (c17 : PySem.W.codeIn K cd17 "fate" = true) (k17 : PySem.W.keepIn K (.ref f17) = true)
    (a18 : PySem.W.nsIn K mainGlobals "_law_dealt" = some (some (.ref f18))) (l18 : K.lookup f18 = some ⟨oc18, od18, .func (PySem.W.fnOf "_law_dealt" "_law_dealt" (defArgs s__law_dealt) (defBody s__law_dealt) (defScope s__law_dealt) .none kV18 dc18 pm18 an18 cd18 ct18), sl18⟩) (c18 : PySem.W.codeIn K cd18 "_law_dealt" = true) (k18 : PySem.W.keepIn K (.ref f18) = true)
    (a19 : PySem.W.nsIn K mainGlobals "_law_draw" = some (some (.ref f19))) (l19 : K.lookup f19 = some ⟨oc19, od19, .func (PySem.W.fnOf "_law_draw" "_law_draw" (defArgs s__law_draw) (defBody s__law_draw) (defScope s__law_draw) .none kV19 dc19 pm19 an19 cd19 ct19), sl19⟩) (c19 : PySem.W.codeIn K cd19 "_law_draw" = true) (k19 : PySem.W.keepIn K (.ref f19) = true)
    (a20 : PySem.W.nsIn K mainGlobals "_law_pick" = some (some (.ref f20))) (l20 : K.lookup f20 = some ⟨oc20, od20, .func (PySem.W.fnOf "_law_pick" "_law_pick" (defArgs s__law_pick) (defBody s__law_pick) (defScope s__law_pick) .none kV20 dc20 pm20 an20 cd20 ct20), sl20⟩) (c20 : PySem.W.codeIn K cd20 "_law_pick" = true) (k20 : PySem.W.keepIn K (.ref f20) = true)
    (a21 : PySem.W.nsIn K mainGlobals "_law_is_whole" = some (some (.ref f21))) (l21 : K.lookup f21 = some ⟨oc21, od21, .func (PySem.W.fnOf "_law_is_whole" "_law_is_whole" (defArgs s__law_is_whole) (defBody s__law_is_whole) (defScope s__law_is_whole) .none kV21 dc21 pm21 an21 cd21 ct21), sl21⟩) (c21 : PySem.W.codeIn K cd21 "_law_is_whole" = true) (k21 : PySem.W.keepIn K (.ref f21) = true)
    (a22 : PySem.W.nsIn K mainGlobals "_law_is_word" = some (some (.ref f22))) (l22 : K.lookup f22 = some ⟨oc22, od22, .func (PySem.W.fnOf "_law_is_word" "_law_is_word" (defArgs s__law_is_word) (defBody s__law_is_word) (defScope s__law_is_word) .none kV22 dc22 pm22 an22 cd22 ct22), sl22⟩) (c22 : PySem.W.codeIn K cd22 "_law_is_word" = true) (k22 : PySem.W.keepIn K (.ref f22) = true)
    (a23 : PySem.W.nsIn K mainGlobals "_law_is_body" = some (some (.ref f23))) (l23 : K.lookup f23 = some ⟨oc23, od23, .func (PySem.W.fnOf "_law_is_body" "_law_is_body" (defArgs s__law_is_body) (defBody s__law_is_body) (defScope s__law_is_body) .none kV23 dc23 pm23 an23 cd23 ct23), sl23⟩) (c23 : PySem.W.codeIn K cd23 "_law_is_body" = true) (k23 : PySem.W.keepIn K (.ref f23) = true)
    (a24 : PySem.W.nsIn K mainGlobals "_law_are_numbers" = some (some (.ref f24))) (l24 : K.lookup f24 = some ⟨oc24, od24, .func (PySem.W.fnOf "_law_are_numbers" "_law_are_numbers" (defArgs s__law_are_numbers) (defBody s__law_are_numbers) (defScope s__law_are_numbers) .none kV24 dc24 pm24 an24 cd24 ct24), sl24⟩) (c24 : PySem.W.codeIn K cd24 "_law_are_numbers" = true) (k24 : PySem.W.keepIn K (.ref f24) = true)
    (a25 : PySem.W.nsIn K mainGlobals "_law_is_seen" = some (some (.ref f25))) (l25 : K.lookup f25 = some ⟨oc25, od25, .func (PySem.W.fnOf "_law_is_seen" "_law_is_seen" (defArgs s__law_is_seen) (defBody s__law_is_seen) (defScope s__law_is_seen) .none kV25 dc25 pm25 an25 cd25 ct25), sl25⟩) (c25 : PySem.W.codeIn K cd25 "_law_is_seen" = true) (k25 : PySem.W.keepIn K (.ref f25) = true)
    (a26 : PySem.W.nsIn K mainGlobals "_law_is_view" = some (some (.ref f26))) (l26 : K.lookup f26 = some ⟨oc26, od26, .func (PySem.W.fnOf "_law_is_view" "_law_is_view" (defArgs s__law_is_view) (defBody s__law_is_view) (defScope s__law_is_view) .none kV26 dc26 pm26 an26 cd26 ct26), sl26⟩) (c26 : PySem.W.codeIn K cd26 "_law_is_view" = true) (k26 : PySem.W.keepIn K (.ref f26) = true)
    (a27 : PySem.W.nsIn K mainGlobals "_law_body" = some (some (.ref f27))) (l27 : K.lookup f27 = some ⟨oc27, od27, .func (PySem.W.fnOf "_law_body" "_law_body" (defArgs s__law_body) (defBody s__law_body) (defScope s__law_body) .none kV27 dc27 pm27 an27 cd27 ct27), sl27⟩) (c27 : PySem.W.codeIn K cd27 "_law_body" = true) (k27 : PySem.W.keepIn K (.ref f27) = true)
    (a28 : PySem.W.nsIn K mainGlobals "_law_word" = some (some (.ref f28))) (l28 : K.lookup f28 = some ⟨oc28, od28, .func (PySem.W.fnOf "_law_word" "_law_word" (defArgs s__law_word) (defBody s__law_word) (defScope s__law_word) .none kV28 dc28 pm28 an28 cd28 ct28), sl28⟩) (c28 : PySem.W.codeIn K cd28 "_law_word" = true) (k28 : PySem.W.keepIn K (.ref f28) = true)
    (a29 : PySem.W.nsIn K mainGlobals "_law_odd" = some (some (.ref f29))) (l29 : K.lookup f29 = some ⟨oc29, od29, .func (PySem.W.fnOf "_law_odd" "_law_odd" (defArgs s__law_odd) (defBody s__law_odd) (defScope s__law_odd) .none kV29 dc29 pm29 an29 cd29 ct29), sl29⟩) (c29 : PySem.W.codeIn K cd29 "_law_odd" = true) (k29 : PySem.W.keepIn K (.ref f29) = true)
    (a30 : PySem.W.nsIn K mainGlobals "_law_low_high" = some (some (.ref f30))) (l30 : K.lookup f30 = some ⟨oc30, od30, .func (PySem.W.fnOf "_law_low_high" "_law_low_high" (defArgs s__law_low_high) (defBody s__law_low_high) (defScope s__law_low_high) .none kV30 dc30 pm30 an30 cd30 ct30), sl30⟩) (c30 : PySem.W.codeIn K cd30 "_law_low_high" = true) (k30 : PySem.W.keepIn K (.ref f30) = true)
    (a31 : PySem.W.nsIn K mainGlobals "_law_fate" = some (some (.ref f31))) (l31 : K.lookup f31 = some ⟨oc31, od31, .func (PySem.W.fnOf "_law_fate" "_law_fate" (defArgs s__law_fate) (defBody s__law_fate) (defScope s__law_fate) .none kV31 dc31 pm31 an31 cd31 ct31), sl31⟩) (c31 : PySem.W.codeIn K cd31 "_law_fate" = true) (k31 : PySem.W.keepIn K (.ref f31) = true)
    (a32 : PySem.W.nsIn K mainGlobals "_law_tried" = some (some (.ref f32))) (l32 : K.lookup f32 = some ⟨oc32, od32, .func (PySem.W.fnOf "_law_tried" "_law_tried" (defArgs s__law_tried) (defBody s__law_tried) (defScope s__law_tried) .none kV32 dc32 pm32 an32 cd32 ct32), sl32⟩) (c32 : PySem.W.codeIn K cd32 "_law_tried" = true) (k32 : PySem.W.keepIn K (.ref f32) = true)
    (a33 : PySem.W.nsIn K mainGlobals "_law_is_news" = some (some (.ref f33))) (l33 : K.lookup f33 = some ⟨oc33, od33, .func (PySem.W.fnOf "_law_is_news" "_law_is_news" (defArgs s__law_is_news) (defBody s__law_is_news) (defScope s__law_is_news) .none kV33 dc33 pm33 an33 cd33 ct33), sl33⟩) (c33 : PySem.W.codeIn K cd33 "_law_is_news" = true) (k33 : PySem.W.keepIn K (.ref f33) = true)
    (a34 : PySem.W.nsIn K mainGlobals "_law_news" = some (some (.ref f34))) (l34 : K.lookup f34 = some ⟨oc34, od34, .func (PySem.W.fnOf "_law_news" "_law_news" (defArgs s__law_news) (defBody s__law_news) (defScope s__law_news) .none kV34 dc34 pm34 an34 cd34 ct34), sl34⟩) (c34 : PySem.W.codeIn K cd34 "_law_news" = true) (k34 : PySem.W.keepIn K (.ref f34) = true)
    (a35 : PySem.W.nsIn K mainGlobals "_law_due" = some (some (.ref f35))) (l35 : K.lookup f35 = some ⟨oc35, od35, .func (PySem.W.fnOf "_law_due" "_law_due" (defArgs s__law_due) (defBody s__law_due) (defScope s__law_due) .none kV35 dc35 pm35 an35 cd35 ct35), sl35⟩) (c35 : PySem.W.codeIn K cd35 "_law_due" = true) (k35 : PySem.W.keepIn K (.ref f35) = true)
    (a36 : PySem.W.nsIn K mainGlobals "_law_drawn" = some (some (.ref f36))) (l36 : K.lookup f36 = some ⟨oc36, od36, .func (PySem.W.fnOf "_law_drawn" "_law_drawn" (defArgs s__law_drawn) (defBody s__law_drawn) (defScope s__law_drawn) .none kV36 dc36 pm36 an36 cd36 ct36), sl36⟩) (c36 : PySem.W.codeIn K cd36 "_law_drawn" = true) (k36 : PySem.W.keepIn K (.ref f36) = true)
    (a37 : PySem.W.nsIn K mainGlobals "_law_is_told" = some (some (.ref f37))) (l37 : K.lookup f37 = some ⟨oc37, od37, .func (PySem.W.fnOf "_law_is_told" "_law_is_told" (defArgs s__law_is_told) (defBody s__law_is_told) (defScope s__law_is_told) .none kV37 dc37 pm37 an37 cd37 ct37), sl37⟩) (c37 : PySem.W.codeIn K cd37 "_law_is_told" = true) (k37 : PySem.W.keepIn K (.ref f37) = true)
    (a38 : PySem.W.nsIn K mainGlobals "law" = some (some (.ref f38))) (l38 : K.lookup f38 = some ⟨oc38, od38, .func (PySem.W.fnOf "law" "law" (defArgs s_law) (defBody s_law) (defScope s_law) .none kV38 dc38 pm38 an38 (.ref cA) ct38), sl38⟩) (c38 : PySem.W.codeIn K (.ref cA) "law" = true) (k38 : PySem.W.keepIn K (.ref f38) = true)
    (z0 : PySem.W.nsIn K mainGlobals "len" = some none)
    (z1 : PySem.W.nsIn K mainGlobals "str" = some none)
    (z2 : PySem.W.nsIn K mainGlobals "int" = some none)
    (z3 : PySem.W.nsIn K mainGlobals "isinstance" = some none)
    (z4 : PySem.W.nsIn K mainGlobals "range" = some none)
    (z5 : PySem.W.nsIn K mainGlobals "tuple" = some none)
    (z6 : PySem.W.nsIn K mainGlobals "list" = some none)
    (z7 : PySem.W.nsIn K mainGlobals "max" = some none)
    (z8 : PySem.W.nsIn K mainGlobals "min" = some none)
    (z9 : PySem.W.nsIn K mainGlobals "sorted" = some none)
    (z10 : PySem.W.nsIn K mainGlobals "repr" = some none)
    (z11 : PySem.W.nsIn K mainGlobals "bool" = some none)
    (z12 : PySem.W.nsIn K mainGlobals "all" = some none)
    (z13 : PySem.W.nsIn K mainGlobals "set" = some none)
    (z14 : PySem.W.nsIn K mainGlobals "ord" = some none)
    (z15 : PySem.W.nsIn K mainGlobals "zip" = some none)
    (x0 : PySem.W.nsIn K mainGlobals "NUMBER_MOST" = some (some (.int 1000000000 tk0)))
    (x1 : PySem.W.nsIn K mainGlobals "WORD_MOST" = some (some (.int 10 tk1)))
    (x2 : PySem.W.nsIn K mainGlobals "BODY_MOST" = some (some (.int 150 tk2)))
    {C0 fI0 : Addr} {nm0 qn0 : Str} {Nn0 : Addr} {bs0 bm0 : List Value} {sn0 : List Str} {su0 : List Value} {ab0 : Bool} {co0 : Option Bool} {dd0 : Option Addr} {qa0 qb0 qc0 qd0 qe0 : Option Value} {cC0 : ClassData} {oI0 kI0 dI0 pI0 cI0 tI0 : Value} {odI0 anI0 : Option Addr} {slI0 : Array (Option Value)}
    (e0_0 : PySem.W.nsIn K mainGlobals "BadBody" = some (some (.ref C0))) (e0_1 : K.lookup C0 = some (excClassObj nm0 qn0 C0 Nn0 bs0 bm0 true sn0 su0 ab0 co0 dd0 qa0 qb0 qc0 qd0 qe0 "Exception.__new__")) (e0_2 : PySem.W.excTail exT bm0 = true) (e0_3 : PySem.W.findIn K (.ref C0) "__setattr__" = some (some (.builtin "object.__setattr__")))
    (e0_4 : PySem.W.subIn K (.ref C0) (.type "BaseException") = some true) (e0_5 : PySem.W.typeIn K (.ref C0) = some (.type "type")) (e0_6 : PySem.W.keepIn K (.ref C0) = true) (e0_7 : PySem.W.findIn K (.ref C0) "__getattribute__" = some (some (.builtin "BaseException.__getattribute__"))) (e0_8 : PySem.W.findIn K (.ref C0) "__getattr__" = some none)
    (e0_9 : PySem.W.hasDictIn K C0 = true) (e0_10 : PySem.W.findIn K (.ref C0) "thing" = some none) (e0_11 : PySem.W.findIn K (.ref C0) "__init__" = some (some (.ref fI0))) (e0_12 : PySem.W.typeIn K (.ref fI0) = some (.type "function")) (e0_13 : PySem.W.clsIn K C0 = some cC0) (e0_14 : PySem.W.subIn K (.ref C0) (.ref C0) = some true)
    (e0_15 : K.lookup fI0 = some ⟨oI0, odI0, .func (PySem.W.fnOf "__init__" "BadBody.__init__" (defArgs s_BadBody) (defBody s_BadBody) (defScope s_BadBody) .none kI0 dI0 pI0 anI0 cI0 tI0), slI0⟩) (e0_16 : PySem.W.codeIn K cI0 "BadBody.__init__" = true) (e0_17 : PySem.W.keepIn K (.ref fI0) = true)
    {C1 fI1 : Addr} {nm1 qn1 : Str} {Nn1 : Addr} {bs1 bm1 : List Value} {sn1 : List Str} {su1 : List Value} {ab1 : Bool} {co1 : Option Bool} {dd1 : Option Addr} {qa1 qb1 qc1 qd1 qe1 : Option Value} {cC1 : ClassData} {oI1 kI1 dI1 pI1 cI1 tI1 : Value} {odI1 anI1 : Option Addr} {slI1 : Array (Option Value)}
    (e1_0 : PySem.W.nsIn K mainGlobals "BadMessage" = some (some (.ref C1))) (e1_1 : K.lookup C1 = some (excClassObj nm1 qn1 C1 Nn1 bs1 bm1 true sn1 su1 ab1 co1 dd1 qa1 qb1 qc1 qd1 qe1 "Exception.__new__")) (e1_2 : PySem.W.excTail exT bm1 = true) (e1_3 : PySem.W.findIn K (.ref C1) "__setattr__" = some (some (.builtin "object.__setattr__")))
    (e1_4 : PySem.W.subIn K (.ref C1) (.type "BaseException") = some true) (e1_5 : PySem.W.typeIn K (.ref C1) = some (.type "type")) (e1_6 : PySem.W.keepIn K (.ref C1) = true) (e1_7 : PySem.W.findIn K (.ref C1) "__getattribute__" = some (some (.builtin "BaseException.__getattribute__"))) (e1_8 : PySem.W.findIn K (.ref C1) "__getattr__" = some none)
    (e1_9 : PySem.W.hasDictIn K C1 = true) (e1_10 : PySem.W.findIn K (.ref C1) "thing" = some none) (e1_11 : PySem.W.findIn K (.ref C1) "__init__" = some (some (.ref fI1))) (e1_12 : PySem.W.typeIn K (.ref fI1) = some (.type "function")) (e1_13 : PySem.W.clsIn K C1 = some cC1) (e1_14 : PySem.W.subIn K (.ref C1) (.ref C1) = some true)
    (e1_15 : K.lookup fI1 = some ⟨oI1, odI1, .func (PySem.W.fnOf "__init__" "BadMessage.__init__" (defArgs s_BadMessage) (defBody s_BadMessage) (defScope s_BadMessage) .none kI1 dI1 pI1 anI1 cI1 tI1), slI1⟩) (e1_16 : PySem.W.codeIn K cI1 "BadMessage.__init__" = true) (e1_17 : PySem.W.keepIn K (.ref fI1) = true)
    {C2 fI2 : Addr} {nm2 qn2 : Str} {Nn2 : Addr} {bs2 bm2 : List Value} {sn2 : List Str} {su2 : List Value} {ab2 : Bool} {co2 : Option Bool} {dd2 : Option Addr} {qa2 qb2 qc2 qd2 qe2 : Option Value} {cC2 : ClassData} {oI2 kI2 dI2 pI2 cI2 tI2 : Value} {odI2 anI2 : Option Addr} {slI2 : Array (Option Value)}
    (e2_0 : PySem.W.nsIn K mainGlobals "BadNews" = some (some (.ref C2))) (e2_1 : K.lookup C2 = some (excClassObj nm2 qn2 C2 Nn2 bs2 bm2 true sn2 su2 ab2 co2 dd2 qa2 qb2 qc2 qd2 qe2 "Exception.__new__")) (e2_2 : PySem.W.excTail exT bm2 = true) (e2_3 : PySem.W.findIn K (.ref C2) "__setattr__" = some (some (.builtin "object.__setattr__")))
    (e2_4 : PySem.W.subIn K (.ref C2) (.type "BaseException") = some true) (e2_5 : PySem.W.typeIn K (.ref C2) = some (.type "type")) (e2_6 : PySem.W.keepIn K (.ref C2) = true) (e2_7 : PySem.W.findIn K (.ref C2) "__getattribute__" = some (some (.builtin "BaseException.__getattribute__"))) (e2_8 : PySem.W.findIn K (.ref C2) "__getattr__" = some none)
    (e2_9 : PySem.W.hasDictIn K C2 = true) (e2_10 : PySem.W.findIn K (.ref C2) "thing" = some none) (e2_11 : PySem.W.findIn K (.ref C2) "__init__" = some (some (.ref fI2))) (e2_12 : PySem.W.typeIn K (.ref fI2) = some (.type "function")) (e2_13 : PySem.W.clsIn K C2 = some cC2) (e2_14 : PySem.W.subIn K (.ref C2) (.ref C2) = some true)
    (e2_15 : K.lookup fI2 = some ⟨oI2, odI2, .func (PySem.W.fnOf "__init__" "BadNews.__init__" (defArgs s_BadNews) (defBody s_BadNews) (defScope s_BadNews) .none kI2 dI2 pI2 anI2 cI2 tI2), slI2⟩) (e2_16 : PySem.W.codeIn K cI2 "BadNews.__init__" = true) (e2_17 : PySem.W.keepIn K (.ref fI2) = true)
    {C3 fI3 : Addr} {nm3 qn3 : Str} {Nn3 : Addr} {bs3 bm3 : List Value} {sn3 : List Str} {su3 : List Value} {ab3 : Bool} {co3 : Option Bool} {dd3 : Option Addr} {qa3 qb3 qc3 qd3 qe3 : Option Value} {cC3 : ClassData} {oI3 kI3 dI3 pI3 cI3 tI3 : Value} {odI3 anI3 : Option Addr} {slI3 : Array (Option Value)}
    (e3_0 : PySem.W.nsIn K mainGlobals "BadNumber" = some (some (.ref C3))) (e3_1 : K.lookup C3 = some (excClassObj nm3 qn3 C3 Nn3 bs3 bm3 true sn3 su3 ab3 co3 dd3 qa3 qb3 qc3 qd3 qe3 "Exception.__new__")) (e3_2 : PySem.W.excTail exT bm3 = true) (e3_3 : PySem.W.findIn K (.ref C3) "__setattr__" = some (some (.builtin "object.__setattr__")))
    (e3_4 : PySem.W.subIn K (.ref C3) (.type "BaseException") = some true) (e3_5 : PySem.W.typeIn K (.ref C3) = some (.type "type")) (e3_6 : PySem.W.keepIn K (.ref C3) = true) (e3_7 : PySem.W.findIn K (.ref C3) "__getattribute__" = some (some (.builtin "BaseException.__getattribute__"))) (e3_8 : PySem.W.findIn K (.ref C3) "__getattr__" = some none)
    (e3_9 : PySem.W.hasDictIn K C3 = true) (e3_10 : PySem.W.findIn K (.ref C3) "thing" = some none) (e3_11 : PySem.W.findIn K (.ref C3) "__init__" = some (some (.ref fI3))) (e3_12 : PySem.W.typeIn K (.ref fI3) = some (.type "function")) (e3_13 : PySem.W.clsIn K C3 = some cC3) (e3_14 : PySem.W.subIn K (.ref C3) (.ref C3) = some true)
    (e3_15 : K.lookup fI3 = some ⟨oI3, odI3, .func (PySem.W.fnOf "__init__" "BadNumber.__init__" (defArgs s_BadNumber) (defBody s_BadNumber) (defScope s_BadNumber) .none kI3 dI3 pI3 anI3 cI3 tI3), slI3⟩) (e3_16 : PySem.W.codeIn K cI3 "BadNumber.__init__" = true) (e3_17 : PySem.W.keepIn K (.ref fI3) = true)
    {C4 fI4 : Addr} {nm4 qn4 : Str} {Nn4 : Addr} {bs4 bm4 : List Value} {sn4 : List Str} {su4 : List Value} {ab4 : Bool} {co4 : Option Bool} {dd4 : Option Addr} {qa4 qb4 qc4 qd4 qe4 : Option Value} {cC4 : ClassData} {oI4 kI4 dI4 pI4 cI4 tI4 : Value} {odI4 anI4 : Option Addr} {slI4 : Array (Option Value)}
    (e4_0 : PySem.W.nsIn K mainGlobals "Broken" = some (some (.ref C4))) (e4_1 : K.lookup C4 = some (excClassObj nm4 qn4 C4 Nn4 bs4 bm4 true sn4 su4 ab4 co4 dd4 qa4 qb4 qc4 qd4 qe4 "Exception.__new__")) (e4_2 : PySem.W.excTail exT bm4 = true) (e4_3 : PySem.W.findIn K (.ref C4) "__setattr__" = some (some (.builtin "object.__setattr__")))
    (e4_4 : PySem.W.subIn K (.ref C4) (.type "BaseException") = some true) (e4_5 : PySem.W.typeIn K (.ref C4) = some (.type "type")) (e4_6 : PySem.W.keepIn K (.ref C4) = true) (e4_7 : PySem.W.findIn K (.ref C4) "__getattribute__" = some (some (.builtin "BaseException.__getattribute__"))) (e4_8 : PySem.W.findIn K (.ref C4) "__getattr__" = some none)
    (e4_9 : PySem.W.hasDictIn K C4 = true) (e4_10 : PySem.W.findIn K (.ref C4) "thing" = some none) (e4_11 : PySem.W.findIn K (.ref C4) "__init__" = some (some (.ref fI4))) (e4_12 : PySem.W.typeIn K (.ref fI4) = some (.type "function")) (e4_13 : PySem.W.clsIn K C4 = some cC4) (e4_14 : PySem.W.subIn K (.ref C4) (.ref C4) = some true)
    (e4_15 : K.lookup fI4 = some ⟨oI4, odI4, .func (PySem.W.fnOf "__init__" "Broken.__init__" (defArgs s_Broken) (defBody s_Broken) (defScope s_Broken) .none kI4 dI4 pI4 anI4 cI4 tI4), slI4⟩) (e4_16 : PySem.W.codeIn K cI4 "Broken.__init__" = true) (e4_17 : PySem.W.keepIn K (.ref fI4) = true)
    {C5 fI5 : Addr} {nm5 qn5 : Str} {Nn5 : Addr} {bs5 bm5 : List Value} {sn5 : List Str} {su5 : List Value} {ab5 : Bool} {co5 : Option Bool} {dd5 : Option Addr} {qa5 qb5 qc5 qd5 qe5 : Option Value} {cC5 : ClassData} {oI5 kI5 dI5 pI5 cI5 tI5 : Value} {odI5 anI5 : Option Addr} {slI5 : Array (Option Value)}
    (e5_0 : PySem.W.nsIn K mainGlobals "BadView" = some (some (.ref C5))) (e5_1 : K.lookup C5 = some (excClassObj nm5 qn5 C5 Nn5 bs5 bm5 true sn5 su5 ab5 co5 dd5 qa5 qb5 qc5 qd5 qe5 "Exception.__new__")) (e5_2 : PySem.W.excTail exT bm5 = true) (e5_3 : PySem.W.findIn K (.ref C5) "__setattr__" = some (some (.builtin "object.__setattr__")))
    (e5_4 : PySem.W.subIn K (.ref C5) (.type "BaseException") = some true) (e5_5 : PySem.W.typeIn K (.ref C5) = some (.type "type")) (e5_6 : PySem.W.keepIn K (.ref C5) = true) (e5_7 : PySem.W.findIn K (.ref C5) "__getattribute__" = some (some (.builtin "BaseException.__getattribute__"))) (e5_8 : PySem.W.findIn K (.ref C5) "__getattr__" = some none)
    (e5_9 : PySem.W.hasDictIn K C5 = true) (e5_10 : PySem.W.findIn K (.ref C5) "thing" = some none) (e5_11 : PySem.W.findIn K (.ref C5) "__init__" = some (some (.ref fI5))) (e5_12 : PySem.W.typeIn K (.ref fI5) = some (.type "function")) (e5_13 : PySem.W.clsIn K C5 = some cC5) (e5_14 : PySem.W.subIn K (.ref C5) (.ref C5) = some true)
    (e5_15 : K.lookup fI5 = some ⟨oI5, odI5, .func (PySem.W.fnOf "__init__" "BadView.__init__" (defArgs s_BadView) (defBody s_BadView) (defScope s_BadView) .none kI5 dI5 pI5 anI5 cI5 tI5), slI5⟩) (e5_16 : PySem.W.codeIn K cI5 "BadView.__init__" = true) (e5_17 : PySem.W.keepIn K (.ref fI5) = true)
    {CG : Addr} {cdG : ClassData} (xg0 : PySem.W.nsIn K mainGlobals "GateError" = some (some (.ref CG))) (xg1 : PySem.W.typeIn K (.ref CG) = some (.type "type")) (xg2 : PySem.W.clsIn K CG = some cdG) (xg3 : PySem.W.subIn K (.ref CG) (.ref CG) = some true)
    (xs0 : PySem.W.specialIn K (.builtin "object.__class__") "__get__" = some (some (.builtin "getset_descriptor.__get__"))) (xs1 : PySem.W.takesIn K (.builtin "object.__class__") = some true)
    (xc0 : PySem.W.findIn K (.ref C0) "__class__" = some (some (.builtin "object.__class__"))) (xm0 : PySem.W.mroIn K C0 (.type "object") = some true) (xh0 : PySem.W.subIn K (.ref C0) (.ref CG) = some true) (xp0_1 : PySem.W.subIn K (.ref C0) (.ref C1) = some false) (xp0_2 : PySem.W.subIn K (.ref C0) (.ref C2) = some false) (xp0_3 : PySem.W.subIn K (.ref C0) (.ref C3) = some false) (xp0_4 : PySem.W.subIn K (.ref C0) (.ref C4) = some false)
    (xc1 : PySem.W.findIn K (.ref C1) "__class__" = some (some (.builtin "object.__class__"))) (xm1 : PySem.W.mroIn K C1 (.type "object") = some true) (xh1 : PySem.W.subIn K (.ref C1) (.ref CG) = some true) (xp1_0 : PySem.W.subIn K (.ref C1) (.ref C0) = some false) (xp1_2 : PySem.W.subIn K (.ref C1) (.ref C2) = some false) (xp1_3 : PySem.W.subIn K (.ref C1) (.ref C3) = some false) (xp1_4 : PySem.W.subIn K (.ref C1) (.ref C4) = some false)
    (xc2 : PySem.W.findIn K (.ref C2) "__class__" = some (some (.builtin "object.__class__"))) (xm2 : PySem.W.mroIn K C2 (.type "object") = some true) (xh2 : PySem.W.subIn K (.ref C2) (.ref CG) = some true) (xp2_0 : PySem.W.subIn K (.ref C2) (.ref C0) = some false) (xp2_1 : PySem.W.subIn K (.ref C2) (.ref C1) = some false) (xp2_3 : PySem.W.subIn K (.ref C2) (.ref C3) = some false) (xp2_4 : PySem.W.subIn K (.ref C2) (.ref C4) = some false)
    (xc3 : PySem.W.findIn K (.ref C3) "__class__" = some (some (.builtin "object.__class__"))) (xm3 : PySem.W.mroIn K C3 (.type "object") = some true) (xh3 : PySem.W.subIn K (.ref C3) (.ref CG) = some true) (xp3_0 : PySem.W.subIn K (.ref C3) (.ref C0) = some false) (xp3_1 : PySem.W.subIn K (.ref C3) (.ref C1) = some false) (xp3_2 : PySem.W.subIn K (.ref C3) (.ref C2) = some false) (xp3_4 : PySem.W.subIn K (.ref C3) (.ref C4) = some false)
    (xc4 : PySem.W.findIn K (.ref C4) "__class__" = some (some (.builtin "object.__class__"))) (xm4 : PySem.W.mroIn K C4 (.type "object") = some true) (xh4 : PySem.W.subIn K (.ref C4) (.ref CG) = some true) (xp4_0 : PySem.W.subIn K (.ref C4) (.ref C0) = some false) (xp4_1 : PySem.W.subIn K (.ref C4) (.ref C1) = some false) (xp4_2 : PySem.W.subIn K (.ref C4) (.ref C2) = some false) (xp4_3 : PySem.W.subIn K (.ref C4) (.ref C3) = some false)
    {dB : Option Addr} {slA : Array (Option Value)} {vsA : Array Value} {Pt : Addr} (m0 : K.lookup cA = some ⟨.type "code", dB, .fields vsA, slA⟩) (m1 : (vsA[11]? : Option Value) = some (.ref Pt)) (m2 : codeB vsA cA Pt = true) (m3 : K.lookup Pt = none)
    {odW : Option Addr} {itW : Array Value} {nW nF : Nat} {slW : Array (Option Value)} {Hd Fm : Addr} {es : Array DictEntry}
    {t0 t1 t2 t3 t4 t5 t6 t7 t8 : Addr} {do0 do1 do2 do3 do4 do5 do6 do7 do8 : Option Addr} {is0 is1 is2 is3 is4 is5 is6 is7 is8 : Array Value} {nn0 nn1 nn2 nn3 nn4 nn5 nn6 nn7 nn8 : Nat} {sm0 sm1 sm2 sm3 sm4 sm5 sm6 sm7 sm8 : Array (Option Value)}
    (w0 : PySem.W.nsIn K mainGlobals "HEARD" = some (some (.ref Hd))) (w1 : K.lookup Hd = some ⟨.type "tuple", odW, .seq itW nW, slW⟩) (w2 : itW.size ≤ sizeLine ∧ Vals [.str "hello", .str "answer", .str "away", .str "well"] itW.toList)
    (g0 : PySem.W.nsIn K mainGlobals "FORMS" = some (some (.ref Fm))) (g1 : K.lookup Fm = some ⟨.type "dict", none, .dict es nF, #[]⟩) (g2 : PySem.W.KeysLit w.params es.toList) (g3 : (Fm == sysModules) = false)
    (g4 : es.toList.map entS = [some (Str.ofString "ask", t0), some (Str.ofString "past", t1), some (Str.ofString "look", t2), some (Str.ofString "hello", t3), some (Str.ofString "answer", t4), some (Str.ofString "upto", t5), some (Str.ofString "forgot", t6), some (Str.ofString "well", t7), some (Str.ofString "away", t8)])
    (h0 : K.lookup t0 = some ⟨.type "tuple", do0, .seq is0 nn0, sm0⟩) (v0 : is0.size ≤ sizeLine ∧ Vals [.str "count", .str "body"] is0.toList)
    (h1 : K.lookup t1 = some ⟨.type "tuple", do1, .seq is1 nn1, sm1⟩) (v1 : is1.size ≤ sizeLine ∧ Vals [.str "number", .str "number"] is1.toList)
    (h2 : K.lookup t2 = some ⟨.type "tuple", do2, .seq is2 nn2, sm2⟩) (v2 : is2.size ≤ sizeLine ∧ Vals [] is2.toList)
    (h3 : K.lookup t3 = some ⟨.type "tuple", do3, .seq is3 nn3, sm3⟩) (v3 : is3.size ≤ sizeLine ∧ Vals [.str "number"] is3.toList)
    (h4 : K.lookup t4 = some ⟨.type "tuple", do4, .seq is4 nn4, sm4⟩) (v4 : is4.size ≤ sizeLine ∧ Vals [.str "count", .str "body"] is4.toList)
    (h5 : K.lookup t5 = some ⟨.type "tuple", do5, .seq is5 nn5, sm5⟩) (v5 : is5.size ≤ sizeLine ∧ Vals [.str "number", .str "number"] is5.toList)
    (h6 : K.lookup t6 = some ⟨.type "tuple", do6, .seq is6 nn6, sm6⟩) (v6 : is6.size ≤ sizeLine ∧ Vals [.str "number"] is6.toList)
    (h7 : K.lookup t7 = some ⟨.type "tuple", do7, .seq is7 nn7, sm7⟩) (v7 : is7.size ≤ sizeLine ∧ Vals [] is7.toList)
    (h8 : K.lookup t8 = some ⟨.type "tuple", do8, .seq is8 nn8, sm8⟩) (v8 : is8.size ≤ sizeLine ∧ Vals [.str "number"] is8.toList)
    :
    ∃ (fd : FuncData) (cA Pt : Addr), h.get? Pt = some { cls := .none, data := .fields #[] } ∧ K.lookup Pt = none ∧ PySem.W.codeHdIn K cA Pt = true ∧ (∀ (s : Shared) (v : Value), BindsTo s fd ⟨[v], []⟩ [("_law_script", v)]) ∧
      ∀ base : Heap, K.In base → base.Ns mainGlobals mg → LamX.TabB base mg cA Pt → FnG l.prog w K mg base 9 fa fd ["_law_script"] (spLaw Pt K) := by
  have e := hfa.symm.trans (PySem.W.mg_of X G a38)
  cases e
  have B : Blt mg := ⟨PySem.W.mg_none_of X G z0, PySem.W.mg_none_of X G z1, PySem.W.mg_none_of X G z2, PySem.W.mg_none_of X G z3, PySem.W.mg_none_of X G z4, PySem.W.mg_none_of X G z5, PySem.W.mg_none_of X G z6, PySem.W.mg_none_of X G z7, PySem.W.mg_none_of X G z8, PySem.W.mg_none_of X G z9, PySem.W.mg_none_of X G z10, PySem.W.mg_none_of X G z11, PySem.W.mg_none_of X G z12, PySem.W.mg_none_of X G z13, PySem.W.mg_none_of X G z14, PySem.W.mg_none_of X G z15⟩
  have Cn : Con mg tk0 tk1 tk2 := ⟨B, PySem.W.mg_of X G x0, PySem.W.mg_of X G x1, PySem.W.mg_of X G x2⟩
  have U0 := fun_mk (st := s_is_integer) l0 c0 k0
  have b0 := U0.binds (ps := ["thing"]) fun _ _ _ _ _ _ us hl => match us, hl with | [_], _ => rfl
  have F0 : Fn K mg "is_integer" s_is_integer ["thing"] _ _ := ⟨U0, b0, PySem.W.mg_of X G a0⟩
  have U1 := fun_mk (st := s_is_between) l1 c1 k1
  have b1 := U1.binds (ps := ["thing", "least", "most"]) fun _ _ _ _ _ _ us hl => match us, hl with | [_, _, _], _ => rfl
  have F1 : Fn K mg "is_between" s_is_between ["thing", "least", "most"] _ _ := ⟨U1, b1, PySem.W.mg_of X G a1⟩
  have U2 := fun_mk (st := s_is_number) l2 c2 k2
  have b2 := U2.binds (ps := ["thing"]) fun _ _ _ _ _ _ us hl => match us, hl with | [_], _ => rfl
  have F2 : Fn K mg "is_number" s_is_number ["thing"] _ _ := ⟨U2, b2, PySem.W.mg_of X G a2⟩
  have U3 := fun_mk (st := s_is_plain) l3 c3 k3
  have b3 := U3.binds (ps := ["string"]) fun _ _ _ _ _ _ us hl => match us, hl with | [_], _ => rfl
  have F3 : Fn K mg "is_plain" s_is_plain ["string"] _ _ := ⟨U3, b3, PySem.W.mg_of X G a3⟩
  have U4 := fun_mk (st := s_is_word) l4 c4 k4
  have b4 := U4.binds (ps := ["thing"]) fun _ _ _ _ _ _ us hl => match us, hl with | [_], _ => rfl
  have F4 : Fn K mg "is_word" s_is_word ["thing"] _ _ := ⟨U4, b4, PySem.W.mg_of X G a4⟩
  have U5 := fun_mk (st := s_are_counted) l5 c5 k5
  have b5 := U5.binds (ps := ["thing", "most"]) fun _ _ _ _ _ _ us hl => match us, hl with | [_, _], _ => rfl
  have F5 : Fn K mg "are_counted" s_are_counted ["thing", "most"] _ _ := ⟨U5, b5, PySem.W.mg_of X G a5⟩
  have U6 := fun_mk (st := s_is_body) l6 c6 k6
  have b6 := U6.binds (ps := ["thing"]) fun _ _ _ _ _ _ us hl => match us, hl with | [_], _ => rfl
  have F6 : Fn K mg "is_body" s_is_body ["thing"] _ _ := ⟨U6, b6, PySem.W.mg_of X G a6⟩
  have U7 := fun_mk (st := s_is_item) l7 c7 k7
  have b7 := U7.binds (ps := ["kind", "thing"]) fun _ _ _ _ _ _ us hl => match us, hl with | [_, _], _ => rfl
  have F7 : Fn K mg "is_item" s_is_item ["kind", "thing"] _ _ := ⟨U7, b7, PySem.W.mg_of X G a7⟩
  have U8 := fun_mk (st := s_is_message) l8 c8 k8
  have b8 := U8.binds (ps := ["thing"]) fun _ _ _ _ _ _ us hl => match us, hl with | [_], _ => rfl
  have F8 : Fn K mg "is_message" s_is_message ["thing"] _ _ := ⟨U8, b8, PySem.W.mg_of X G a8⟩
  have U9 := fun_mk (st := s_is_view) l9 c9 k9
  have b9 := U9.binds (ps := ["thing"]) fun _ _ _ _ _ _ us hl => match us, hl with | [_], _ => rfl
  have F9 : Fn K mg "is_view" s_is_view ["thing"] _ _ := ⟨U9, b9, PySem.W.mg_of X G a9⟩
  have U10 := fun_mk (st := s_view_new) l10 c10 k10
  have b10 := U10.binds (ps := ["house"]) fun _ _ _ _ _ _ us hl => match us, hl with | [_], _ => rfl
  have F10 : Fn K mg "view_new" s_view_new ["house"] _ _ := ⟨U10, b10, PySem.W.mg_of X G a10⟩
  have U11 := fun_mk (st := s_asked) l11 c11 k11
  have b11 := U11.binds (ps := ["view", "body"]) fun _ _ _ _ _ _ us hl => match us, hl with | [_, _], _ => rfl
  have F11 : Fn K mg "asked" s_asked ["view", "body"] _ _ := ⟨U11, b11, PySem.W.mg_of X G a11⟩
  have U12 := fun_mk (st := s_heard) l12 c12 k12
  have b12 := U12.binds (ps := ["view", "message"]) fun _ _ _ _ _ _ us hl => match us, hl with | [_, _], _ => rfl
  have F12 : Fn K mg "heard" s_heard ["view", "message"] _ _ := ⟨U12, b12, PySem.W.mg_of X G a12⟩
  have U13 := fun_mk (st := s_with_message) l13 c13 k13
  have b13 := U13.binds (ps := ["view", "message"]) fun _ _ _ _ _ _ us hl => match us, hl with | [_, _], _ => rfl
  have F13 : Fn K mg "with_message" s_with_message ["view", "message"] _ _ := ⟨U13, b13, PySem.W.mg_of X G a13⟩
  have U14 := fun_mk (st := s_told_upto) l14 c14 k14
  have b14 := U14.binds (ps := ["view", "number"]) fun _ _ _ _ _ _ us hl => match us, hl with | [_, _], _ => rfl
  have F14 : Fn K mg "told_upto" s_told_upto ["view", "number"] _ _ := ⟨U14, b14, PySem.W.mg_of X G a14⟩
  have U15 := fun_mk (st := s_broken) l15 c15 k15
  have b15 := U15.binds (ps := ["view"]) fun _ _ _ _ _ _ us hl => match us, hl with | [_], _ => rfl
  have F15 : Fn K mg "broken" s_broken ["view"] _ _ := ⟨U15, b15, PySem.W.mg_of X G a15⟩
  have U16 := fun_mk (st := s_bounds) l16 c16 k16
  have b16 := U16.binds (ps := ["view"]) fun _ _ _ _ _ _ us hl => match us, hl with | [_], _ => rfl
  have F16 : Fn K mg "bounds" s_bounds ["view"] _ _ := ⟨U16, b16, PySem.W.mg_of X G a16⟩
  have U17 := fun_mk (st := s_fate) l17 c17 k17
  have b17 := U17.binds (ps := ["view", "number"]) fun _ _ _ _ _ _ us hl => match us, hl with | [_, _], _ => rfl
  have F17 : Fn K mg "fate" s_fate ["view", "number"] _ _ := ⟨U17, b17, PySem.W.mg_of X G a17⟩
  have U18 := fun_mk (st := s__law_dealt) l18 c18 k18
  have b18 := U18.binds (ps := ["_law_script"]) fun _ _ _ _ _ _ us hl => match us, hl with | [_], _ => rfl
  have F18 : Fn K mg "_law_dealt" s__law_dealt ["_law_script"] _ _ := ⟨U18, b18, PySem.W.mg_of X G a18⟩
  have U19 := fun_mk (st := s__law_draw) l19 c19 k19
  have b19 := U19.binds (ps := ["_law_deck", "_law_many"]) fun _ _ _ _ _ _ us hl => match us, hl with | [_, _], _ => rfl
  have F19 : Fn K mg "_law_draw" s__law_draw ["_law_deck", "_law_many"] _ _ := ⟨U19, b19, PySem.W.mg_of X G a19⟩
  have U20 := fun_mk (st := s__law_pick) l20 c20 k20
  have b20 := U20.binds (ps := ["_law_deck", "_law_some"]) fun _ _ _ _ _ _ us hl => match us, hl with | [_, _], _ => rfl
  have F20 : Fn K mg "_law_pick" s__law_pick ["_law_deck", "_law_some"] _ _ := ⟨U20, b20, PySem.W.mg_of X G a20⟩
  have U21 := fun_mk (st := s__law_is_whole) l21 c21 k21
  have b21 := U21.binds (ps := ["_law_thing", "_law_low", "_law_high"]) fun _ _ _ _ _ _ us hl => match us, hl with | [_, _, _], _ => rfl
  have F21 : Fn K mg "_law_is_whole" s__law_is_whole ["_law_thing", "_law_low", "_law_high"] _ _ := ⟨U21, b21, PySem.W.mg_of X G a21⟩
  have U22 := fun_mk (st := s__law_is_word) l22 c22 k22
  have b22 := U22.binds (ps := ["_law_thing"]) fun _ _ _ _ _ _ us hl => match us, hl with | [_], _ => rfl
  have F22 : Fn K mg "_law_is_word" s__law_is_word ["_law_thing"] _ _ := ⟨U22, b22, PySem.W.mg_of X G a22⟩
  have U23 := fun_mk (st := s__law_is_body) l23 c23 k23
  have b23 := U23.binds (ps := ["_law_thing"]) fun _ _ _ _ _ _ us hl => match us, hl with | [_], _ => rfl
  have F23 : Fn K mg "_law_is_body" s__law_is_body ["_law_thing"] _ _ := ⟨U23, b23, PySem.W.mg_of X G a23⟩
  have U24 := fun_mk (st := s__law_are_numbers) l24 c24 k24
  have b24 := U24.binds (ps := ["_law_thing", "_law_high"]) fun _ _ _ _ _ _ us hl => match us, hl with | [_, _], _ => rfl
  have F24 : Fn K mg "_law_are_numbers" s__law_are_numbers ["_law_thing", "_law_high"] _ _ := ⟨U24, b24, PySem.W.mg_of X G a24⟩
  have U25 := fun_mk (st := s__law_is_seen) l25 c25 k25
  have b25 := U25.binds (ps := ["_law_boot", "_law_many", "_law_replied", "_law_away", "_law_upto"]) fun _ _ _ _ _ _ us hl => match us, hl with | [_, _, _, _, _], _ => rfl
  have F25 : Fn K mg "_law_is_seen" s__law_is_seen ["_law_boot", "_law_many", "_law_replied", "_law_away", "_law_upto"] _ _ := ⟨U25, b25, PySem.W.mg_of X G a25⟩
  have U26 := fun_mk (st := s__law_is_view) l26 c26 k26
  have b26 := U26.binds (ps := ["_law_thing"]) fun _ _ _ _ _ _ us hl => match us, hl with | [_], _ => rfl
  have F26 : Fn K mg "_law_is_view" s__law_is_view ["_law_thing"] _ _ := ⟨U26, b26, PySem.W.mg_of X G a26⟩
  have U27 := fun_mk (st := s__law_body) l27 c27 k27
  have b27 := U27.binds (ps := ["_law_deck"]) fun _ _ _ _ _ _ us hl => match us, hl with | [_], _ => rfl
  have F27 : Fn K mg "_law_body" s__law_body ["_law_deck"] _ _ := ⟨U27, b27, PySem.W.mg_of X G a27⟩
  have U28 := fun_mk (st := s__law_word) l28 c28 k28
  have b28 := U28.binds (ps := ["_law_deck"]) fun _ _ _ _ _ _ us hl => match us, hl with | [_], _ => rfl
  have F28 : Fn K mg "_law_word" s__law_word ["_law_deck"] _ _ := ⟨U28, b28, PySem.W.mg_of X G a28⟩
  have U29 := fun_mk (st := s__law_odd) l29 c29 k29
  have b29 := U29.binds (ps := ["_law_deck"]) fun _ _ _ _ _ _ us hl => match us, hl with | [_], _ => rfl
  have F29 : Fn K mg "_law_odd" s__law_odd ["_law_deck"] _ _ := ⟨U29, b29, PySem.W.mg_of X G a29⟩
  have U30 := fun_mk (st := s__law_low_high) l30 c30 k30
  have b30 := U30.binds (ps := ["_law_view"]) fun _ _ _ _ _ _ us hl => match us, hl with | [_], _ => rfl
  have F30 : Fn K mg "_law_low_high" s__law_low_high ["_law_view"] _ _ := ⟨U30, b30, PySem.W.mg_of X G a30⟩
  have U31 := fun_mk (st := s__law_fate) l31 c31 k31
  have b31 := U31.binds (ps := ["_law_view", "_law_n"]) fun _ _ _ _ _ _ us hl => match us, hl with | [_, _], _ => rfl
  have F31 : Fn K mg "_law_fate" s__law_fate ["_law_view", "_law_n"] _ _ := ⟨U31, b31, PySem.W.mg_of X G a31⟩
  have U32 := fun_mk (st := s__law_tried) l32 c32 k32
  have b32 := U32.binds (ps := ["_law_call"]) fun _ _ _ _ _ _ us hl => match us, hl with | [_], _ => rfl
  have F32 : Fn K mg "_law_tried" s__law_tried ["_law_call"] _ _ := ⟨U32, b32, PySem.W.mg_of X G a32⟩
  have U33 := fun_mk (st := s__law_is_news) l33 c33 k33
  have b33 := U33.binds (ps := ["_law_thing"]) fun _ _ _ _ _ _ us hl => match us, hl with | [_], _ => rfl
  have F33 : Fn K mg "_law_is_news" s__law_is_news ["_law_thing"] _ _ := ⟨U33, b33, PySem.W.mg_of X G a33⟩
  have U34 := fun_mk (st := s__law_news) l34 c34 k34
  have b34 := U34.binds (ps := ["_law_view", "_law_thing"]) fun _ _ _ _ _ _ us hl => match us, hl with | [_, _], _ => rfl
  have F34 : Fn K mg "_law_news" s__law_news ["_law_view", "_law_thing"] _ _ := ⟨U34, b34, PySem.W.mg_of X G a34⟩
  have U35 := fun_mk (st := s__law_due) l35 c35 k35
  have b35 := U35.binds (ps := ["_law_view", "_law_way", "_law_thing"]) fun _ _ _ _ _ _ us hl => match us, hl with | [_, _, _], _ => rfl
  have F35 : Fn K mg "_law_due" s__law_due ["_law_view", "_law_way", "_law_thing"] _ _ := ⟨U35, b35, PySem.W.mg_of X G a35⟩
  have U36 := fun_mk (st := s__law_drawn) l36 c36 k36
  have b36 := U36.binds (ps := ["_law_deck", "_law_view", "_law_way"]) fun _ _ _ _ _ _ us hl => match us, hl with | [_, _, _], _ => rfl
  have F36 : Fn K mg "_law_drawn" s__law_drawn ["_law_deck", "_law_view", "_law_way"] _ _ := ⟨U36, b36, PySem.W.mg_of X G a36⟩
  have U37 := fun_mk (st := s__law_is_told) l37 c37 k37
  have b37 := U37.binds (ps := ["_law_view", "_law_told"]) fun _ _ _ _ _ _ us hl => match us, hl with | [_, _], _ => rfl
  have F37 : Fn K mg "_law_is_told" s__law_is_told ["_law_view", "_law_told"] _ _ := ⟨U37, b37, PySem.W.mg_of X G a37⟩
  have U38 := fun_mk (st := s_law) l38 c38 k38
  have b38 := U38.binds (ps := ["_law_script"]) fun _ _ _ _ _ _ us hl => match us, hl with | [_], _ => rfl
  have F38 : Fn K mg "law" s_law ["_law_script"] _ _ := ⟨U38, b38, PySem.W.mg_of X G a38⟩
  have UI0 := fun_mk (st := s_BadBody) e0_15 e0_16 e0_17
  have bI0 := UI0.binds (ps := ["self", "thing"]) fun _ _ _ _ _ _ us hl => match us, hl with | [_, _], _ => rfl
  have T0 : ExcI K mg "BadBody" "BadBody.__init__" "thing" s_BadBody C0 fI0 _ := ⟨⟨⟨nm0, qn0, Nn0, bs0, bm0, sn0, su0, ab0, co0, dd0, qa0, qb0, qc0, qd0, qe0, e0_1, e0_2⟩, e0_3, e0_4, e0_5, e0_6⟩, ⟨e0_7, e0_8, e0_4, e0_9⟩, e0_10, ⟨e0_11, e0_12⟩, UI0, bI0, PySem.W.mg_of X G e0_0, exm_self e0_4 e0_13 e0_5 e0_14⟩
  have UI1 := fun_mk (st := s_BadMessage) e1_15 e1_16 e1_17
  have bI1 := UI1.binds (ps := ["self", "thing"]) fun _ _ _ _ _ _ us hl => match us, hl with | [_, _], _ => rfl
  have T1 : ExcI K mg "BadMessage" "BadMessage.__init__" "thing" s_BadMessage C1 fI1 _ := ⟨⟨⟨nm1, qn1, Nn1, bs1, bm1, sn1, su1, ab1, co1, dd1, qa1, qb1, qc1, qd1, qe1, e1_1, e1_2⟩, e1_3, e1_4, e1_5, e1_6⟩, ⟨e1_7, e1_8, e1_4, e1_9⟩, e1_10, ⟨e1_11, e1_12⟩, UI1, bI1, PySem.W.mg_of X G e1_0, exm_self e1_4 e1_13 e1_5 e1_14⟩
  have UI2 := fun_mk (st := s_BadNews) e2_15 e2_16 e2_17
  have bI2 := UI2.binds (ps := ["self", "thing"]) fun _ _ _ _ _ _ us hl => match us, hl with | [_, _], _ => rfl
  have T2 : ExcI K mg "BadNews" "BadNews.__init__" "thing" s_BadNews C2 fI2 _ := ⟨⟨⟨nm2, qn2, Nn2, bs2, bm2, sn2, su2, ab2, co2, dd2, qa2, qb2, qc2, qd2, qe2, e2_1, e2_2⟩, e2_3, e2_4, e2_5, e2_6⟩, ⟨e2_7, e2_8, e2_4, e2_9⟩, e2_10, ⟨e2_11, e2_12⟩, UI2, bI2, PySem.W.mg_of X G e2_0, exm_self e2_4 e2_13 e2_5 e2_14⟩
  have UI3 := fun_mk (st := s_BadNumber) e3_15 e3_16 e3_17
  have bI3 := UI3.binds (ps := ["self", "thing"]) fun _ _ _ _ _ _ us hl => match us, hl with | [_, _], _ => rfl
  have T3 : ExcI K mg "BadNumber" "BadNumber.__init__" "thing" s_BadNumber C3 fI3 _ := ⟨⟨⟨nm3, qn3, Nn3, bs3, bm3, sn3, su3, ab3, co3, dd3, qa3, qb3, qc3, qd3, qe3, e3_1, e3_2⟩, e3_3, e3_4, e3_5, e3_6⟩, ⟨e3_7, e3_8, e3_4, e3_9⟩, e3_10, ⟨e3_11, e3_12⟩, UI3, bI3, PySem.W.mg_of X G e3_0, exm_self e3_4 e3_13 e3_5 e3_14⟩
  have UI4 := fun_mk (st := s_Broken) e4_15 e4_16 e4_17
  have bI4 := UI4.binds (ps := ["self", "thing"]) fun _ _ _ _ _ _ us hl => match us, hl with | [_, _], _ => rfl
  have T4 : ExcI K mg "Broken" "Broken.__init__" "thing" s_Broken C4 fI4 _ := ⟨⟨⟨nm4, qn4, Nn4, bs4, bm4, sn4, su4, ab4, co4, dd4, qa4, qb4, qc4, qd4, qe4, e4_1, e4_2⟩, e4_3, e4_4, e4_5, e4_6⟩, ⟨e4_7, e4_8, e4_4, e4_9⟩, e4_10, ⟨e4_11, e4_12⟩, UI4, bI4, PySem.W.mg_of X G e4_0, exm_self e4_4 e4_13 e4_5 e4_14⟩
  have UI5 := fun_mk (st := s_BadView) e5_15 e5_16 e5_17
  have bI5 := UI5.binds (ps := ["self", "thing"]) fun _ _ _ _ _ _ us hl => match us, hl with | [_, _], _ => rfl
  have T5 : ExcI K mg "BadView" "BadView.__init__" "thing" s_BadView C5 fI5 _ := ⟨⟨⟨nm5, qn5, Nn5, bs5, bm5, sn5, su5, ab5, co5, dd5, qa5, qb5, qc5, qd5, qe5, e5_1, e5_2⟩, e5_3, e5_4, e5_5, e5_6⟩, ⟨e5_7, e5_8, e5_4, e5_9⟩, e5_10, ⟨e5_11, e5_12⟩, UI5, bI5, PySem.W.mg_of X G e5_0, exm_self e5_4 e5_13 e5_5 e5_14⟩
  have Kb : KwB K (PySem.W.fnOf "bounds" "bounds" (defArgs s_bounds) (defBody s_bounds) (defScope s_bounds) .none kV16 dc16 pm16 an16 cd16 ct16) ["view"] ["view"] (fun u => u) (fun u => u) := ⟨fun s ws hl => match ws, hl with | [y0], _ => .of_eq rfl, fun _ r => r⟩
  have Kf : KwB K (PySem.W.fnOf "fate" "fate" (defArgs s_fate) (defBody s_fate) (defScope s_fate) .none kV17 dc17 pm17 an17 cd17 ct17) ["view", "number"] ["view", "number"] (fun u => u) (fun u => u) := ⟨fun s ws hl => match ws, hl with | [y0, y1], _ => .of_eq rfl, fun _ r => r⟩
  have Kn : KwB K (PySem.W.fnOf "view_new" "view_new" (defArgs s_view_new) (defBody s_view_new) (defScope s_view_new) .none kV10 dc10 pm10 an10 cd10 ct10) ["house"] ["house"] (fun u => u) (fun u => u) := ⟨fun s ws hl => match ws, hl with | [y0], _ => .of_eq rfl, fun _ r => r⟩
  have Ka : KwB K (PySem.W.fnOf "asked" "asked" (defArgs s_asked) (defBody s_asked) (defScope s_asked) .none kV11 dc11 pm11 an11 cd11 ct11) ["view", "body"] ["body", "view"] List.reverse List.reverse := ⟨fun s ws hl => match ws, hl with | [y0, y1], _ => .of_eq rfl, fun _ r => vals_rev r⟩
  have Kh : KwB K (PySem.W.fnOf "heard" "heard" (defArgs s_heard) (defBody s_heard) (defScope s_heard) .none kV12 dc12 pm12 an12 cd12 ct12) ["view", "message"] ["message", "view"] List.reverse List.reverse := ⟨fun s ws hl => match ws, hl with | [y0, y1], _ => .of_eq rfl, fun _ r => vals_rev r⟩
  have Ku : KwB K (PySem.W.fnOf "told_upto" "told_upto" (defArgs s_told_upto) (defBody s_told_upto) (defScope s_told_upto) .none kV14 dc14 pm14 an14 cd14 ct14) ["view", "number"] ["number", "view"] List.reverse List.reverse := ⟨fun s ws hl => match ws, hl with | [y0, y1], _ => .of_eq rfl, fun _ r => vals_rev r⟩
  have Ex : Exs K 5 (fun k => match k with | 0 => C0 | 1 => C1 | 2 => C2 | 3 => C3 | _ => C4) CG := exs_mk (fun k hk => match k, hk with | 0, _ => ⟨e0_7, e0_8, e0_4, e0_9, e0_10, xc0, xm0, e0_5, (congrArg Option.isSome e0_13).trans rfl⟩ | 1, _ => ⟨e1_7, e1_8, e1_4, e1_9, e1_10, xc1, xm1, e1_5, (congrArg Option.isSome e1_13).trans rfl⟩ | 2, _ => ⟨e2_7, e2_8, e2_4, e2_9, e2_10, xc2, xm2, e2_5, (congrArg Option.isSome e2_13).trans rfl⟩ | 3, _ => ⟨e3_7, e3_8, e3_4, e3_9, e3_10, xc3, xm3, e3_5, (congrArg Option.isSome e3_13).trans rfl⟩ | 4, _ => ⟨e4_7, e4_8, e4_4, e4_9, e4_10, xc4, xm4, e4_5, (congrArg Option.isSome e4_13).trans rfl⟩) xs0 xs1
    (fun k hk j hj => match k, hk, j, hj with | 0, _, 0, _ => e0_14 | 0, _, 1, _ => xp0_1 | 0, _, 2, _ => xp0_2 | 0, _, 3, _ => xp0_3 | 0, _, 4, _ => xp0_4 | 1, _, 0, _ => xp1_0 | 1, _, 1, _ => e1_14 | 1, _, 2, _ => xp1_2 | 1, _, 3, _ => xp1_3 | 1, _, 4, _ => xp1_4 | 2, _, 0, _ => xp2_0 | 2, _, 1, _ => xp2_1 | 2, _, 2, _ => e2_14 | 2, _, 3, _ => xp2_3 | 2, _, 4, _ => xp2_4 | 3, _, 0, _ => xp3_0 | 3, _, 1, _ => xp3_1 | 3, _, 2, _ => xp3_2 | 3, _, 3, _ => e3_14 | 3, _, 4, _ => xp3_4 | 4, _, 0, _ => xp4_0 | 4, _, 1, _ => xp4_1 | 4, _, 2, _ => xp4_2 | 4, _, 3, _ => xp4_3 | 4, _, 4, _ => e4_14) xg1 ((congrArg Option.isSome xg2).trans rfl) xg3 (fun k hk => match k, hk with | 0, _ => xh0 | 1, _ => xh1 | 2, _ => xh2 | 3, _ => xh3 | 4, _ => xh4)
  have gE0 := PySem.W.mg_of X G e0_0
  have gE1 := PySem.W.mg_of X G e1_0
  have gE2 := PySem.W.mg_of X G e2_0
  have gE3 := PySem.W.mg_of X G e3_0
  have gE4 := PySem.W.mg_of X G e4_0
  have gE5 := PySem.W.mg_of X G e5_0
  have gG := PySem.W.mg_of X G xg0
  have hT := own fa (PySem.W.mg_of X G a38) cA Pt _ _ _ _ _ _ l38 rfl rfl m0 m1
  refine ⟨PySem.W.fnOf "law" "law" (defArgs s_law) (defBody s_law) (defScope s_law) .none kV38 dc38 pm38 an38 (.ref cA) ct38, cA, Pt, hT, m3, codeB_in m0 m2, fun s v => .of_eq rfl, fun base _ _ TB => ?_⟩
  have nsF := ns_ent g1 (ps := [(Str.ofString "ask", t0), (Str.ofString "past", t1), (Str.ofString "look", t2), (Str.ofString "hello", t3), (Str.ofString "answer", t4), (Str.ofString "upto", t5), (Str.ofString "forgot", t6), (Str.ofString "well", t7), (Str.ofString "away", t8)]) g4
  have TF : Frms K w mg Fm := by
    refine ⟨PySem.W.mg_of X G g0, ⟨es, nF, g1, g2, g3⟩, fun wd ks hk => ?_, fun wd hk => ?_⟩
    · obtain ⟨l1, l2, e, _⟩ := List.lookup_eq_some_iff.mp (show forms.lookup wd = some ks from hk)
      have hm : (wd, ks) ∈ forms := by rw [e]; simp
      unfold forms at hm
      simp only [List.mem_cons, List.not_mem_nil, or_false, Prod.mk.injEq] at hm
      rcases hm with ⟨rfl, rfl⟩ | ⟨rfl, rfl⟩ | ⟨rfl, rfl⟩ | ⟨rfl, rfl⟩ | ⟨rfl, rfl⟩ | ⟨rfl, rfl⟩ | ⟨rfl, rfl⟩ | ⟨rfl, rfl⟩ | ⟨rfl, rfl⟩
      · exact ⟨t0, (nsF _).trans (congrArg (fun y => some (Option.map Value.ref y)) (look0 ..)), fun H => sqT_lit h0 v0 H⟩
      · exact ⟨t1, (nsF _).trans (congrArg (fun y => some (Option.map Value.ref y)) (look1 ..)), fun H => sqT_lit h1 v1 H⟩
      · exact ⟨t2, (nsF _).trans (congrArg (fun y => some (Option.map Value.ref y)) (look2 ..)), fun H => sqT_lit h2 v2 H⟩
      · exact ⟨t3, (nsF _).trans (congrArg (fun y => some (Option.map Value.ref y)) (look3 ..)), fun H => sqT_lit h3 v3 H⟩
      · exact ⟨t4, (nsF _).trans (congrArg (fun y => some (Option.map Value.ref y)) (look4 ..)), fun H => sqT_lit h4 v4 H⟩
      · exact ⟨t5, (nsF _).trans (congrArg (fun y => some (Option.map Value.ref y)) (look5 ..)), fun H => sqT_lit h5 v5 H⟩
      · exact ⟨t6, (nsF _).trans (congrArg (fun y => some (Option.map Value.ref y)) (look6 ..)), fun H => sqT_lit h6 v6 H⟩
      · exact ⟨t7, (nsF _).trans (congrArg (fun y => some (Option.map Value.ref y)) (look7 ..)), fun H => sqT_lit h7 v7 H⟩
      · exact ⟨t8, (nsF _).trans (congrArg (fun y => some (Option.map Value.ref y)) (look8 ..)), fun H => sqT_lit h8 v8 H⟩
    · rw [nsF]
      rw [look_no hk]
      rfl
  have Gbtw : FnOk l.prog w K mg base CX0 _ _ _ _ _ := ok_is_between F1 Cn F0
  have Gnum : FnOk l.prog w K mg base CX0 _ _ _ _ _ := ok_is_number F2 Cn F0 F1
  have Gword : FnOk l.prog w K mg base CX0 _ _ _ _ _ := ok_is_word F4 Cn
  have Gbody : FnOk l.prog w K mg base CX0 _ _ _ _ _ := ok_is_body F6 Cn F3
  have Gcnt : FnOk l.prog w K mg base CX0 _ _ _ _ _ := ok_are_counted F5 Cn F1 Gbtw
  have Gview : FnOk l.prog w K mg base CX0 _ _ _ _ _ := ok_is_view F9 Cn F4 Gword F6 Gbody F2 Gnum F5 Gcnt
  have Gbounds : FnOk l.prog w K mg base CX0 _ _ _ _ _ := ok_bounds F16 Cn F9 Gview
  have Gnew : FnOk l.prog w K mg base CX0 _ _ _ _ _ := ok_new F10 Cn F4
  have Gask : FnOk l.prog w K mg base (L2N.CX l.prog w) _ _ _ _ _ := ok_ask (cl := fun k => match k with | 0 => C0 | 1 => C1 | 2 => C2 | 3 => C3 | _ => C4) F11 Cn F9 Gview F6 Gbody T5 T0 T4
  have Gupt : FnOk l.prog w K mg base (L2N.CX l.prog w) _ _ _ _ _ := ok_upto (cl := fun k => match k with | 0 => C0 | 1 => C1 | 2 => C2 | 3 => C3 | _ => C4) F14 Cn F9 Gview F2 Gnum T5 T3 T2
  have Gbrk : FnOk l.prog w K mg base CX0 _ _ _ _ _ := ok_brk F15 Cn F9 Gview
  have Gfate : FnOk l.prog w K mg base CX0 _ _ _ _ _ := ok_fate F17 Cn F16 Gbounds F0
  have Gitem : FnOk l.prog w K mg base CX0 _ _ _ _ _ := ok_item F7 F6 Gbody F2 Gnum
  have Gmes : FnOk l.prog w K mg base CX0 _ _ _ _ _ := ok_message F8 Cn TF F7 Gitem
  have Gwith : FnOk l.prog w K mg base CX0 _ _ _ _ _ := ok_with F13 Cn
  have Ghrd : FnOk l.prog w K mg base (L2N.CX l.prog w) _ _ _ _ _ := ok_heard (cl := fun k => match k with | 0 => C0 | 1 => C1 | 2 => C2 | 3 => C3 | _ => C4) F12 Cn F9 Gview F8 Gmes F13 Gwith (PySem.W.mg_of X G w0) (sqT_lit w1 w2) T5 T1 T4 T2
  have Glh : FnOk l.prog w K mg base CX0 _ _ _ _ _ := ok_lh F30 Cn
  have Glfate : FnOk l.prog w K mg base CX0 _ _ _ _ _ := ok_lfate F31 F30 Glh
  have Glnews : FnOk l.prog w K mg base CX0 _ _ _ _ _ := ok_lnews F33 Cn F21 F23
  have Glseen : FnOk l.prog w K mg base CX0 _ _ _ _ _ := ok_lseen F25 Cn F21 F24
  have Glview : FnOk l.prog w K mg base CX0 _ _ _ _ _ := ok_lview F26 Cn F22 F21 F23 F25 Glseen
  have Glnv : FnOk l.prog w K mg base CX0 _ _ _ _ _ := ok_lnv F34 Cn F26 Glview
  have Gldu : FnOk l.prog w K mg base CX0 _ _ _ _ _ := ok_ldu F35 Cn F26 Glview F23 F33 Glnews F34 Glnv F21
  have Gmkb : FnOk l.prog w K mg base CX0 _ _ _ _ _ := ok_mkbody F27 Cn F19 F20
  have Godd : FnOk l.prog w K mg base CX0 _ _ _ _ _ := ok_odd F29 Cn F19 F20
  have Gdrawn : FnOk l.prog w K mg base CX0 _ _ _ _ _ := ok_drawn F36 Cn F19 F20 F27 Gmkb F29 Godd
  have Gtold : FnG l.prog w K mg base 7 _ _ _ _ := ok_told F37 Cn F16 Gbounds Kb F17 Gfate Kf F30 Glh F31 Glfate
  have Gdeck : FnOk l.prog w K mg base CX0 _ _ _ _ _ := ok_deck F18 B
  have Gmkw : FnOk l.prog w K mg base CX0 _ _ _ _ _ := ok_mkwd F28 Cn F19 F20
  exact ok_law F38 Cn rfl TB Ex gE0 gE1 gE2 gE3 gE4 gG F18 Gdeck F19 F20 F28 Gmkw F10 Gnew Kn F36 Gdrawn F35 Gldu F11 Gask Ka F12 Ghrd Kh F14 Gupt Ku F15 Gbrk F37 Gtold F32
end Ag

end
/-! ## Tail -/
open PySem PySem.W PyProof.Rows
set_option maxRecDepth 100000 in
set_option maxHeartbeats 0 in
theorem PySem.Challenge.cw_answergate_k12_whole_views_under_any_new_holds : PySem.Challenge.rw_answergate_k12_whole_views_under_any_new.Holds := by
  w_on; o_law; k_head; (case hw => w_witness2)
  k_fill
  refine Ag.walkGT (l := PySem.Challenge.rw_answergate_k12_whole_views_under_any_new) (n := 63) (k := 9) (x := "_law_script") (y := "law") (sp := Ag.spLaw) rfl (by decide) rfl ⟨rfl, by decide, by decide⟩ (by decide +kernel) (fun w h Y => PySem.W.km_in_of Y) ?F (fun Pt K H a ns hl hP hS => ⟨a, ns, rfl, hS, hl, fun y hy => by rw [List.mem_singleton.mp hy]; exact LamX.TabS.nil hP, fun _ => rfl⟩)
  case F =>
    intro w mg fa h KX G hmg own
    refine' Ag.all_mk KX G hmg own ?ya0 ?yl0 ?yc0 ?yk0 ?ya1 ?yl1 ?yc1 ?yk1 ?ya2 ?yl2 ?yc2 ?yk2 ?ya3 ?yl3 ?yc3 ?yk3 ?ya4 ?yl4 ?yc4 ?yk4 ?ya5 ?yl5 ?yc5 ?yk5 ?ya6 ?yl6 ?yc6 ?yk6 ?ya7 ?yl7 ?yc7 ?yk7 ?ya8 ?yl8 ?yc8 ?yk8 ?ya9 ?yl9 ?yc9 ?yk9 ?ya10 ?yl10 ?yc10 ?yk10 ?ya11 ?yl11 ?yc11 ?yk11 ?ya12 ?yl12 ?yc12 ?yk12 ?ya13 ?yl13 ?yc13 ?yk13 ?ya14 ?yl14 ?yc14 ?yk14 ?ya15 ?yl15 ?yc15 ?yk15 ?ya16 ?yl16 ?yc16 ?yk16 ?ya17 ?yl17 ?yc17 ?yk17 ?ya18 ?yl18 ?yc18 ?yk18 ?ya19 ?yl19 ?yc19 ?yk19 ?ya20 ?yl20 ?yc20 ?yk20 ?ya21 ?yl21 ?yc21 ?yk21 ?ya22 ?yl22 ?yc22 ?yk22 ?ya23 ?yl23 ?yc23 ?yk23 ?ya24 ?yl24 ?yc24 ?yk24 ?ya25 ?yl25 ?yc25 ?yk25 ?ya26 ?yl26 ?yc26 ?yk26 ?ya27 ?yl27 ?yc27 ?yk27 ?ya28 ?yl28 ?yc28 ?yk28 ?ya29 ?yl29 ?yc29 ?yk29 ?ya30 ?yl30 ?yc30 ?yk30 ?ya31 ?yl31 ?yc31 ?yk31 ?ya32 ?yl32 ?yc32 ?yk32 ?ya33 ?yl33 ?yc33 ?yk33 ?ya34 ?yl34 ?yc34 ?yk34 ?ya35 ?yl35 ?yc35 ?yk35 ?ya36 ?yl36 ?yc36 ?yk36 ?ya37 ?yl37 ?yc37 ?yk37 ?ya38 ?yl38 ?yc38 ?yk38 ?yz0 ?yz1 ?yz2 ?yz3 ?yz4 ?yz5 ?yz6 ?yz7 ?yz8 ?yz9 ?yz10 ?yz11 ?yz12 ?yz13 ?yz14 ?yz15 ?yx0 ?yx1 ?yx2 ?ye0_0 ?ye0_1 ?ye0_2 ?ye0_3 ?ye0_4 ?ye0_5 ?ye0_6 ?ye0_7 ?ye0_8 ?ye0_9 ?ye0_10 ?ye0_11 ?ye0_12 ?ye0_13 ?ye0_14 ?ye0_15 ?ye0_16 ?ye0_17 ?ye1_0 ?ye1_1 ?ye1_2 ?ye1_3 ?ye1_4 ?ye1_5 ?ye1_6 ?ye1_7 ?ye1_8 ?ye1_9 ?ye1_10 ?ye1_11 ?ye1_12 ?ye1_13 ?ye1_14 ?ye1_15 ?ye1_16 ?ye1_17 ?ye2_0 ?ye2_1 ?ye2_2 ?ye2_3 ?ye2_4 ?ye2_5 ?ye2_6 ?ye2_7 ?ye2_8 ?ye2_9 ?ye2_10 ?ye2_11 ?ye2_12 ?ye2_13 ?ye2_14 ?ye2_15 ?ye2_16 ?ye2_17 ?ye3_0 ?ye3_1 ?ye3_2 ?ye3_3 ?ye3_4 ?ye3_5 ?ye3_6 ?ye3_7 ?ye3_8 ?ye3_9 ?ye3_10 ?ye3_11 ?ye3_12 ?ye3_13 ?ye3_14 ?ye3_15 ?ye3_16 ?ye3_17 ?ye4_0 ?ye4_1 ?ye4_2 ?ye4_3 ?ye4_4 ?ye4_5 ?ye4_6 ?ye4_7 ?ye4_8 ?ye4_9 ?ye4_10 ?ye4_11 ?ye4_12 ?ye4_13 ?ye4_14 ?ye4_15 ?ye4_16 ?ye4_17 ?ye5_0 ?ye5_1 ?ye5_2 ?ye5_3 ?ye5_4 ?ye5_5 ?ye5_6 ?ye5_7 ?ye5_8 ?ye5_9 ?ye5_10 ?ye5_11 ?ye5_12 ?ye5_13 ?ye5_14 ?ye5_15 ?ye5_16 ?ye5_17 ?yxg0 ?yxg1 ?yxg2 ?yxg3 ?yxs0 ?yxs1 ?yxc0 ?yxm0 ?yxh0 ?yxp0_1 ?yxp0_2 ?yxp0_3 ?yxp0_4 ?yxc1 ?yxm1 ?yxh1 ?yxp1_0 ?yxp1_2 ?yxp1_3 ?yxp1_4 ?yxc2 ?yxm2 ?yxh2 ?yxp2_0 ?yxp2_1 ?yxp2_3 ?yxp2_4 ?yxc3 ?yxm3 ?yxh3 ?yxp3_0 ?yxp3_1 ?yxp3_2 ?yxp3_4 ?yxc4 ?yxm4 ?yxh4 ?yxp4_0 ?yxp4_1 ?yxp4_2 ?yxp4_3 ?ym0 ?ym1 ?ym2 ?ym3 ?yw0 ?yw1 ?yw2 ?yg0 ?yg1 ?yg2 ?yg3 ?yg4 ?yh0 ?yv0 ?yh1 ?yv1 ?yh2 ?yv2 ?yh3 ?yv3 ?yh4 ?yv4 ?yh5 ?yv5 ?yh6 ?yv6 ?yh7 ?yv7 ?yh8 ?yv8
    (case ya0 => k_is); (case yl0 => k_is); (case yc0 => k_is); (case yk0 => k_is)
    (case ya1 => k_is); (case yl1 => k_is); (case yc1 => k_is); (case yk1 => k_is)
    (case ya2 => k_is); (case yl2 => k_is); (case yc2 => k_is); (case yk2 => k_is)
    (case ya3 => k_is); (case yl3 => k_is); (case yc3 => k_is); (case yk3 => k_is)
    (case ya4 => k_is); (case yl4 => k_is); (case yc4 => k_is); (case yk4 => k_is)
    (case ya5 => k_is); (case yl5 => k_is); (case yc5 => k_is); (case yk5 => k_is)
    (case ya6 => k_is); (case yl6 => k_is); (case yc6 => k_is); (case yk6 => k_is)
    (case ya7 => k_is); (case yl7 => k_is); (case yc7 => k_is); (case yk7 => k_is)
    (case ya8 => k_is); (case yl8 => k_is); (case yc8 => k_is); (case yk8 => k_is)
    (case ya9 => k_is); (case yl9 => k_is); (case yc9 => k_is); (case yk9 => k_is)
    (case ya10 => k_is); (case yl10 => k_is); (case yc10 => k_is); (case yk10 => k_is)
    (case ya11 => k_is); (case yl11 => k_is); (case yc11 => k_is); (case yk11 => k_is)
    (case ya12 => k_is); (case yl12 => k_is); (case yc12 => k_is); (case yk12 => k_is)
    (case ya13 => k_is); (case yl13 => k_is); (case yc13 => k_is); (case yk13 => k_is)
    (case ya14 => k_is); (case yl14 => k_is); (case yc14 => k_is); (case yk14 => k_is)
    (case ya15 => k_is); (case yl15 => k_is); (case yc15 => k_is); (case yk15 => k_is)
    (case ya16 => k_is); (case yl16 => k_is); (case yc16 => k_is); (case yk16 => k_is)
    (case ya17 => k_is); (case yl17 => k_is); (case yc17 => k_is); (case yk17 => k_is)
    (case ya18 => k_is); (case yl18 => k_is); (case yc18 => k_is); (case yk18 => k_is)
    (case ya19 => k_is); (case yl19 => k_is); (case yc19 => k_is); (case yk19 => k_is)
    (case ya20 => k_is); (case yl20 => k_is); (case yc20 => k_is); (case yk20 => k_is)
    (case ya21 => k_is); (case yl21 => k_is); (case yc21 => k_is); (case yk21 => k_is)
    (case ya22 => k_is); (case yl22 => k_is); (case yc22 => k_is); (case yk22 => k_is)
    (case ya23 => k_is); (case yl23 => k_is); (case yc23 => k_is); (case yk23 => k_is)
    (case ya24 => k_is); (case yl24 => k_is); (case yc24 => k_is); (case yk24 => k_is)
    (case ya25 => k_is); (case yl25 => k_is); (case yc25 => k_is); (case yk25 => k_is)
    (case ya26 => k_is); (case yl26 => k_is); (case yc26 => k_is); (case yk26 => k_is)
    (case ya27 => k_is); (case yl27 => k_is); (case yc27 => k_is); (case yk27 => k_is)
    (case ya28 => k_is); (case yl28 => k_is); (case yc28 => k_is); (case yk28 => k_is)
    (case ya29 => k_is); (case yl29 => k_is); (case yc29 => k_is); (case yk29 => k_is)
    (case ya30 => k_is); (case yl30 => k_is); (case yc30 => k_is); (case yk30 => k_is)
    (case ya31 => k_is); (case yl31 => k_is); (case yc31 => k_is); (case yk31 => k_is)
    (case ya32 => k_is); (case yl32 => k_is); (case yc32 => k_is); (case yk32 => k_is)
    (case ya33 => k_is); (case yl33 => k_is); (case yc33 => k_is); (case yk33 => k_is)
    (case ya34 => k_is); (case yl34 => k_is); (case yc34 => k_is); (case yk34 => k_is)
    (case ya35 => k_is); (case yl35 => k_is); (case yc35 => k_is); (case yk35 => k_is)
    (case ya36 => k_is); (case yl36 => k_is); (case yc36 => k_is); (case yk36 => k_is)
    (case ya37 => k_is); (case yl37 => k_is); (case yc37 => k_is); (case yk37 => k_is)
    (case ya38 => k_is); (case yl38 => k_is); (case yc38 => k_is); (case yk38 => k_is)
    (case yz0 => k_is); (case yz1 => k_is); (case yz2 => k_is); (case yz3 => k_is); (case yz4 => k_is); (case yz5 => k_is); (case yz6 => k_is); (case yz7 => k_is); (case yz8 => k_is); (case yz9 => k_is); (case yz10 => k_is); (case yz11 => k_is); (case yz12 => k_is); (case yz13 => k_is); (case yz14 => k_is); (case yz15 => k_is)
    (case yx0 => k_is); (case yx1 => k_is); (case yx2 => k_is)
    (case ye0_0 => k_is); (case ye0_1 => k_is); (case ye0_2 => rfl); (case ye0_3 => k_is); (case ye0_4 => k_is); (case ye0_5 => k_is); (case ye0_6 => k_is); (case ye0_7 => k_is); (case ye0_8 => k_is); (case ye0_9 => k_is); (case ye0_10 => k_is); (case ye0_11 => k_is); (case ye0_12 => k_is); (case ye0_13 => k_is); (case ye0_14 => k_is); (case ye0_15 => k_is); (case ye0_16 => k_is); (case ye0_17 => k_is)
    (case ye1_0 => k_is); (case ye1_1 => k_is); (case ye1_2 => rfl); (case ye1_3 => k_is); (case ye1_4 => k_is); (case ye1_5 => k_is); (case ye1_6 => k_is); (case ye1_7 => k_is); (case ye1_8 => k_is); (case ye1_9 => k_is); (case ye1_10 => k_is); (case ye1_11 => k_is); (case ye1_12 => k_is); (case ye1_13 => k_is); (case ye1_14 => k_is); (case ye1_15 => k_is); (case ye1_16 => k_is); (case ye1_17 => k_is)
    (case ye2_0 => k_is); (case ye2_1 => k_is); (case ye2_2 => rfl); (case ye2_3 => k_is); (case ye2_4 => k_is); (case ye2_5 => k_is); (case ye2_6 => k_is); (case ye2_7 => k_is); (case ye2_8 => k_is); (case ye2_9 => k_is); (case ye2_10 => k_is); (case ye2_11 => k_is); (case ye2_12 => k_is); (case ye2_13 => k_is); (case ye2_14 => k_is); (case ye2_15 => k_is); (case ye2_16 => k_is); (case ye2_17 => k_is)
    (case ye3_0 => k_is); (case ye3_1 => k_is); (case ye3_2 => rfl); (case ye3_3 => k_is); (case ye3_4 => k_is); (case ye3_5 => k_is); (case ye3_6 => k_is); (case ye3_7 => k_is); (case ye3_8 => k_is); (case ye3_9 => k_is); (case ye3_10 => k_is); (case ye3_11 => k_is); (case ye3_12 => k_is); (case ye3_13 => k_is); (case ye3_14 => k_is); (case ye3_15 => k_is); (case ye3_16 => k_is); (case ye3_17 => k_is)
    (case ye4_0 => k_is); (case ye4_1 => k_is); (case ye4_2 => rfl); (case ye4_3 => k_is); (case ye4_4 => k_is); (case ye4_5 => k_is); (case ye4_6 => k_is); (case ye4_7 => k_is); (case ye4_8 => k_is); (case ye4_9 => k_is); (case ye4_10 => k_is); (case ye4_11 => k_is); (case ye4_12 => k_is); (case ye4_13 => k_is); (case ye4_14 => k_is); (case ye4_15 => k_is); (case ye4_16 => k_is); (case ye4_17 => k_is)
    (case ye5_0 => k_is); (case ye5_1 => k_is); (case ye5_2 => rfl); (case ye5_3 => k_is); (case ye5_4 => k_is); (case ye5_5 => k_is); (case ye5_6 => k_is); (case ye5_7 => k_is); (case ye5_8 => k_is); (case ye5_9 => k_is); (case ye5_10 => k_is); (case ye5_11 => k_is); (case ye5_12 => k_is); (case ye5_13 => k_is); (case ye5_14 => k_is); (case ye5_15 => k_is); (case ye5_16 => k_is); (case ye5_17 => k_is)
    (case yxg0 => k_is)
    (case yxg1 => k_is)
    (case yxg2 => k_is)
    (case yxg3 => k_is)
    (case yxs0 => k_is)
    (case yxs1 => k_is)
    (case yxc0 => k_is)
    (case yxm0 => k_is)
    (case yxh0 => k_is)
    (case yxp0_1 => k_is)
    (case yxp0_2 => k_is)
    (case yxp0_3 => k_is)
    (case yxp0_4 => k_is)
    (case yxc1 => k_is)
    (case yxm1 => k_is)
    (case yxh1 => k_is)
    (case yxp1_0 => k_is)
    (case yxp1_2 => k_is)
    (case yxp1_3 => k_is)
    (case yxp1_4 => k_is)
    (case yxc2 => k_is)
    (case yxm2 => k_is)
    (case yxh2 => k_is)
    (case yxp2_0 => k_is)
    (case yxp2_1 => k_is)
    (case yxp2_3 => k_is)
    (case yxp2_4 => k_is)
    (case yxc3 => k_is)
    (case yxm3 => k_is)
    (case yxh3 => k_is)
    (case yxp3_0 => k_is)
    (case yxp3_1 => k_is)
    (case yxp3_2 => k_is)
    (case yxp3_4 => k_is)
    (case yxc4 => k_is)
    (case yxm4 => k_is)
    (case yxh4 => k_is)
    (case yxp4_0 => k_is)
    (case yxp4_1 => k_is)
    (case yxp4_2 => k_is)
    (case yxp4_3 => k_is)
    (case ym0 => k_is)
    (case ym1 => rfl)
    (case ym2 => rfl)
    (case ym3 => rfl)
    (case yw0 => k_is)
    (case yw1 => k_is)
    (case yw2 => exact ⟨by decide, .cons ⟨_, rfl⟩ (.cons ⟨_, rfl⟩ (.cons ⟨_, rfl⟩ (.cons ⟨_, rfl⟩ .nil)))⟩)
    (case yg0 => k_is)
    (case yg1 => k_is)
    (case yg2 => exact ⟨⟨_, _, rfl, rfl⟩, ⟨_, _, rfl, rfl⟩, ⟨_, _, rfl, rfl⟩, ⟨_, _, rfl, rfl⟩, ⟨_, _, rfl, rfl⟩, ⟨_, _, rfl, rfl⟩, ⟨_, _, rfl, rfl⟩, ⟨_, _, rfl, rfl⟩, ⟨_, _, rfl, rfl⟩, trivial⟩)
    (case yg3 => decide)
    (case yg4 => rfl)
    (case yh0 => k_is)
    (case yv0 => exact ⟨by decide, .cons ⟨_, rfl⟩ (.cons ⟨_, rfl⟩ .nil)⟩)
    (case yh1 => k_is)
    (case yv1 => exact ⟨by decide, .cons ⟨_, rfl⟩ (.cons ⟨_, rfl⟩ .nil)⟩)
    (case yh2 => k_is)
    (case yv2 => exact ⟨by decide, .nil⟩)
    (case yh3 => k_is)
    (case yv3 => exact ⟨by decide, .cons ⟨_, rfl⟩ .nil⟩)
    (case yh4 => k_is)
    (case yv4 => exact ⟨by decide, .cons ⟨_, rfl⟩ (.cons ⟨_, rfl⟩ .nil)⟩)
    (case yh5 => k_is)
    (case yv5 => exact ⟨by decide, .cons ⟨_, rfl⟩ (.cons ⟨_, rfl⟩ .nil)⟩)
    (case yh6 => k_is)
    (case yv6 => exact ⟨by decide, .cons ⟨_, rfl⟩ .nil⟩)
    (case yh7 => k_is)
    (case yv7 => exact ⟨by decide, .nil⟩)
    (case yh8 => k_is)
    (case yv8 => exact ⟨by decide, .cons ⟨_, rfl⟩ .nil⟩)

