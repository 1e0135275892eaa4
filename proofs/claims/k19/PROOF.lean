import PyProof.Rows.All
import Wide.All
import OpenK.AllK
import Wide.FinOn
import HandS.ForMost
import HandS.IsInst
import HandS.FStr
import HandS.StrMore
import HandS.Style
import HandS.SortInts
import HandS.Wide
import HandS.TupAny
import HandS.TupMul
import PyProof.StrBlock2
import PyProof.ReprRoads
import PyProof.ReprText
import HandS.Codes
import HandS.Walk
import PyProof.Draws
import PyProof.EnumFor
import PyProof.EnumMake
import PyProof.ListStr
import HandS.Conv
import HandS.Strs
import HandS.SetFor
import PyProof.SetRoads
import KE.GoesMore
import KE.GoesEnum
import PyProof.SumWalkG
import PyProof.WalksMore
import KE.GoesZip
import HandS.Zip
import KE.DatumOrd
import PyProof.P3In
import PyProof.ReprBulk
import PyProof.EqAt
import PyProof.EqKinds
import PyProof.FactsAll.subtypes_3
import PyProof.FactsAll.subtypes_4
import PyProof.FactsAll.dict_1
import KE.KExcInit
import HandS.ExcInit
import HandS.ExcField
import PyProof.Rows.ReprItems
import HandS.Star
import HandS.WordsExc
import HandS.ExcOwn
import PySem.Challenge.RW_answergate_k19_whole_turns_at_great_time
set_option Elab.async false
/-! ## Base0 -/
section
set_option linter.all false
set_option maxRecDepth 100000
namespace Ag
open PySem PySem.Spec PyProof.Rows L2
/-! ### a def's promise where it is known that no repr runs around the call -/
structure FnG (P : Program) (w : World) (K : PySem.W.Frag) (mg : Str → Option Value) (base : Heap) (k : Nat) (f : Addr) (fd : FuncData) (ps : List Str) (sp : Sp) : Prop where
  len : ∀ vs H Q E, sp vs H Q E → vs.length = ps.length
  run : ∀ (A : Around) (outer : List Env) (s : Shared) (H : Hp) (args : Args) (us : List Value) (vs : List V) (Q : VK) (E : XK), Room k A → A.guards = some [] →
    Env0 P w K mg base A outer s H → BindsTo s fd args (ps.zip us) → Vals vs us → sp vs H Q E → codeAny (model P w) A (.call (.ref f) args) (CR CX0 outer P w H s Q E) s
theorem FnG.of {P : Program} {w : World} {K : PySem.W.Frag} {mg : Str → Option Value} {base : Heap} {k : Nat} {f : Addr} {fd : FuncData} {ps : List Str} {sp : Sp} (F : FnOk P w K mg base CX0 k f fd ps sp) :
    FnG P w K mg base k f fd ps sp := ⟨F.len, fun A outer s H args us vs Q E hr _ => F.run A outer s H args us vs Q E hr⟩
theorem g_deeper {A : Around} {env : Env} (h : A.guards = some []) : (A.deeper env).guards = some [] := by
  first | exact h | (simp [Around.deeper, h])
section
variable {P : Program} {w : World} {K : PySem.W.Frag} {mg : Str → Option Value} {base : Heap}
theorem okG {x qual : Str} {st : Stmt} {f : Addr} {fd : FuncData} {N ps : List Str} {k : Nat} {sp : Sp} (F : Fun K x qual st f fd) (S : FnScope N ps (defScope st))
    (len : ∀ vs H Q E, sp vs H Q E → vs.length = ps.length)
    (hbody : ∀ (cdv : Value) (A : Around) (outer : List Env) (s : Shared) (H : Hp) (vs : List V) (Q : VK) (E : XK), Room k (A.deeper (envOfC qual (defScope st) s.heap.objs.size f cdv)) →
      (A.deeper (envOfC qual (defScope st) s.heap.objs.size f cdv)).guards = some [] → sp vs H Q E →
      ∃ t, PSs (cxOf CX0 P w K mg base N qual (defScope st) f cdv A outer s H E).nox (defBody st) t ∧ t { nx := fun _ H' => Q .non H', rt := Q } (start N vs) H) :
    FnG P w K mg base (k + 1) f fd ps sp := by
  obtain ⟨oc, od, kV, doc, pm, an, cdv, ct, osl, rfl, lk, hcd⟩ := F.ex
  refine ⟨len, ?_⟩
  intro A outer s H args us vs Q E hr hg env0 hb rel hsp
  have hlen := len vs H Q E hsp
  have below : ∀ b o, base.get? b = some o → s.heap.get? b = some o := fun b o e => (env0.bs b o e).1
  have KX : K.In s.heap := env0.mod.kin.keeps below
  have noLim : s.heap.NoLimit := env0.mod.nolimit.keeps below
  have kinds : ∀ y ∈ ps.zip us, (defScope st).names.lookup y.1 = some .local ∨ ((defScope st).names.lookup y.1 = some .cell ∧ ((cellsFrom (s.heap.objs.size + 1) (defScope st).names []).lookup y.1).isSome = true) := by
    rintro ⟨n, v⟩ hy
    exact (S.par n (List.of_mem_zip hy).1).imp id fun q => ⟨q, PySem.W.cellsFrom_some _ _ _ (.inl q)⟩
  refine codeAny_call_function hr.depth (KX f _ lk) rfl S.co S.gen rfl (PySem.W.codeRec_of KX hcd) (hb _ _ _ _ (wpAny_newFunctionEnv_cells S.kind kinds ?_))
  intro env he s1 x
  subst he
  refine ⟨noLim.keeps x.toInCall.keep, codeAny_func ?_⟩
  obtain ⟨t, ht, hq⟩ := hbody cdv A outer s H vs Q E (hr.deeper _) (g_deeper hg) hsp
  have I := inv_start (CX := CX0) (E := E) S hr.hd env0 hlen rel x
  refine wpAny_mono (ht.nox.run [] s1 (start N vs) H _ I hq) (fun fl s' hs => ?_) (fun e s' hs => hs)
  cases fl with
  | brk => exact hs.elim fun _ z => z.elim fun _ z => z.2.elim
  | cont => exact hs.elim fun _ z => z.elim fun _ z => z.2.elim
  | next =>
    obtain ⟨σ', H', J, q⟩ := hs
    exact ⟨.non, H', J.os, J.bare, J.base, J.hok, rfl, q⟩
  | ret u =>
    obtain ⟨v, σ', H', J, rv, q⟩ := hs
    exact ⟨v, H', J.os, J.bare, J.base, J.hok, rv, q⟩
end
section
variable {X : Cx} {k : Nat} {f : Addr} {fd : FuncData} {ps : List Str} {sp : Sp} {x : Str} {p pos : Pos} {e : Expr} {es : List Expr} {t : TA}
theorem run_G {pins : List (Addr × Obj)} {σ : L2.St} {H : Hp} {s : Shared} {Q : VK} {us : List Value} {vs : List V} {args : Args} (F : FnG X.prog X.w X.K X.mg X.base k f fd ps sp) (hr : Room k X.A) (hG : X.A.guards = some [])
    (I : Inv X pins σ H s) (hb : BindsTo s fd args (ps.zip us)) (r : Vals vs us) (h : sp vs H Q E0) : codeAny (model X.prog X.w) X.A (.call (.ref f) args) (fun r s' => ∃ u, r = .ok (.ret u) ∧ EP X pins σ Q u s') s := by
  refine codeAny_mono (F.run X.A X.stack s H args us vs Q E0 hr hG I.env0 hb r h) ?_
  intro r s' hq
  match r, hq with
  | .error e, hq => exact hq.elim
  | .ok (.ret u), hq => exact ⟨u, rfl, I.after hq⟩
/-- f(e, ..) -/
theorem pe_callG (F : FnG X.prog X.w X.K X.mg X.base k f fd ps sp) (hr : Room k X.A) (hG : X.A.guards = some []) (hg : Gl X x) (hm : X.mg x = some (.ref f)) (hk : PySem.W.keepIn X.K (.ref f) = true) (hb : Binds X.K fd ps [])
    (ha : PA X (e :: es) t) (hdb : (x == ("__debug__" : Str)) = false := by decide) (he : starEach (e :: es) X.env = (false, eval e X.env) :: starEach es X.env := by rfl) (hpl : (backTo pos (starEach es X.env)).any (·.1) = false := by rfl) :
    PE X (.Call (.Name x p) (e :: es) [] pos) (tCall sp [] E0 t) := by
  constructor
  intro pins s σ H Q I h
  refine wpAny_Call_Name_kw (ld_glob I hg hm (PySem.W.callWith_K (h₀ := X.base) I.ok.mod.kin hk (thn (ha.run pos pins s σ H _ I h) ?_) he hpl) hdb)
  rintro us s1 ⟨vs, H1, I1, r, q⟩
  rw [List.append_nil] at q
  have hl : us.length = ps.length := by rw [← r.length]; exact F.len _ _ _ _ q
  have z := hb s1 us I1.kIn (by rw [List.append_nil]; exact hl)
  rw [List.append_nil] at z
  refine ⟨I1.kIn, ?_⟩
  show wpAny _ _ (call (.ref f) us) _ _ _
  refine wpAny_call (codeAny_mono (run_G F hr hG I1 z r q) ?_)
  rintro r s' ⟨u, rfl, z⟩
  exact z
/-- f(k = e, ..), keywords alone -/
structure KwB (K : PySem.W.Frag) (fd : FuncData) (ps ks : List Str) (gv : List Value → List Value) (gV : List V → List V) : Prop where
  to : ∀ (s : Shared) (ws : List Value), ws.length = ks.length → BindsTo s fd ⟨[], ks.zip ws⟩ (ps.zip (gv ws))
  rel : ∀ {zs : List V} {ws : List Value}, zs.length = ks.length → Vals zs ws → Vals (gV zs) (gv ws)
def tCallKw (sp : Sp) (n : Nat) (gV : List V → List V) (t : TA) : TE := fun σ H Q => t σ H fun zs H2 => zs.length = n ∧ sp (gV zs) H2 Q E0
variable {ks : List Str} {gv : List Value → List Value} {gV : List V → List V} {kws : List Keyword}
theorem pe_callKwG (F : FnG X.prog X.w X.K X.mg X.base k f fd ps sp) (hr : Room k X.A) (hG : X.A.guards = some []) (hg : Gl X x) (hm : X.mg x = some (.ref f)) (hk : PySem.W.keepIn X.K (.ref f) = true) (hb : KwB X.K fd ps ks gv gV)
    (ha : PK X kws t) (hall : (backToKw pos (keywordEach kws X.env)).all (·.1.isSome) = true := by rfl) (hks : (backToKw pos (keywordEach kws X.env)).filterMap (·.1) = ks := by rfl) (hdb : (x == ("__debug__" : Str)) = false := by decide)
    (hpl : ((backTo pos (starEach [] X.env)).any (·.1) || (backToKw pos (keywordEach kws X.env)).any (·.1.isNone)) = false := by rfl) : PE X (.Call (.Name x p) [] kws pos) (tCallKw sp ks.length gV t) := by
  constructor
  intro pins s σ H Q I h
  refine wpAny_Call_Name_kw (ld_glob I hg hm (PySem.W.callWith_KW0 (h₀ := X.base) I.ok.mod.kin hk hall (thn (ha.run pos pins s σ H _ I h) ?_) hpl) hdb)
  rintro ws s2 ⟨zs, H2, I2, rz, l, q⟩
  refine ⟨I2.kIn, ?_⟩
  rw [hks]
  refine wpAny_call (codeAny_mono (run_G (args := ⟨[], ks.zip ws⟩) F hr hG I2 (hb.to s2 ws (by rw [← rz.length]; exact l)) (hb.rel l rz) q) ?_)
  rintro r s' ⟨u, rfl, z⟩
  exact z
/-! ### repr of data -/
theorem call_repr_data (hu : X.A.units + 66 < cLine) (hG : X.A.guards = some []) : CallR X (.builtin "repr") (fun xs H Q => ∃ x d, xs = [x] ∧ Dp X.K H x d ∧ d.showable = true ∧ d.hasDict = false ∧ d.depth ≤ 64 ∧ d.shown.length ≤ sizeLine ∧ Q (.str d.shown) H) := by
  intro pins s σ H vs us Q I r h
  obtain ⟨x, d, rfl, hd, h1, h2, h3, h4, q⟩ := h
  obtain ⟨u, rfl, ru⟩ := vals1 r
  cases x with
  | ref a =>
    obtain ⟨as, rd⟩ := Dp.reads I d (.ref a) u hd ru
    obtain rfl : u = Value.ref a := ru
    refine repr_of_reads' rd h1 (fun z => by rw [h2] at z; cases z) hG (by omega) (fun _ _ e => e) (fun h' u tk kp => ?_) h4
    exact ⟨.str d.shown, H, I.kept kp, ⟨_, rfl⟩, q⟩
  | non =>
    cases hd
    obtain rfl : u = Value.none := ru
    exact PySem.P.repr_of_none ⟨.str _, H, I.tok _, ⟨_, rfl⟩, by rw [PyData.shown_none] at q; exact q⟩
  | bl b =>
    cases hd
    obtain rfl : u = Value.bool b := ru
    exact PySem.P.repr_of_bool ⟨.str _, H, I.tok _, ⟨_, rfl⟩, by rw [PyData.shown_bool] at q; exact q⟩
  | int i =>
    cases hd
    obtain ⟨t, rfl⟩ := ru
    exact PySem.P.repr_of_int (by simpa [PyData.showable] using h1) ⟨.str _, H, I.tok _, ⟨_, rfl⟩, by rw [PyData.shown_int] at q; exact q⟩
  | str z =>
    cases hd
    obtain ⟨t, rfl⟩ := ru
    rw [PyData.shown_str] at q h4
    exact PySem.P.repr_of_str ⟨.str _, H, I.tok _, ⟨_, rfl⟩, q⟩ h4
  | byt b => cases hd
  | flt b => cases hd
  | ty n => cases hd
end
end Ag

end
/-! ## Math1 -/
section
set_option linter.all false
namespace Ag
open PySem
/-! ### decimal texts -/
abbrev numL := TL.numL
abbrev digitsVal := NumText.digitsVal
def plainC (c : Nat) : Bool := decide (32 ≤ c) && decide (c ≤ 126)
def digC (c : Nat) : Bool := decide (48 ≤ c) && decide (c ≤ 57)
def plainL (l : List Nat) : Bool := l.all plainC
def isDec (l : List Nat) (m : Nat) : Bool := decide (numL (digitsVal l) = l) && decide (digitsVal l ≤ m)
theorem dv_snoc (l : List Nat) (c : Nat) : digitsVal (l ++ [c]) = digitsVal l * 10 + (c - 48) := by
  show List.foldl _ 0 (l ++ [c]) = _
  rw [List.foldl_append]
  rfl
theorem isDec_iff {l : List Nat} {m : Nat} : isDec l m = true ↔ ∃ k, k ≤ m ∧ l = numL k := by
  unfold isDec
  rw [Bool.and_eq_true, decide_eq_true_eq, decide_eq_true_eq]
  constructor
  · rintro ⟨a, b⟩
    exact ⟨_, b, a.symm⟩
  · rintro ⟨k, hk, rfl⟩
    have e : digitsVal (numL k) = k := TL.numL_val k
    rw [e]
    exact ⟨rfl, hk⟩
theorem numL_all (k : Nat) : ∀ c ∈ numL k, 48 ≤ c ∧ c ≤ 57 := TL.numL_digits k
theorem numL_ne (k : Nat) : numL k ≠ [] := TL.numL_ne k
theorem numL_val (k : Nat) : digitsVal (numL k) = k := TL.numL_val k
theorem numL_zero_head : ∀ (k : Nat) (l : List Nat), numL k = 48 :: l → k = 0 := by
  intro k
  induction k using Nat.strongRecOn with
  | ind k ih =>
    intro l h
    by_cases hk : k < 10
    · have e : numL k = [48 + k] := TL.numL_lt hk
      rw [e] at h
      injection h with h1 h2
      omega
    · have e : numL k = numL (k / 10) ++ [48 + k % 10] := TL.numL_step (by omega)
      rw [e] at h
      have hne := numL_ne (k / 10)
      cases hq : numL (k / 10) with
      | nil => exact absurd hq hne
      | cons d r =>
        rw [hq] at h
        injection h with h1 h2
        subst h1
        have z := ih (k / 10) (by omega) r hq
        omega
/-- one more digit -/
theorem isDec_snoc {s : List Nat} {c m : Nat} (hs : s = [] ∨ ∃ k, s = numL k) :
    isDec (s ++ [c]) m = (digC c && decide (s ≠ [48]) && decide (digitsVal (s ++ [c]) ≤ m)) := by
  rw [Bool.eq_iff_iff, isDec_iff]
  simp only [Bool.and_eq_true, decide_eq_true_eq, digC]
  constructor
  · rintro ⟨k, hk, e⟩
    have hc : 48 ≤ c ∧ c ≤ 57 := numL_all k c (by rw [← e]; simp)
    refine ⟨⟨hc, ?_⟩, ?_⟩
    · rintro rfl
      have z := numL_zero_head k [c] e.symm
      subst z
      have e2 : numL 0 = [48] := TL.numL_lt (by decide)
      rw [e2] at e
      simp at e
    · rw [e, numL_val]
      exact hk
  · rintro ⟨⟨hc, hne⟩, hv⟩
    refine ⟨digitsVal (s ++ [c]), hv, ?_⟩
    rw [dv_snoc]
    rcases hs with rfl | ⟨k, rfl⟩
    · show [c] = numL (0 * 10 + (c - 48))
      have e : numL (0 * 10 + (c - 48)) = [48 + (0 * 10 + (c - 48))] := TL.numL_lt (by omega)
      rw [e]
      congr 1
      omega
    · rw [numL_val]
      have hk : k ≠ 0 := by
        rintro rfl
        exact hne (TL.numL_lt (by decide))
      have e : numL (k * 10 + (c - 48)) = numL ((k * 10 + (c - 48)) / 10) ++ [48 + (k * 10 + (c - 48)) % 10] := TL.numL_step (by omega)
      rw [e, show (k * 10 + (c - 48)) / 10 = k by omega, show 48 + (k * 10 + (c - 48)) % 10 = c by omega]
theorem isDec_nil (m : Nat) : isDec [] m = false := by
  cases h : isDec [] m with
  | false => rfl
  | true =>
    obtain ⟨k, _, e⟩ := isDec_iff.mp h
    exact absurd e.symm (numL_ne k)
theorem numL_len3 {k : Nat} (h : k ≤ 200) : (numL k).length ≤ 3 := TL.numL_len (by decide) (by omega)
/-! ### reading, sign by sign -/
inductive Out where
  | read (ts : List (List Nat)) (r : List Nat)
  | wrong (ts : List (List Nat)) (k : Nat)
  deriving DecidableEq
def Out.pre (ts : List (List Nat)) (i : Nat) : Out → Out
  | .read us r => .read (ts ++ us) r
  | .wrong us k => .wrong (ts ++ us) (i + k)
theorem Out.pre_pre (ts us : List (List Nat)) (i j : Nat) (o : Out) : (o.pre us j).pre ts i = o.pre (ts ++ us) (i + j) := by
  cases o <;> simp [Out.pre, Nat.add_assoc]
theorem Out.pre_nil (o : Out) : o.pre [] 0 = o := by cases o <;> simp [Out.pre]
def glue (s : List Nat) : Option (List Nat) → List Nat
  | none => s
  | some t => s ++ 58 :: t
/-- one sign: none if it is wrong; else the text that is complete, if there is one, and the next state -/
def stp (s : List Nat) (t : Option (List Nat)) (c : Nat) : Option (Option (List Nat) × List Nat × Option (List Nat)) :=
  match t with
  | none => if c = 58 ∧ s ≠ [] then some (none, s, some []) else if isDec (s ++ [c]) 200 = true then some (none, s ++ [c], none) else none
  | some t => if t.length < digitsVal s then (if plainC c = true then some (none, s, some (t ++ [c])) else none) else if c = 44 then some (some t, [], none) else none
def lr (s : List Nat) (t : Option (List Nat)) : List Nat → Out
  | [] => .read [] (glue s t)
  | c :: cs => match stp s t c with
    | none => .wrong [] 0
    | some (o, s', t') => (lr s' t' cs).pre o.toList 1
/-- states that can be -/
def Vd (s : List Nat) : Option (List Nat) → Prop
  | none => s = [] ∨ ∃ k, k ≤ 200 ∧ s = numL k
  | some t => (∃ k, k ≤ 200 ∧ s = numL k ∧ t.length ≤ k) ∧ plainL t = true
theorem plainL_snoc {t : List Nat} {c : Nat} : plainL (t ++ [c]) = (plainL t && plainC c) := by
  simp [plainL, List.all_append]
theorem Vd.step {s : List Nat} {t : Option (List Nat)} {c : Nat} (v : Vd s t) {o : Option (List Nat)} {s' : List Nat} {t' : Option (List Nat)} (h : stp s t c = some (o, s', t')) : Vd s' t' := by
  cases t with
  | none =>
    simp only [stp] at h
    split at h
    · rename_i q
      cases h
      rcases v with rfl | ⟨k, hk, e⟩
      · exact absurd rfl q.2
      · exact ⟨⟨k, hk, e, Nat.zero_le _⟩, rfl⟩
    · split at h
      · rename_i q
        cases h
        exact .inr (isDec_iff.mp q)
      · cases h
  | some t =>
    simp only [stp] at h
    obtain ⟨⟨k, hk, e, hl⟩, hp⟩ := v
    split at h
    · rename_i q
      split at h
      · rename_i hc
        cases h
        refine ⟨⟨k, hk, e, ?_⟩, by rw [plainL_snoc, hp, hc]; rfl⟩
        rw [e, numL_val] at q
        simp
        omega
      · cases h
    · split at h
      · cases h
        exact .inl rfl
      · cases h
/-- the state of a rest -/
def spS (r : List Nat) : List Nat := match TL.par [58] [] r with | some (p, _) => p | none => r
def spT (r : List Nat) : Option (List Nat) := match TL.par [58] [] r with | some (_, q) => some q | none => none
theorem colon_free {k : Nat} : 58 ∉ numL k := TL.numL_free (.inr (by decide))
theorem Vd.free {s : List Nat} {t : Option (List Nat)} (v : Vd s t) : 58 ∉ s := by
  cases t with
  | none =>
    rcases v with rfl | ⟨k, _, rfl⟩
    · exact List.not_mem_nil
    · exact colon_free
  | some t =>
    obtain ⟨⟨k, _, rfl, _⟩, _⟩ := v
    exact colon_free
theorem par_glue {s : List Nat} {t : Option (List Nat)} (h : 58 ∉ s) : TL.par [58] [] (glue s t) = t.map fun t => (s, t) := by
  cases t with
  | none => exact SX.par_head_none h
  | some t => exact SX.par_head t h
theorem sp_glue {s : List Nat} {t : Option (List Nat)} (v : Vd s t) : spS (glue s t) = s ∧ spT (glue s t) = t := by
  unfold spS spT
  rw [par_glue v.free]
  cases t <;> exact ⟨rfl, rfl⟩
/-- reading leads to a rest -/
theorem lr_rest : ∀ (l : List Nat) {s : List Nat} {t : Option (List Nat)} {ts : List (List Nat)} {r : List Nat}, Vd s t → lr s t l = .read ts r → ∃ s' t', Vd s' t' ∧ r = glue s' t'
  | [], s, t, ts, r, v, h => by
    simp only [lr] at h
    cases h
    exact ⟨s, t, v, rfl⟩
  | c :: cs, s, t, ts, r, v, h => by
    simp only [lr] at h
    cases hs : stp s t c with
    | none => rw [hs] at h; cases h
    | some p =>
      obtain ⟨o, s', t'⟩ := p
      rw [hs] at h
      simp only at h
      cases hl : lr s' t' cs with
      | wrong us k => rw [hl] at h; cases h
      | read us r' =>
        rw [hl] at h
        cases h
        exact lr_rest cs (v.step hs) hl
/-- two strings, one behind the other -/
def Out.thn (n : Nat) (o : Out) (k : List Nat → Out) : Out := match o with
  | .read ts r => (k r).pre ts n
  | .wrong ts i => .wrong ts i
theorem lr_app : ∀ (a b : List Nat) {s : List Nat} {t : Option (List Nat)}, Vd s t → lr s t (a ++ b) = (lr s t a).thn a.length fun r => lr (spS r) (spT r) b
  | [], b, s, t, v => by
    show lr s t b = (lr (spS (glue s t)) (spT (glue s t)) b).pre [] 0
    rw [(sp_glue v).1, (sp_glue v).2, Out.pre_nil]
  | c :: cs, b, s, t, v => by
    show lr s t (c :: (cs ++ b)) = _
    simp only [lr]
    cases hs : stp s t c with
    | none => rfl
    | some p =>
      obtain ⟨o, s', t'⟩ := p
      simp only
      rw [lr_app cs b (v.step hs)]
      cases lr s' t' cs with
      | wrong us k => rfl
      | read us r' =>
        show Out.pre o.toList 1 (Out.pre us cs.length (lr (spS r') (spT r') b)) = Out.pre (o.toList ++ us) (cs.length + 1) (lr (spS r') (spT r') b)
        rw [Out.pre_pre, Nat.add_comm 1]
/-! ### the program's way: one frame after the other -/
/-- how many of the signs are digits of a length -/
def dgs (s : List Nat) : List Nat → Nat
  | [] => 0
  | c :: cs => if isDec (s ++ [c]) 200 = true then dgs (s ++ [c]) cs + 1 else 0
theorem dgs_le : ∀ (l s : List Nat), dgs s l ≤ l.length
  | [], _ => Nat.le_refl _
  | c :: cs, s => by
    unfold dgs
    split
    · have := dgs_le cs (s ++ [c])
      simp
      exact this
    · exact Nat.zero_le _
theorem lr_dgs : ∀ (l : List Nat) {s : List Nat}, Vd s none → lr s none l = (lr (s ++ l.take (dgs s l)) none (l.drop (dgs s l))).pre [] (dgs s l) ∧ Vd (s ++ l.take (dgs s l)) none ∧
    (∀ c cs, l.drop (dgs s l) = c :: cs → isDec (s ++ l.take (dgs s l) ++ [c]) 200 = false)
  | [], s, v => by
    refine ⟨?_, ?_, fun c cs h => ?_⟩
    · simp [dgs, Out.pre_nil]
    · simpa [dgs] using v
    · simp at h
  | c :: cs, s, v => by
    by_cases h : isDec (s ++ [c]) 200 = true
    · have hd : dgs s (c :: cs) = dgs (s ++ [c]) cs + 1 := by
        show (if isDec (s ++ [c]) 200 = true then _ else _) = _
        rw [if_pos h]
      have hc : c ≠ 58 := by
        obtain ⟨k, _, e⟩ := isDec_iff.mp h
        have := numL_all k c (by rw [← e]; simp)
        omega
      have v' : Vd (s ++ [c]) none := .inr (isDec_iff.mp h)
      obtain ⟨i1, i2, i3⟩ := lr_dgs cs v'
      have es : stp s none c = some (none, s ++ [c], none) := by
        show (if c = 58 ∧ s ≠ [] then _ else if isDec (s ++ [c]) 200 = true then _ else _) = _
        rw [if_neg (fun z => hc z.1), if_pos h]
      have el : lr s none (c :: cs) = (lr (s ++ [c]) none cs).pre [] 1 := by
        simp only [lr, es]
        rfl
      have ea : s ++ [c] ++ cs.take (dgs (s ++ [c]) cs) = s ++ (c :: cs).take (dgs (s ++ [c]) cs + 1) := by simp
      rw [hd, el, i1, Out.pre_pre, ea]
      rw [ea] at i2 i3
      refine ⟨?_, i2, fun d ds hq => i3 d ds (by simpa using hq)⟩
      rw [List.drop_succ_cons, Nat.add_comm]
      rfl
    · have hd : dgs s (c :: cs) = 0 := by
        show (if isDec (s ++ [c]) 200 = true then _ else _) = _
        rw [if_neg h]
      rw [hd]
      refine ⟨by simp [Out.pre_nil], by simpa using v, fun d ds hq => ?_⟩
      simp at hq
      obtain ⟨rfl, rfl⟩ := hq
      simpa using h
/-- how many signs ahead of the first one that no text has -/
def pls : List Nat → Nat
  | [] => 0
  | c :: cs => if plainC c = true then pls cs + 1 else 0
theorem pls_le : ∀ l : List Nat, pls l ≤ l.length
  | [] => Nat.le_refl _
  | c :: cs => by
    unfold pls
    split
    · have := pls_le cs
      simp
      exact this
    · exact Nat.zero_le _
theorem pls_all {l : List Nat} (h : plainL l = true) : pls l = l.length := by
  induction l with
  | nil => rfl
  | cons c cs ih =>
    have h' : plainC c = true ∧ plainL cs = true := by simpa [plainL] using h
    show (if plainC c = true then pls cs + 1 else 0) = _
    rw [if_pos h'.1, ih h'.2]
    rfl
theorem pls_lt {l : List Nat} (h : plainL l = false) : pls l < l.length ∧ ∃ c, l[pls l]? = some c ∧ plainC c = false := by
  induction l with
  | nil => cases h
  | cons c cs ih =>
    by_cases hc : plainC c = true
    · have h' : plainL cs = false := by
        have z : (plainC c && plainL cs) = false := h
        rw [hc] at z
        exact z
      obtain ⟨a, d, b1, b2⟩ := ih h'
      have e : pls (c :: cs) = pls cs + 1 := by
        show (if plainC c = true then pls cs + 1 else 0) = _
        rw [if_pos hc]
      rw [e]
      exact ⟨by simp; exact a, d, by simpa using b1, b2⟩
    · have e : pls (c :: cs) = 0 := by
        show (if plainC c = true then pls cs + 1 else 0) = _
        rw [if_neg hc]
      rw [e]
      exact ⟨by simp, c, by simp, by simpa using hc⟩
theorem pls_plain : ∀ l : List Nat, plainL (l.take (pls l)) = true
  | [] => rfl
  | c :: cs => by
    by_cases hc : plainC c = true
    · have e : pls (c :: cs) = pls cs + 1 := by
        show (if plainC c = true then pls cs + 1 else 0) = _
        rw [if_pos hc]
      rw [e, List.take_succ_cons]
      show (plainC c && plainL (cs.take (pls cs))) = true
      rw [hc, pls_plain cs]
      rfl
    · have e : pls (c :: cs) = 0 := by
        show (if plainC c = true then pls cs + 1 else 0) = _
        rw [if_neg hc]
      rw [e]
      rfl
/-- the signs of a text -/
theorem lr_text : ∀ (a : List Nat) (l : List Nat) {s t : List Nat}, plainL a = true → t.length + a.length ≤ digitsVal s → lr s (some t) (a ++ l) = (lr s (some (t ++ a)) l).pre [] a.length
  | [], l, s, t, _, _ => by simp [Out.pre_nil]
  | c :: cs, l, s, t, hp, hl => by
    have hp' : plainC c = true ∧ plainL cs = true := by simpa [plainL] using hp
    simp only [List.length_cons] at hl
    have es : stp s (some t) c = some (none, s, some (t ++ [c])) := by
      show (if t.length < digitsVal s then _ else _) = _
      rw [if_pos (by omega), if_pos hp'.1]
    have el : lr s (some t) (c :: (cs ++ l)) = (lr s (some (t ++ [c])) (cs ++ l)).pre [] 1 := by
      simp only [lr, es]
      rfl
    show lr s (some t) (c :: (cs ++ l)) = _
    rw [el, lr_text cs l hp'.2 (by simp; omega), Out.pre_pre]
    simp [Nat.add_comm]
/-- what next_frame tells of the signs from its start on -/
inductive Nf where
  | part (at_ : Nat) | wrong (at_ : Nat) | whole (t : List Nat) (at_ : Nat)
def nf (l : List Nat) : Nf :=
  let k := dgs [] l
  if k = l.length then .part k else
  if k = 0 ∨ l[k]? ≠ some 58 then .wrong k else
  let n := digitsVal (l.take k)
  let part := (l.drop (k + 1)).take n
  let e := k + 1 + pls part
  if e = l.length then .part e else
  if l[e]? ≠ some 44 then .wrong e else .whole part (k + 1 + n + 1)
theorem nf_lr (l : List Nat) : match nf l with
    | .part _ => ∃ r, lr [] none l = .read [] r ∧ r = l
    | .wrong k => lr [] none l = .wrong [] k ∧ k < l.length
    | .whole t k => lr [] none l = (lr [] none (l.drop k)).pre [t] k ∧ k ≤ l.length ∧ 0 < k := by
  obtain ⟨h1, h2, h3⟩ := lr_dgs l (s := []) (.inl rfl)
  simp only [List.nil_append] at h1 h2 h3
  have hk := dgs_le l []
  generalize hkk : dgs [] l = k at h1 h2 h3 hk
  unfold nf
  rw [hkk]
  by_cases e1 : k = l.length
  · simp only [e1, if_true]
    rw [h1, e1, List.take_length, List.drop_length]
    exact ⟨l, by simp [lr, glue, Out.pre], rfl⟩
  · simp only [if_neg e1]
    have hlt : k < l.length := by omega
    obtain ⟨c, hc⟩ : ∃ c, l[k]? = some c := ⟨l[k], by simp [hlt]⟩
    have hd : l.drop k = c :: l.drop (k + 1) := by
      rw [List.drop_eq_getElem_cons hlt]
      congr 1
      rw [List.getElem?_eq_getElem hlt] at hc
      exact Option.some.inj hc
    have nd := h3 c _ hd
    by_cases e2 : k = 0 ∨ l[k]? ≠ some 58
    · simp only [if_pos e2]
      refine ⟨?_, hlt⟩
      rw [h1, hd]
      have es : stp (l.take k) none c = none := by
        show (if c = 58 ∧ l.take k ≠ [] then _ else if isDec (l.take k ++ [c]) 200 = true then _ else none) = _
        rw [if_neg, if_neg (by rw [nd]; decide)]
        rintro ⟨rfl, hn⟩
        rcases e2 with rfl | e2
        · exact hn rfl
        · exact e2 hc
      simp only [lr, es]
      simp [Out.pre]
    · simp only [if_neg e2]
      have hk0 : k ≠ 0 := fun z => e2 (.inl z)
      have hc58 : c = 58 := by
        by_cases q : c = 58
        · exact q
        · exact absurd (.inr (by rw [hc]; simpa using q)) e2
      subst hc58
      have hne : l.take k ≠ [] := by
        intro z
        have := congrArg List.length z
        rw [List.length_take, List.length_nil] at this
        omega
      have es : stp (l.take k) none 58 = some (none, l.take k, some []) := by
        show (if 58 = 58 ∧ l.take k ≠ [] then _ else _) = _
        rw [if_pos ⟨rfl, hne⟩]
      have h4 : lr [] none l = (lr (l.take k) (some []) (l.drop (k + 1))).pre [] (k + 1) := by
        rw [h1, hd]
        simp only [lr, es]
        rw [Out.pre_pre]
        rfl
      generalize hn : digitsVal (l.take k) = n
      generalize hm : l.drop (k + 1) = m at h4
      have hml : m.length = l.length - (k + 1) := by rw [← hm, List.length_drop]
      generalize hp : m.take n = part
      have hpm : m = part ++ m.drop n := by rw [← hp, List.take_append_drop]
      have hpl : part.length ≤ n := by rw [← hp, List.length_take]; omega
      have hb := pls_le part
      have hsp : m = part.take (pls part) ++ m.drop (pls part) := by
        have e : part.take (pls part) = m.take (pls part) := by
          rw [← hp, List.take_take, Nat.min_eq_left (by rw [hp]; omega)]
        rw [e, List.take_append_drop]
      have h5 : lr [] none l = (lr (l.take k) (some (part.take (pls part))) (m.drop (pls part))).pre [] (k + 1 + pls part) := by
        rw [h4]
        conv => lhs; rw [hsp]
        rw [lr_text _ _ (pls_plain part) (by rw [hn, List.length_take]; simp; omega), Out.pre_pre, List.length_take, Nat.min_eq_left hb]
        simp
      have hpm2 : part.length ≤ m.length := by rw [← hp, List.length_take]; omega
      by_cases e3 : k + 1 + pls part = l.length
      · simp only [if_pos e3]
        refine ⟨l, ?_, rfl⟩
        have hd0 : m.drop (pls part) = [] := List.drop_eq_nil_of_le (by omega)
        have ht0 : part.take (pls part) = m := by
          rw [hd0, List.append_nil] at hsp
          exact hsp.symm
        rw [h5, hd0, ht0]
        simp only [lr, glue, Out.pre, List.append_nil]
        rw [← hm]
        congr 1
        rw [← hd, List.take_append_drop]
      · simp only [if_neg e3]
        have hlt3 : k + 1 + pls part < l.length := by omega
        have hget : l[k + 1 + pls part]? = m[pls part]? := by rw [← hm, List.getElem?_drop]
        obtain ⟨d, hdd⟩ : ∃ d, m[pls part]? = some d := ⟨m[pls part]'(by omega), by rw [List.getElem?_eq_getElem (by omega)]⟩
        have hmd : m.drop (pls part) = d :: m.drop (pls part + 1) := by
          rw [List.drop_eq_getElem_cons (by omega)]
          congr 1
          rw [List.getElem?_eq_getElem (by omega)] at hdd
          exact Option.some.inj hdd
        rw [hget, hdd]
        have hcase : (pls part = n ∧ part.length = n) ∨ (pls part < n ∧ plainC d = false) := by
          cases hpp : plainL part with
          | true =>
            have e := pls_all hpp
            left
            have : part.length = n := by
              rw [e] at hlt3
              rw [← hp, List.length_take] at hlt3 ⊢
              omega
            omega
          | false =>
            obtain ⟨a, c', b1, b2⟩ := pls_lt hpp
            right
            refine ⟨by omega, ?_⟩
            have : part[pls part]? = m[pls part]? := by
              conv => rhs; rw [hpm]
              rw [List.getElem?_append_left a]
            rw [this, hdd] at b1
            rw [Option.some.inj b1]
            exact b2
        have htl : (part.take (pls part)).length = pls part := by rw [List.length_take, Nat.min_eq_left hb]
        by_cases e4 : d = 44
        · subst e4
          rw [if_neg (by simp)]
          rcases hcase with ⟨q1, q2⟩ | ⟨q1, q2⟩
          · refine ⟨?_, by omega, by omega⟩
            have et : part.take (pls part) = part := List.take_of_length_le (by omega)
            have es2 : stp (l.take k) (some part) 44 = some (some part, [], none) := by
              show (if part.length < digitsVal (l.take k) then _ else _) = _
              rw [if_neg (by rw [hn]; omega)]
              rfl
            have ed : m.drop (pls part + 1) = l.drop (k + 1 + n + 1) := by
              rw [← hm, List.drop_drop]
              congr 1
              omega
            rw [h5, et, hmd]
            simp only [lr, es2]
            rw [Out.pre_pre, ed]
            simp only [Option.toList, List.nil_append]
            congr 1
            omega
          · exact absurd q2 (by decide)
        · rw [if_pos (by simpa using e4)]
          refine ⟨?_, hlt3⟩
          have es2 : stp (l.take k) (some (part.take (pls part))) d = none := by
            show (if (part.take (pls part)).length < digitsVal (l.take k) then _ else if d = 44 then _ else none) = _
            rcases hcase with ⟨q1, q2⟩ | ⟨q1, q2⟩
            · rw [if_neg (by rw [hn, htl]; omega), if_neg e4]
            · rw [if_pos (by rw [hn, htl]; omega), if_neg (by rw [q2]; decide)]
          rw [h5, hmd]
          simp only [lr, es2]
          simp [Out.pre]
end Ag

end
/-! ## Kit -/
section
set_option linter.all false
set_option maxRecDepth 100000
namespace Ag
open PySem PySem.Spec PyProof.Rows L2
open SX (S S_len S_cat S_inj)
section
variable {J : It} {n : Nat} {G : Hp → Prop} {Y : Nat → Hp → V → Hp → Prop}
/-- a comprehension without tests: R stays, each item is as v says of its place -/
theorem lc_all (w : Walk J n G Y) {g : TG} {te : TE} {vs : List Nat} {σ : L2.St} {H1 : Hp} {D : Addr} {Qd : Hp → Prop} (R : Hp → Prop) (v : Nat → V → Prop) (hn : n ≤ 16000000) (r0 : R H1) (rD : ∀ H o, R H → R (upd H D o)) (hG : ∀ H, R H → G H)
    (hs : ∀ i x H H' xs (k : VK), i < n → R H → H D = some (.lst xs) → Y i H x H' → (∀ y H4, v i y → R H4 → H4 D = some (.lst xs) → k y H4) → g x (wipe σ vs) H' fun σ2 H2 => wipe σ2 vs = wipe σ vs ∧ te σ2 H2 k)
    (hd : ∀ H xs, xs.length = n → (∀ i y, xs[i]? = some y → v i y) → R H → H D = some (.lst xs) → Qd H) :
    ∃ W : Nat → Nat → Hp → Prop, (∃ m, W 0 m (upd H1 D (.lst []))) ∧ ∀ i m H, W i m H →
      (J.stop i H ∧ Qd H) ∨ (J.go i H ∧ ∃ Nx : Hp → Prop, (∀ H', Nx H' → ∃ m', m' < m ∧ W (i + 1) m' H') ∧ ∀ x H', J.yld i H x H' → g x (wipe σ vs) H' fun σ2 H2 => wipe σ2 vs = wipe σ vs ∧ tYes σ2 H2 fun b H3 =>
        if b = true then te σ2 H3 fun y H4 => ∃ acc, H4 D = some (.lst acc) ∧ acc.length < sizeLine ∧ Nx (upd H4 D (.lst (acc ++ [y]))) else Nx H3) := by
  refine lc_it (g := g) (tt := tYes) (te := te) (vs := vs) (σ := σ) w (fun i H => ∃ xs : List V, xs.length = i ∧ (∀ j y, xs[j]? = some y → v j y) ∧ R H ∧ H D = some (.lst xs)) ⟨[], rfl, fun j y h => by simp at h, rD _ _ r0, upd_same⟩ (fun i H hi p => ?_) (fun i x H H' hi p hy => ?_) (fun H p => ?_)
  · obtain ⟨xs, _, _, r, _⟩ := p
    exact hG H r
  · obtain ⟨xs, hl, hv, r, hD⟩ := p
    refine hs i x H H' xs _ hi r hD hy ?_
    rintro y H4 hvy r4 h4
    refine ⟨xs, h4, ?_, xs ++ [y], by simp [hl], fun j z hz => ?_, rD _ _ r4, upd_same⟩
    · rw [sizeLine_eq]; omega
    · rw [List.getElem?_append] at hz
      split at hz
      · exact hv j z hz
      · rename_i hj
        have e : j - xs.length = 0 := by
          cases hq : j - xs.length with
          | zero => rfl
          | succ k => rw [hq] at hz; simp at hz
        rw [e] at hz
        simp at hz
        subst hz
        have : j = i := by omega
        subst this
        exact hvy
  · obtain ⟨xs, hl, hv, r, hD⟩ := p
    exact hd H xs hl hv r hD
end
/-! ### cuts of texts -/
theorem sIx_at {n d a : Nat} (h : a ≤ n) : HT.sIx n d (some (a : Int)) = a := by rw [HT.sIx_nat, Nat.min_eq_left h]
theorem cut_S {l : List Nat} {a b : Nat} (ha : a ≤ l.length) : cutS (S l) (some (a : Int)) (some (b : Int)) = S ((l.drop a).take (b - a)) := by
  unfold cutS
  rw [S_len, sIx_at ha, HT.sIx_nat]
  congr 1
  congr 1
  by_cases hb : b ≤ l.length
  · rw [Nat.min_eq_left hb]
  · rw [Nat.min_eq_right (by omega), List.take_of_length_le (by rw [List.length_drop]; exact Nat.le_refl _), List.take_of_length_le (by rw [List.length_drop]; omega)]
theorem cut_from {l : List Nat} {a : Nat} (ha : a ≤ l.length) : cutS (S l) (some (a : Int)) none = S (l.drop a) := by
  unfold cutS
  rw [S_len, sIx_at ha, HT.sIx_none]
  congr 1
  congr 1
  rw [List.take_of_length_le (by rw [List.length_drop]; exact Nat.le_refl _)]
theorem cut_to {l : List Nat} {b : Nat} : cutS (S l) none (some (b : Int)) = S (l.take b) := by
  unfold cutS
  rw [S_len, HT.sIx_none, HT.sIx_nat, List.drop_zero, Nat.sub_zero]
  congr 1
  congr 1
  by_cases hb : b ≤ l.length
  · rw [Nat.min_eq_left hb]
  · rw [Nat.min_eq_right (by omega), List.take_of_length_le (Nat.le_refl _), List.take_of_length_le (by omega)]
end Ag

end
/-! ## Kit2 -/
section
set_option linter.all false
set_option maxRecDepth 100000
namespace Ag
open PySem PySem.Spec PyProof.Rows L2
open SX (S S_len S_cat S_inj)
/-! ### str * int -/
theorem foldl_cps (z : List Nat) (n : Nat) : (List.replicate n (S z).cps).foldl (· ++ ·) #[] = (List.replicate n z).flatten.toArray := by
  have key : ∀ (n : Nat) (acc : Array Nat), (List.replicate n (S z).cps).foldl (· ++ ·) acc = acc ++ (List.replicate n z).flatten.toArray := by
    intro n
    induction n with
    | zero => intro acc; simp
    | succ n ih =>
      intro acc
      rw [List.replicate_succ, List.foldl_cons, ih, List.replicate_succ, List.flatten_cons]
      apply Array.ext'
      simp
  rw [key n #[]]
  simp
theorem mul_S (z : List Nat) (n : Nat) : Txt.mul (S z) (n : Int) = S (List.replicate n z).flatten := by
  unfold Txt.mul
  by_cases h0 : n = 0
  · subst h0
    rfl
  · rw [if_neg (by omega)]
    split
    · rename_i h
      simp only [Bool.or_eq_true, beq_iff_eq] at h
      rcases h with h | h
      · have : n = 1 := by omega
        subst this
        simp
      · rw [S_len] at h
        have : z = [] := List.length_eq_zero_iff.mp h
        subst this
        simp
    · rw [show ((n : Int)).toNat = n by simp, foldl_cps]
theorem op_rep_str {X : Cx} : OpR X (binaryOp .Mult) (fun x y H Q => ∃ (z : List Nat) (n : Nat), x = .str (S z) ∧ y = .int (n : Int) ∧ z.length * n ≤ 16000000 ∧ n ≤ 16000000 ∧ z.length ≤ 16000000 ∧ Q (.str (S (List.replicate n z).flatten)) H) := by
  intro pins s σ H x y v u Q I rx ry h
  obtain ⟨z, n, rfl, rfl, h1, h2, h3, q⟩ := h
  obtain ⟨t, rfl⟩ := rx
  obtain ⟨t', rfl⟩ := ry
  refine SB.mul ⟨?_, fun _ _ => ?_, fun _ _ => ?_⟩ (fun a k => ?_)
  · rw [Bool.or_eq_false_iff, decide_eq_false_iff_not, decide_eq_false_iff_not]
    omega
  · rename_i a b
    have hn : (1 : Int) ≤ (n : Int) := by omega
    have : (2 ^ 63 - 1) / (n : Int) ≥ (2 ^ 63 - 1) / 16000000 := by
      rw [ge_iff_le, Int.le_ediv_iff_mul_le (by omega)]
      have e : ((2 ^ 63 - 1 : Int) / 16000000) = 576460752303 := by decide
      rw [e]
      omega
    have e : ((2 ^ 63 - 1 : Int) / 16000000) = 576460752303 := by decide
    rw [S_len]
    omega
  · rw [S_len]
    show decide (z.length * (n : Int).toNat > sizeLine) = false
    rw [decide_eq_false_iff_not, sizeLine_eq, show ((n : Int)).toNat = n by simp]
    omega
  · rw [mul_S]
    exact ⟨.str _, H, I.tok _, ⟨_, rfl⟩, q⟩
/-! ### for i, c in enumerate(text) -/
def Ites (x : Str) : It :=
  ⟨fun i _ => i < x.cps.size, fun i H v H' => ∃ T c, v = .ref T ∧ H T = none ∧ H' = upd H T (.tup [.int (i : Nat), .str ⟨#[c]⟩]) ∧ x.cps[i]? = some c, fun i _ => i = x.cps.size⟩
theorem walk_enumS {x : Str} : Walk (Ites x) x.cps.size (fun _ => True) (fun i H v H' => ∃ T c, v = .ref T ∧ H T = none ∧ H' = upd H T (.tup [.int (i : Nat), .str ⟨#[c]⟩]) ∧ x.cps[i]? = some c) :=
  ⟨fun _ _ h _ => h, fun _ _ => rfl, fun _ _ _ _ _ _ z => z⟩
theorem draws_str {P : Program} {w : World} {A : Around} (hh : A.handled = none) (it : Addr) (x : Str) (t : Tok) {ty : String} (hty : ty = "str_ascii_iterator" ∨ ty = "str_iterator") :
    Draws P w A it [it] x.cps.size (fun i v => ∃ c u, x.cps[i]? = some c ∧ v = .str ⟨#[c]⟩ u) (fun i h => h.IsStrIter it ty x t i) := by
  rcases hty with rfl | rfl
  · exact Draws.strAscii hh it x t
  · exact Draws.strWide hh it x t
theorem turn_enumS {P : Program} {w : World} {K : PySem.W.Frag} {elts : List Expr} {kk : Nat} {tpos : Pos} (x : Str) (t : Tok) (ty : String) (hty : ty = "str_ascii_iterator" ∨ ty = "str_iterator") (e it : Addr) :
    Turn P w K (.Tuple elts kk tpos) (Ites x) [e, it] e (fun i h => (∃ old, IsEnum h e it ((i : Nat) : Int) old) ∧ h.IsStrIter it ty x t i ∧ e ≠ it) where
  mem := List.mem_cons_self
  obj := by
    rintro i h ⟨⟨old, he⟩, ⟨o, ho, hc, hd⟩, _⟩ b hb
    rcases List.mem_cons.mp hb with rfl | hb
    · exact ⟨_, he, fun v q => by cases q⟩
    · obtain rfl := List.mem_singleton.mp hb
      exact ⟨o, ho, fun v q => by rw [hd] at q; cases q⟩
  keep := by
    rintro i h h' ⟨⟨old, he⟩, ⟨o, ho, r⟩, hne⟩ k
    exact ⟨⟨old, k e List.mem_cons_self _ he⟩, ⟨o, k it (List.mem_cons_of_mem _ List.mem_cons_self) o ho, r⟩, hne⟩
  item := by
    intro X hP hw hK hc i pins s σ H E I hf st hg
    subst hP hw hK
    obtain ⟨⟨old, he⟩, hit, hne⟩ := st
    have hel : e < s.heap.objs.size := Heap.lt_size he
    have hil : it < s.heap.objs.size := by obtain ⟨_, q, _⟩ := hit; exact Heap.lt_size q
    have D := draws_str (P := X.prog) (w := X.w) (A := X.A.in1) (I.ok.hd hc) it x t hty
    refine wpAny_pyNext_enum_itemD D he hit hg hne (fun z => hne (List.mem_singleton.mp z)) ?_
    rintro v h' tk ⟨c, u, hcx, rfl⟩ ho hit' hT hsz hk
    refine ⟨_, rfl, wpAny_letOwnedTupleGo_enum (s := { s with heap := h', toks := tk + 1 }) ho ?_⟩
    intro h'' he' sb
    have hT2 : h''.get? s.heap.objs.size = some { cls := .type "tuple", data := .seq #[.int i tk, .str ⟨#[c]⟩ u] } := (sb.2 _ (Nat.ne_of_gt hel)).trans hT
    have ok : ObjOk X.prog X.w (upd H s.heap.objs.size (.tup [.int (i : Nat), .str ⟨#[c]⟩])) h'' s.heap.objs.size (.tup [.int (i : Nat), .str ⟨#[c]⟩]) :=
      ⟨by show 2 ≤ sizeLine; decide, [.int i tk, .str ⟨#[c]⟩ u], .cons ⟨_, rfl⟩ (.cons ⟨_, rfl⟩ .nil), ⟨_, hT2, rfl, _, rfl⟩⟩
    have I1 : Inv X pins σ (upd H s.heap.objs.size (.tup [.int (i : Nat), .str ⟨#[c]⟩])) { s with heap := h'', toks := tk + 1 } :=
      I.turnedNew (ch := [e, it]) (fun b ob hb q => (sb.2 b (fun z => hb (by rw [z]; exact List.mem_cons_self))).trans (hk b ob (fun z => hb (by rw [z]; exact List.mem_cons_self)) (fun z => hb (by rw [z]; exact List.mem_cons_of_mem _ List.mem_cons_self)) q)) hf (Nat.le_refl _) ok
    have e1 : ((i + 1 : Nat) : Int) = (i : Int) + 1 := by omega
    have hit2 : h''.IsStrIter it ty x t (i + 1) := by
      obtain ⟨o, q1, q2⟩ := hit'
      exact ⟨o, (sb.2 it hne.symm).trans q1, q2⟩
    refine ⟨.ref s.heap.objs.size, _, I1, rfl, ⟨_, c, rfl, I.hok.fresh (Nat.le_refl _), rfl, hcx⟩, ⟨⟨_, by rw [e1]; exact he'⟩, hit2, hne⟩, fun b hb => ?_⟩
    have hb' : b < s.heap.objs.size := by
      rcases List.mem_cons.mp hb with rfl | z
      · exact hel
      · rw [List.mem_singleton.mp z]
        exact hil
    rw [upd_ne (Nat.ne_of_lt hb')]
    exact (hf b hb).1
  done := by
    intro X hP hw hK hc i pins s σ H E I hf st hg
    subst hP hw hK
    obtain ⟨⟨old, he⟩, hit, hne⟩ := st
    obtain ⟨f0, f1, f2, f3, f4, f5⟩ := hf it (List.mem_cons_of_mem _ List.mem_cons_self)
    obtain rfl : i = x.cps.size := hg
    have D := draws_str (P := X.prog) (w := X.w) (A := X.A.in1) (I.ok.hd hc) it x t hty
    exact wpAny_pyNext_enum_endD D he hit fun h' eb => ⟨rfl, I.turned (t' := s.toks) (fun b o hb q => eb b o hb q) f0 f1 f3 f4 f5⟩
  self := fun A i s Q E st h => st.1.elim fun _ z => wpAny_pyIter_enum z h
def iEnumS (ta : TA) : TI := fun σ H R => ta σ H fun vs H1 => ∃ x, vs = [.str x] ∧ R (Ites x) H1
theorem pi_enumS {X : Cx} {e : Expr} {ta : TA} {p pos tpos : Pos} {elts : List Expr} {kk : Nat} (hg : Gl X "enumerate") (hm : X.mg "enumerate" = none) (ha : PA X [e] ta) (hs : starEach [e] X.env = [(false, eval e X.env)] := by rfl) :
    PI X (.Tuple elts kk tpos) (.Call (.Name "enumerate" p) [e] [] pos) (iEnumS ta) := by
  constructor
  intro pins s σ H R I h
  refine Call_ (ld_blt I hg hm boot_enumerate (PyProof.Rows.callWith_type1 (thn (ha.run pos pins s σ H _ I h) ?_) hs rfl))
  rintro us s1 ⟨vs, H1, I1, r1, x, rfl, q⟩
  obtain ⟨u, rfl, t, rfl⟩ := vals1 r1
  refine call_enumerate_str fun h' he hit hsz hk => wpAny_pyIter_enum he ?_
  have I2 : Inv X pins σ H1 { s1 with heap := h' } := I1.kept (t' := s1.toks) hk
  have hty : strIterType x = "str_ascii_iterator" ∨ strIterType x = "str_iterator" := by
    unfold strIterType
    split
    · exact .inl rfl
    · exact .inr rfl
  refine ⟨s1.heap.objs.size + 1, [s1.heap.objs.size + 1, s1.heap.objs.size], _, _, H1, rfl, I2, turn_enumS x t _ hty (s1.heap.objs.size + 1) s1.heap.objs.size, ⟨⟨.none, he⟩, hit, Nat.succ_ne_self _⟩, ?_, q⟩
  intro b hb
  have hle : s1.heap.objs.size ≤ b := by
    rcases List.mem_cons.mp hb with rfl | z
    · exact Nat.le_succ _
    · rw [List.mem_singleton.mp z]
      exact Nat.le_refl _
  exact I1.fpOk hle (I1.hok.fresh hle)
/-- a target of two names, where a comprehension's block runs -/
theorem pg_two {X : Cx} (K : PySem.W.Frag) {i j : Nat} {x y : Str} {px py pt : Pos} {k : Nat} (hc : X.calm = true) (hN : X.N.Nodup) (hi : X.N[i]? = some x) (hj : X.N[j]? = some y) (hx : X.env.scope.names.lookup x = some .local) (hy : X.env.scope.names.lookup y = some .local) (hK : X.K = K) :
    PG X (.Tuple [.Name x px, .Name y py] k pt) (gTup K 2 (gCons (gName i) (gCons (gName j) gNil))) := by
  subst hK
  exact pg_tup hc (pgs_cons (pg_name hN hi (.inl hx) (.inr hx)) (pgs_cons (pg_name hN hj (.inl hy) (.inr hy)) pgs_nil))
end Ag

end
/-! ## Kit3 -/
section
set_option linter.all false
set_option maxRecDepth 100000
namespace Ag
open PySem PySem.Spec PyProof.Rows L2
open SX (S S_len S_cat S_inj)
def chars (z : List Nat) : List V := z.map fun c => V.str (S [c])
theorem call_list_S {X : Cx} (hc : X.calm = true) : CallR X (.type "list") (fun xs H Q => ∃ z : List Nat, xs = [.str (S z)] ∧ z.length ≤ 16000000 ∧ ∀ l, H l = none → Q (.ref l) (upd H l (.lst (chars z)))) := by
  intro pins s σ H xs us Q I r h
  obtain ⟨z, rfl, hz, q⟩ := h
  obtain ⟨u, rfl, t, rfl⟩ := vals1 r
  have hsz : (S z).cps.size = z.length := by simp
  refine PySem.call_list_str (I.ok.hd hc) (S z) t (fun h' tk acc c' kp e ha => ?_) (by rw [hsz, sizeLine_eq]; omega)
  have rv : Vals (chars z) acc.toList := by
    refine L2.vals_of_at ?_ ?_
    · have e1 := ha.1
      rw [hsz] at e1
      unfold chars
      rw [List.length_map, Array.length_toList]
      exact e1.symm
    · intro j x u hx hu
      obtain ⟨c, tk', hc', rfl⟩ := ha.2 j u (by simpa using hu)
      unfold chars at hx
      rw [List.getElem?_map] at hx
      have : z[j]? = some c := by simpa using hc'
      rw [this] at hx
      cases hx
      exact ⟨_, rfl⟩
  refine ⟨.ref s.heap.objs.size, upd H s.heap.objs.size (.lst (chars z)), I.laid kp (Nat.le_refl _) ⟨?_, acc.toList, c', rv, ?_⟩, rfl, q _ (I.hok.fresh (Nat.le_refl _))⟩
  · unfold chars
    rw [List.length_map, sizeLine_eq]
    omega
  · simpa using e
end Ag

end
/-! ## End0 -/
section
set_option linter.all false
set_option maxRecDepth 100000
namespace Ag
open PySem PySem.Spec PyProof.Rows L2
/-! ### the end of a law's row, over FnG -/
/-- the heap at the law's entry: the script alone is known -/
def hScr (K : PySem.W.Frag) (a : Addr) (o : Obj) (xs : List V) : Hp := fun b => if b = a ∧ K.lookup a = none then some (.frz o (.lst xs)) else none
theorem hScr_at {K : PySem.W.Frag} {a b : Addr} {o : Obj} {xs : List V} {u : HO} (h : hScr K a o xs b = some u) : b = a ∧ K.lookup a = none ∧ u = .frz o (.lst xs) := by
  unfold hScr at h
  split at h
  · rename_i c
    exact ⟨c.1, c.2, (Option.some.inj h).symm⟩
  · cases h
theorem hScr_only {K : PySem.W.Frag} {a b : Addr} {o : Obj} {xs : List V} : hScr K a o xs b = none ∨ hScr K a o xs b = some (.frz o (.lst xs)) := by
  cases h : hScr K a o xs b with
  | none => exact .inl rfl
  | some u => exact .inr (by rw [(hScr_at h).2.2])
theorem lawG {P : Program} {w : World} {K : PySem.W.Frag} {mg mb : Str → Option Value} {k : Nat} {fa a : Addr} {fd : FuncData} {x : Str} {sp : Sp} {s₁ : Shared} {vs : List Value} {ns : List Int}
    (KX : K.In s₁.heap) (hns : s₁.heap.Ns mainGlobals mg) (hb : s₁.heap.Ns builtinsNs mb) (hbb : ∀ x : Str, x ≠ "__name__" → mb x = bootBuiltins x) (hlim : s₁.heap.NoLimit) (gens : s₁.gens = #[])
    (ha : s₁.heap.get? a = some { cls := .type "list", data := .seq vs.toArray }) (hi : IntsAre vs ns) (hl : ns.length ≤ sizeLine) (hr : Room k callerA)
    (F : ∀ base : Heap, K.In base → base.Ns mainGlobals mg → FnG P w K mg base k fa fd [x] sp) (hbind : ∀ (s : Shared) (u : Value), BindsTo s fd ⟨[u], []⟩ [(x, u)])
    (hsp : ∀ H : Hp, SqL K H a (ns.map V.int) → sp [.ref a] H (fun v _ => v = .bl true) E0) :
    codeAny (model P w) callerA (.call (.ref fa) ⟨[.ref a], []⟩) (fun r s' => r = .ok (.ret (.bool true)) ∧ OldK s₁.heap s'.heap ∧ s'.os = s₁.os ∧ AllBare s'.gens) s₁ := by
  generalize hH : hScr K a { cls := .type "list", data := .seq vs.toArray } (ns.map V.int) = H
  have at_ : ∀ {b u}, H b = some u → b = a ∧ K.lookup a = none ∧ u = .frz { cls := .type "list", data := .seq vs.toArray } (.lst (ns.map V.int)) := fun h => hScr_at (by rw [hH]; exact h)
  have rv : Vals (ns.map V.int) vs := vals_ints hi
  have hok : HOk P w H s₁.heap := fun b u e => by
    obtain ⟨rfl, _, rfl⟩ := at_ e
    exact ⟨ha, by rw [List.length_map]; exact hl, vs, _, rv, ha⟩
  have sq : SqL K H a (ns.map V.int) := by
    cases hk : K.lookup a with
    | some o =>
      have e := KX a o hk
      rw [ha] at e
      cases e
      exact .inr ⟨_, vs.toArray, _, hk, rfl, rfl, rfl, by rw [List.size_toArray, hi.length]; exact hl, by simpa using rv⟩
    | none => exact .inl (.inr ⟨_, by rw [← hH]; exact if_pos ⟨rfl, hk⟩⟩)
  have keepB : ∀ {b : Addr} {o : Obj}, s₁.heap.get? b = some o → H b = none → (hidT s₁.heap H).get? b = some o := fun e n => hidT_get e n
  have dicts : ∀ {b : Addr} {o : Obj} {es : Array DictEntry} {ep : Nat}, s₁.heap.get? b = some o → o.data = .dict es ep → H b = none := by
    intro b o es ep e d
    cases q : H b with
    | none => rfl
    | some u =>
      obtain ⟨rfl, _, _⟩ := at_ q
      rw [ha] at e
      cases e
      cases d
  have nsB : ∀ {b : Addr} {m : Str → Option Value}, s₁.heap.Ns b m → (hidT s₁.heap H).Ns b m := by
    rintro b m ⟨o, es, ep, e, d, r⟩
    exact ⟨o, es, ep, keepB e (dicts e d), d, r⟩
  have kinB : K.In (hidT s₁.heap H) := by
    intro b o e
    refine keepB (KX b o e) ?_
    cases q : H b with
    | none => rfl
    | some u =>
      obtain ⟨rfl, n, _⟩ := at_ q
      rw [n] at e
      cases e
  have modB : Mod K mg (hidT s₁.heap H) := ⟨kinB, nsB hns, ⟨mb, nsB hb, hbb⟩, hlim.elim fun mc z => ⟨mc, nsB z.1, z.2⟩⟩
  have env : Env0 P w K mg (hidT s₁.heap H) callerA [] s₁ H :=
    ⟨rfl, modB, fun _ _ e => of_hidT e, Nat.le_of_eq (hidT_size s₁.heap H), trivial, (fun b z => by cases z), hok, .of_eq gens⟩
  refine codeAny_mono ((F _ kinB (nsB hns)).run callerA [] s₁ H ⟨[.ref a], []⟩ [.ref a] [.ref a] _ _ hr rfl env (hbind s₁ (.ref a)) (.cons rfl .nil) (hsp H sq)) ?_
  intro r s' h
  match r, h with
  | .error e, h => exact h.elim
  | .ok (.ret u), h =>
    obtain ⟨v, H', os, bare, un, hok', r', rfl⟩ := h
    obtain rfl : u = Value.bool true := r'
    refine ⟨rfl, OldK.of_keep fun b o e => ?_, os, bare⟩
    cases q : H b with
    | none => exact un.keep b o e q (fun z => by cases z) (fun z => by cases z)
    | some u =>
      obtain ⟨rfl, _, rfl⟩ := at_ q
      have e1 := (hok b _ q).1
      have e2 := (hok' b _ (un.frzs b _ _ q)).1
      rw [e] at e1
      rw [Option.some.inj e1]
      exact e2
theorem walkG {l : PySem.W.OpenLaw} {n k : Nat} {q : Program} {loose : List Str} {XP : (Str → Option Value) → Heap → Prop} {YP : World → Heap → Prop} {d : DefRec} {K : Params → PySem.W.Frag} {sp : PySem.W.Frag → Sp} {x : Str}
    (hn : l.most = some n) (hn2 : n ≤ sizeLine) (hdf : d.params.defaults = []) (hr : Room k callerA) (hY : ∀ (w : World) (h : Heap), YP w h → (K w.params).In h)
    (F : ∀ (w : World) (mg : Str → Option Value) (fa : Addr) (h : Heap), (K w.params).In h → h.Ns mainGlobals mg → mg d.name = some (.ref fa) →
      ∃ fd : FuncData, (∀ (s : Shared) (u : Value), BindsTo s fd ⟨[u], []⟩ [(x, u)]) ∧ ∀ base : Heap, (K w.params).In base → base.Ns mainGlobals mg → FnG l.prog w (K w.params) mg base k fa fd [x] (sp (K w.params)))
    (hsp : ∀ (K : PySem.W.Frag) (H : Hp) (a : Addr) (ns : List Int), ns.length ≤ n → SqL K H a (ns.map V.int) → sp K [.ref a] H (fun v _ => v = .bl true) E0) :
    PySem.W.WalkO q loose XP YP l.row.toRowW d [] (fun f vs => PySem.call f vs) := by
  refine Att.attach_call hn hdf ?_
  intro w s₀ s₁ mg mb fa o pm cd doc a vs ns G Y ho hd hcd hmg hobj hints hlen hg
  obtain ⟨fd, hb, hF⟩ := F w mg fa _ (hY w _ Y) G.T.g hmg
  exact lawG (hY w _ Y) G.T.g G.T.b G.T.builtins G.T.nolimit hg hobj hints (Nat.le_trans hlen hn2) hr hF hb (fun H sq => hsp _ H a ns hlen sq)
end Ag

end
/-! ## Sel -/
section
set_option linter.all false
set_option maxRecDepth 100000
namespace Ag
open PySem PySem.Spec PyProof.Rows L2
/-- a comprehension with a pure test and a pure value at each place, under which things may be made -/
theorem lc_sel {J : It} {n : Nat} {G : Hp → Prop} {Y : Nat → Hp → V → Hp → Prop} (w : Walk J n G Y) {g : TG} {tt : TT} {te : TE} {vs : List Nat} {σ : L2.St} {H1 : Hp} {D : Addr} {Qd : Hp → Prop}
    (t : Nat → Bool) (e : Nat → V) (hn : n ≤ 16000000) (hD : H1 D = none) (hG : ∀ H, Same H1 H → G H)
    (hs : ∀ i x H H' (k : VK) (k0 : Hp → Prop), i < n → Same H1 H → Y i H x H' → (t i = true → ∀ H4, Same H H4 → k (e i) H4) → (t i = false → ∀ H4, Same H H4 → k0 H4) →
      g x (wipe σ vs) H' fun σ2 H2 => wipe σ2 vs = wipe σ vs ∧ tt σ2 H2 fun b H3 => if b = true then te σ2 H3 k else k0 H3)
    (hd : ∀ H, Same H1 H → H D = some (.lst (((List.range n).filter t).map e)) → Qd H) :
    ∃ W : Nat → Nat → Hp → Prop, (∃ m, W 0 m (upd H1 D (.lst []))) ∧ ∀ i m H, W i m H →
      (J.stop i H ∧ Qd H) ∨ (J.go i H ∧ ∃ Nx : Hp → Prop, (∀ H', Nx H' → ∃ m', m' < m ∧ W (i + 1) m' H') ∧ ∀ x H', J.yld i H x H' → g x (wipe σ vs) H' fun σ2 H2 => wipe σ2 vs = wipe σ vs ∧ tt σ2 H2 fun b H3 =>
        if b = true then te σ2 H3 fun y H4 => ∃ acc, H4 D = some (.lst acc) ∧ acc.length < sizeLine ∧ Nx (upd H4 D (.lst (acc ++ [y]))) else Nx H3) := by
  have put : ∀ (H : Hp) (o : HO), Same H1 H → Same H1 (upd H D o) := fun H o s b u eb => by
    rw [upd_ne (ne_of_none eb hD)]
    exact s b u eb
  have step : ∀ i, (List.range (i + 1)).filter t = (List.range i).filter t ++ (if t i = true then [i] else []) := fun i => by
    rw [List.range_succ, List.filter_append]
    cases h : t i <;> simp [h]
  refine lc_it (g := g) (tt := tt) (te := te) (vs := vs) (σ := σ) w (fun i H => Same H1 H ∧ H D = some (.lst (((List.range i).filter t).map e))) ⟨put _ _ (Same.refl _), by simpa using upd_same⟩ (fun i H _ h => hG H h.1) (fun i x H H' hi h hy => ?_) (fun H h => hd H h.1 h.2)
  obtain ⟨s1, h1⟩ := h
  have hl : (((List.range i).filter t).map e).length ≤ i := by
    rw [List.length_map]
    exact Nat.le_trans (List.length_filter_le _ _) (by rw [List.length_range]; exact Nat.le_refl _)
  refine hs i x H H' _ _ hi s1 hy (fun ht H4 s4 => ?_) (fun ht H4 s4 => ?_)
  · refine ⟨_, s4 _ _ h1, by rw [sizeLine_eq]; omega, put _ _ (s1.trans s4), ?_⟩
    rw [upd_same, step, if_pos ht, List.map_append]
    rfl
  · refine ⟨s1.trans s4, ?_⟩
    rw [step, if_neg (by rw [ht]; decide), List.append_nil]
    exact s4 _ _ h1
/-- len of a list or a tuple, where a comprehension's block runs -/
def rLenK (K : PySem.W.Frag) : List V → Hp → VK → Prop := fun xs H Q => ∃ p ys, xs = [.ref p] ∧ (SqL K H p ys ∨ SqT K H p ys) ∧ Q (.int ys.length) H
theorem call_lenK {X : Cx} (K : PySem.W.Frag) (hK : X.K = K) : CallR X (.builtin "len") (rLenK K) := by
  subst hK
  exact call_len_seq
theorem filt_all {n : Nat} (e : Nat → V) : ((List.range n).filter fun _ => true).map e = (List.range n).map e := by rw [List.filter_eq_self.mpr fun _ _ => rfl]
/-- bools by place -/
theorem bls_map {n : Nat} (b : Nat → Bool) : (List.range n).map (fun i => V.bl (b i)) = ((List.range n).map b).map V.bl := by rw [List.map_map]; rfl
theorem all_at {α : Type} (l : List α) (t : α → Bool) (d : α) : ((List.range l.length).map fun i => t (l.getD i d)).all id = l.all t := by
  induction l with
  | nil => rfl
  | cons a l ih =>
    rw [List.length_cons, List.range_succ_eq_map, List.map_cons, List.all_cons, List.map_map, List.all_cons, ← ih]
    rfl
theorem none_at {α : Type} (l : List α) (t : α → Bool) (d : α) : decide (((List.range l.length).filter fun i => !t (l.getD i d)) = []) = l.all t := by
  rw [Bool.eq_iff_iff, decide_eq_true_eq, List.filter_eq_nil_iff, List.all_eq_true]
  constructor
  · intro h a ha
    obtain ⟨i, hi, rfl⟩ := List.mem_iff_getElem.mp ha
    have := h i (List.mem_range.mpr hi)
    rw [List.getD_eq_getElem?_getD, List.getElem?_eq_getElem hi] at this
    simpa using this
  · intro h i hi
    have hi := List.mem_range.mp hi
    rw [List.getD_eq_getElem?_getD, List.getElem?_eq_getElem hi]
    simpa using h _ (List.getElem_mem hi)
theorem eqv_map_nil {α : Type} (l : List α) (e : α → PyData) : PyData.eqv (.list (l.map e)) (.list []) = decide (l = []) := by
  cases l <;> simp [PyData.eqv, PyData.eqvAll]
theorem dp_const {K : PySem.W.Frag} {H : Hp} {α : Type} : ∀ l : List α, DpAll K H (l.map fun _ => V.int 1) (l.map fun _ => PyData.int 1)
  | [] => .nil
  | _ :: l => .cons (.int 1) (dp_const l)
end Ag

end
/-! ## SetS -/
section
set_option linter.all false
set_option maxRecDepth 100000
namespace Ag
open PySem PySem.Spec PyProof.Rows L2
/-! ### set(xs) of a list of unlike texts, its length -/
section
variable {P : Program} {w : World} {A : Around}
/-- the first i of the texts are in the set -/
abbrev InS (P : Program) (w : World) (h : Heap) (S : Addr) (ks : List Str) (i : Nat) : Prop := h.SetOf (strKind P w) S (fun k => decide (k ∈ ks.take i)) i
theorem InS.at_ {h h' : Heap} {S : Addr} {ks : List Str} {i : Nat} (q : InS P w h S ks i) (k : ∀ o, h.get? S = some o → h'.get? S = some o) : InS P w h' S ks i := by
  obtain ⟨o, es, ep, tb, ho, r⟩ := q
  exact ⟨o, es, ep, tb, k o ho, r⟩
theorem fill {I S : Addr} {fp wr : List Addr} {G : Array GenState → Array GenState → Prop} {n : Nat} {Pv : Nat → Value → Prop} {St : Nat → Shared → Prop} {R : Result → Shared → Prop} {ks : List Str}
    (W : WalksS P w A.in1 I fp wr G n Pv St) (nS : S ∉ fp) (hn : ks.length = n) (hb : n + 1 < scanBound) (nd : ks.Nodup) (hv : ∀ i v, Pv i v → ∃ k t, ks[i]? = some k ∧ v = .str k t) (m : Nat) :
    ∀ (i : Nat) (s : Shared), i + m = n → St i s → InS P w s.heap S ks i → (∀ s', Moved (S :: wr) G s s' → InS P w s'.heap S ks n → R (.ok (.ret .none)) s') → codeAny (model P w) A (.builtin "set.update.loop" ⟨[.ref S, .ref I], []⟩) R s := by
  have nW : S ∉ wr := fun z => nS (W.sub _ z)
  have more : ∀ b ∈ wr, b ∈ S :: wr := fun b z => List.mem_cons_of_mem _ z
  induction m with
  | zero =>
    rintro i s rfl st q fin
    refine codeAny_builtin F.entry_set_update_loop (by
      rw [Around.under_plainId F.plain_set_update_loop _]
      exact show wpAny _ A.in1 (pyNext (.ref I) >>= _) _ _ s from wpAny_bind (W.done s _ _ st fun s' mv => show wpAny _ A.in1 (ret Value.none) _ _ s' from wpAny_pure (fin s' (mv.mono more) (q.at_ fun o e => mv.heap S o nW e))))
  | succ m ih =>
    rintro i s hi st q fin
    have lt : i < n := by omega
    refine codeAny_builtin F.entry_set_update_loop ?_
    rw [Around.under_plainId F.plain_set_update_loop _]
    refine show wpAny _ A.in1 (pyNext (.ref I) >>= _) _ _ s from wpAny_bind (W.item i s _ _ lt st fun v s1 pv st1 mv => ?_)
    obtain ⟨k, t, hk, rfl⟩ := hv i v pv
    have new : k ∉ ks.take i := by
      intro z
      obtain ⟨j, hj, e⟩ := List.mem_iff_getElem.mp z
      rw [List.length_take] at hj
      rw [List.getElem_take] at e
      have e2 : ks[j]? = ks[i]? := by rw [hk, List.getElem?_eq_getElem (by omega), e]
      have := (List.getElem?_inj (by omega) nd).mp e2
      omega
    have q1 := q.at_ fun o e => mv.heap S o nW e
    refine show wpAny _ A.in1 (holding [Value.str k t] (setAdd S (.str k t)) >>= _) _ _ s1 from wpAny_bind (wpAny_holding ?_)
    unfold setAdd
    refine wpAny_holding (wpAny_bind ((strKind P w).pyHash (k := k) (strKind_is _ _ _ _) (wpAny_setAddHashed_of (knd := strKind P w) (s := { s1 with toks := s1.toks + 1 }) (strKind_is _ _ _ _) rfl q1 (by omega) fun h' but q2 => ?_)))
    rw [show decide (k ∈ ks.take i) = false from decide_eq_false new] at q2
    have q3 : InS P w h' S ks (i + 1) := SetOf_congr q2 (fun j => by
      rw [List.take_add_one, hk]
      simp [List.mem_append]) rfl
    have out : ∀ b o, b ≠ S → s1.heap.get? b = some o → h'.get? b = some o := fun b o z e => (but.2 b z).trans e
    refine wpAny_pure ⟨plainId_quiet F.plain_set_update_loop _, ih (i + 1) _ (by omega) (W.frame _ s1 _ _ st1 (Nat.le_succ _) fun b z o e => out b o (fun y => nS (y ▸ z)) e) q3 fun s2 mv2 q4 => ?_⟩
    exact fin s2 (Moved.trans W.gtrans ((mv.mono more).then_heap (Nat.le_succ _) fun b o z e => out b o (fun y => z (y ▸ List.mem_cons_self)) e) mv2) q4
end
theorem txt_at : ∀ {vs : List Value} {ks : List Str}, StrsAre vs ks → ∀ (i : Nat) (v : Value), vs[i]? = some v → ∃ k t, ks[i]? = some k ∧ v = .str k t
  | _, _, .nil, i, v, e => by simp at e
  | _, _, .cons x t r, 0, v, e => ⟨x, t, rfl, (Option.some.inj e).symm⟩
  | _, _, .cons x t r, i + 1, v, e => txt_at r i v e
section
variable {P : Program} {w : World} {A : Around} {E : Value → Shared → Prop} {s : Shared}
/-- a set's object as it is made -/
abbrev nilSet (w : World) : Obj := { cls := .type "set", dict := none, data := .set #[] 0 (.fresh 0 0 (!w.params.followText "set-order")) }
set_option maxHeartbeats 3200000 in
theorem set_txt {l : Addr} {its : Array Value} (ks : List Str) {Q : Value → Shared → Prop} (hh : A.handled = none) (hl : s.heap.IsList l its) (hit : StrsAre its.toList ks) (hb : ks.length + 1 < scanBound) (nd : ks.Nodup)
    (fin : ∀ (h' : Heap) (tk : Nat), InS P w h' s.heap.objs.size ks ks.length → (∀ b o, s.heap.get? b = some o → h'.get? b = some o) → Q (.ref s.heap.objs.size) { s with heap := h', toks := tk }) :
    wpAny (model P w) A (call (.type "set") [.ref l]) Q E s := by
  have esz : its.size = ks.length := by
    have q := StrsAre.len_eq hit
    rwa [Array.length_toList] at q
  obtain ⟨cc, tl, m0⟩ := F.called_set.mro
  have m1 := F.called_set.made
  have m2 := F.called_set.sub
  refine wpAny_call (codeAny_of_tree (show wpAny _ _ (callAny (.type "set") _) _ _ _ from wpAny_pure ⟨Code.quiet_builtin _ (by decide +kernel), codeAny_builtin F.entry_type_call ?_⟩))
  rw [Around.under_plain (weight_type_call_type "set" [.ref l] []) rfl]
  have m3 := F.called_set.notType
  have m4 := F.called_set.canCreate
  have m5 := F.typeCall_set_1 (.ref l)
  repeat (any_goals (first | assumption | wp_step))
  refine codeAny_mono (code_set_led1 (.ref l) (E := E) (Q₁ := fun ob s1 => ob = .ref s.heap.objs.size ∧ s1 = { s with heap := s.heap.push (nilSet w) }) ⟨rfl, rfl⟩) fun r s1 hr => ?_
  match r, hr with
  | .error e, hr => exact hr
  | .ok .next, hr => exact hr.elim
  | .ok .brk, hr => exact hr.elim
  | .ok .cont, hr => exact hr.elim
  | .ok (.ret ob), hr =>
    obtain ⟨rfl, rfl⟩ := hr
    have g1 : (s.heap.push (nilSet w)).get? s.heap.objs.size = some (nilSet w) := Heap.get?_push_size _ rfl
    have g2 : Shared.TypeIs { s with heap := s.heap.push (nilSet w) } (.ref s.heap.objs.size) "set" := ⟨_, g1, rfl⟩
    have m6 := F.called_set.init.lookup
    have m7 := F.called_set.init.bind (.ref s.heap.objs.size)
    repeat (any_goals (first | assumption | wp_step))
    refine codeAny_mono (codeAny_call_builtin (R := wants (fun r s2 => r = .none ∧ ∃ h' tk, s2 = { s with heap := h', toks := tk } ∧ InS P w h' s.heap.objs.size ks ks.length ∧
        (∀ b o, s.heap.get? b = some o → h'.get? b = some o)) E) F.called_set.init.plain F.entry_set_init (check_set_init_1 g2 ?_)) fun r2 s2 hr2 => ?_
    · obtain ⟨ol, e1, e2, nl, e3⟩ := hl
      obtain ⟨k1, k2, k3, k4⟩ := ol
      simp only at e2 e3
      subst e2 e3
      have g3 : (s.heap.push (nilSet w)).get? l = some { cls := .type "list", dict := k2, data := .seq its nl, slots := k4 } := Heap.get?_push_of_some _ e1
      have m8 := F.sub_list_set
      have m9 := F.sub_list_frozenset
      have ma : (Value.type "list" == Value.type "dict") = false := by decide
      have hl1 : (s.heap.push (nilSet w)).IsList l its := ⟨_, g3, rfl, nl, rfl⟩
      unfold Builtin.«set.__init__» noKeywords Builtin.Frozenset.updateFrom
      generalize hPI : pyIter = PI
      wp_walk
      subst hPI
      refine wpAny_pyIter_list hl1 (wpAny_bind (wpAny_runValue ?_))
      have lt := Heap.lt_size e1
      have hh3 : A.in1.in1.in1.handled = none := by simp [hh]
      have nI : l ≠ (s.heap.push (nilSet w)).objs.size := by
        rw [Heap.size_push]
        exact Nat.ne_of_lt (Nat.lt_succ_of_lt lt)
      have nS : s.heap.objs.size ∉ [(s.heap.push (nilSet w)).objs.size, l] := by
        rw [Heap.size_push]
        intro z
        rcases List.mem_cons.mp z with z | z
        · exact Nat.ne_of_lt (Nat.lt_succ_self _) z
        · exact Nat.ne_of_gt lt (List.mem_singleton.mp z)
      have vals : ∀ (i : Nat) (v : Value), its[i]? = some v → ∃ k t, ks[i]? = some k ∧ v = .str k t := fun i v hv => txt_at hit i v (by rw [Array.getElem?_toList]; exact hv)
      refine fill ((Walks.list hh3 _ l nI its).toS) nS esz.symm (by omega) nd vals its.size 0 _ (by omega) ⟨⟨_, Heap.get?_push_size _ rfl, rfl, rfl⟩, (hl1.push _)⟩ ?_ ?_
      · exact SetOf_congr ((setObjOf_fresh (knd := strKind P w) _).setOf (Heap.get?_push_of_some _ g1) (by unfold scanBound; omega)) (fun _ => rfl) rfl
      · intro s' hm hS'
        obtain ⟨h', q1, q2, tk', q3⟩ := s'
        obtain rfl : q1 = s.gens := hm.gens
        obtain rfl : q2 = s.drawn := hm.drawn
        obtain rfl : q3 = s.os := hm.os
        rw [esz] at hS'
        refine show wpAny _ _ _ _ _ _ from wpAny_pure (show wpAny _ _ (ret Value.none) _ _ _ from wpAny_pure ⟨rfl, h', tk', rfl, hS', fun b o e => ?_⟩)
        have b0 : b < s.heap.objs.size := Heap.lt_size e
        refine hm.heap b o ?_ (Heap.get?_push_of_some _ (Heap.get?_push_of_some _ e))
        rw [Heap.size_push]
        intro z
        rcases List.mem_cons.mp z with z | z
        · exact Nat.ne_of_lt b0 z
        · exact Nat.ne_of_lt (Nat.lt_succ_of_lt b0) (List.mem_singleton.mp z)
    · match r2, hr2 with
      | .error e, hr2 => exact hr2
      | .ok .next, hr2 => exact hr2.elim
      | .ok .brk, hr2 => exact hr2.elim
      | .ok .cont, hr2 => exact hr2.elim
      | .ok (.ret r), hr2 =>
        obtain ⟨rfl, h', tk, rfl, a1, a3⟩ := hr2
        repeat (any_goals (first | assumption | wp_step))
        exact fin _ _ a1 a3
end
end Ag

end
/-! ## SetS2 -/
section
set_option linter.all false
set_option maxRecDepth 100000
namespace Ag
open PySem PySem.Spec PyProof.Rows L2
section
variable {P : Program} {w : World}
/-- a set of unlike texts -/
def SetSO (P : Program) (w : World) (a : Addr) (ks : List Str) : HO := .ext fun h => InS P w h a ks ks.length
theorem setSO_new {H : Hp} {h : Heap} {a : Addr} {ks : List Str} (R : InS P w h a ks ks.length) : ObjOk P w H h a (SetSO P w a ks) := by
  have ⟨o, _, _, _, ho, _⟩ := R
  exact ⟨R, ⟨o, ho⟩, fun h1 h2 p k => InS.at_ p k⟩
section
variable {X : Cx}
def rSetS (K : PySem.W.Frag) (P : Program) (w : World) : List V → Hp → VK → Prop := fun xs H Q => ∃ (l : Addr) (ks : List Str), xs = [.ref l] ∧ SqL K H l (ks.map V.str) ∧ ks.length ≤ 1000 ∧ ks.Nodup ∧
  ∀ a, H a = none → Q (.ref a) (upd H a (SetSO P w a ks))
theorem cr_setS (hc : X.calm = true) : CallR X (.type "set") (rSetS X.K X.prog X.w) := by
  intro pins s σ H xs us Q I r h
  obtain ⟨l, ks, rfl, hs, hz, nd, q⟩ := h
  rw [Vals.ref1 r]
  obtain ⟨its, rv, pl, _⟩ := I.list hs
  refine set_txt ks (I.ok.hd hc) pl.isList (by simpa using Vals.strs rv) (by unfold scanBound; omega) nd fun h' tk R kp => ?_
  exact ⟨.ref _, _, I.laid (t' := tk) kp (Nat.le_refl _) (setSO_new R), rfl, q _ (I.hok.fresh (Nat.le_refl _))⟩
def rLenSetS (P : Program) (w : World) : List V → Hp → VK → Prop := fun xs H Q => ∃ (a : Addr) (ks : List Str), xs = [.ref a] ∧ H a = some (SetSO P w a ks) ∧ ks.length ≤ 1000 ∧ Q (.int (ks.length : Nat)) H
theorem cr_lenSetS : CallR X (.builtin "len") (rLenSetS X.prog X.w) := by
  intro pins s σ H xs us Q I r h
  obtain ⟨a, ks, rfl, ha, hn, q⟩ := h
  rw [Vals.ref1 r]
  obtain ⟨o, es, ep, t, ho, hex, hd, _, _, _, hf, he⟩ := (I.hok a _ ha).1
  exact call_len_set ho hex hd hf (by rw [he]; omega) ⟨.int ks.length, H, I.tok _, ⟨_, by rw [he]⟩, q⟩
end
end
end Ag

end
/-! ## EnumT -/
section
set_option linter.all false
set_option maxRecDepth 100000
namespace Ag
open PySem PySem.Spec PyProof.Rows L2
/-! ### for i, x in enumerate(tuple) -/
set_option maxHeartbeats 1000000 in
theorem new_enum {v : Value} {o : Obj} {C : Heap → Prop} (B : Begins v o C) : Meets (Builtin.«enumerate.__new__» ⟨[.type "enumerate", v], []⟩) (fun _ R s => C s.heap ∧
    R (.ok (.ret (.ref (s.heap.push o).objs.size))) { s with heap := (s.heap.push o).push { cls := .type "enumerate", data := .fields #[.none, .bool false, .ref s.heap.objs.size, rawInt 0, .none, .none] } }) := by
  refine .of_wp fun prog w A R s h => ?_
  obtain ⟨hp, gs, dr, tk, os⟩ := s
  obtain ⟨hC, h⟩ := h
  have sub := sub_enumerate
  have begin_ : ∀ {A' : Around} {E Q : Value → Shared → Prop}, Q (.ref hp.objs.size) ⟨hp.push o, gs, dr, tk, os⟩ → wpAny (model prog w) A' (pyIter v) Q E ⟨hp, gs, dr, tk, os⟩ := fun q => B.iter prog w _ _ ⟨hp, gs, dr, tk, os⟩ _ hC q
  wp_walk using begin_
  refine wpAny_stack_any fun _ => wpAny_pure ?_
  split
  · rename_i c _ _ _ _ _
    cases (c == Value.type "enumerate") <;> (wp_walk using begin_; exact ⟨_, rfl, h⟩)
  · wp_walk using begin_
    exact ⟨_, rfl, h⟩
theorem call_enum {prog : Program} {w : World} {A : Around} {E Q : Value → Shared → Prop} {s : Shared} {v : Value} {o : Obj} {C : Heap → Prop} (B : Begins v o C) (hC : C s.heap)
    (k : ∀ h', IsEnum h' (s.heap.objs.size + 1) s.heap.objs.size 0 .none → h'.get? s.heap.objs.size = some o → (∀ b u, s.heap.get? b = some u → h'.get? b = some u) → Q (.ref (s.heap.objs.size + 1)) { s with heap := h' }) :
    wpAny (model prog w) A (call (.type "enumerate") [v]) Q E s := by
  refine callType_new F.called_enumerate (by decide) (F.typeCall_enumerate_1 _) (F.newCall_enumerate_1 _) (fun obj => F.args_object_init_2 obj _) F.entry_enumerate_new (new_enum B) ⟨hC, ?_⟩
  have sz : (s.heap.push o).objs.size = s.heap.objs.size + 1 := Heap.size_push ..
  rw [sz]
  have cell := Heap.get?_push_size (s.heap.push o) (o := { cls := .type "enumerate", data := .fields #[.none, .bool false, .ref s.heap.objs.size, rawInt 0, .none, .none] }) rfl
  rw [sz] at cell
  exact ⟨⟨_, cell, rfl⟩, k _ cell (Heap.get?_push_of_some _ (Heap.get?_push_size _ B.free)) fun b u e => Heap.get?_push_of_some _ (Heap.get?_push_of_some _ e)⟩
def IteT (K : PySem.W.Frag) (a : Addr) : It where
  go i H := ∃ (xs : List V) (x : V), SqT K H a xs ∧ xs[i]? = some x
  yld i H v H' := ∃ T x, v = .ref T ∧ H T = none ∧ H' = upd H T (.tup [.int (i : Nat), x]) ∧ ∀ xs, SqT K H a xs → xs[i]? = some x
  stop i H := ∃ xs : List V, SqT K H a xs ∧ i = xs.length
theorem turn_enumT {P : Program} {w : World} {K : PySem.W.Frag} {elts : List Expr} {kk : Nat} {tpos : Pos} (e it a : Addr) (nea : e ≠ a) (nia : it ≠ a) :
    Turn P w K (.Tuple elts kk tpos) (IteT K a) [e, it] e (fun i h => (∃ old, IsEnum h e it ((i : Nat) : Int) old) ∧ h.IsTupleIter it a i ∧ e ≠ it) where
  mem := List.mem_cons_self
  obj := by
    rintro i h ⟨⟨old, he⟩, ⟨o, ho, _, hd⟩, _⟩ b hb
    simp only [List.mem_cons, List.not_mem_nil, or_false] at hb
    rcases hb with rfl | rfl
    · exact ⟨_, he, fun v q => by cases q⟩
    · exact ⟨o, ho, fun v q => by rw [hd] at q; cases q⟩
  keep := by
    rintro i h h' ⟨⟨old, he⟩, h2, ne⟩ k
    exact ⟨⟨old, k e (by simp) _ he⟩, h2.at fun o q => k it (by simp) o q, ne⟩
  item := by
    intro X hP hw hK hc i pins s σ H E I hf st hg
    subst hP hw hK
    obtain ⟨⟨old, he⟩, h2, ne⟩ := st
    obtain ⟨xs, x, hq, hx⟩ := hg
    obtain ⟨its, rv, p2, _⟩ := I.tuple hq
    obtain ⟨u2, hu2, ru2⟩ := rv.get hx
    have el : e < s.heap.objs.size := Heap.lt_size he
    have il : it < s.heap.objs.size := by obtain ⟨_, q, _⟩ := h2; exact Heap.lt_size q
    have D := Draws.tuple (prog := X.prog) (w := X.w) (A := X.A.in1) (I.ok.hd hc) it a nia.symm its.toArray
    have lt : i < its.toArray.size := by
      have := (List.getElem?_eq_some_iff.mp hu2).1
      simpa using this
    have eF : e ∉ [it, a] := by
      simp only [List.mem_cons, List.not_mem_nil, or_false, not_or]
      exact ⟨ne, nea⟩
    refine wpAny_pyNext_enum_itemD D he ⟨h2, p2⟩ lt ne eF ?_
    rintro v h' tk ev ho st' hT hsz hk
    have q2 : v = u2 := by
      have : its[i]? = some v := by simpa using ev
      rw [hu2] at this
      exact (Option.some.inj this).symm
    subst q2
    refine ⟨_, rfl, wpAny_letOwnedTupleGo_enum (s := { s with heap := h', toks := tk + 1 }) ho fun h'' he' sb => ?_⟩
    have hT2 : h''.get? s.heap.objs.size = some { cls := .type "tuple", data := .seq #[.int i tk, v] } := (sb.2 _ (Nat.ne_of_gt el)).trans hT
    have new : ObjOk X.prog X.w (upd H s.heap.objs.size (.tup [.int (i : Nat), x])) h'' s.heap.objs.size (.tup [.int (i : Nat), x]) := ⟨(by show 2 ≤ sizeLine; decide), [.int i tk, v], .cons ⟨tk, rfl⟩ (.cons ru2 .nil), ⟨_, hT2, rfl, _, rfl⟩⟩
    have I1 : Inv X pins σ (upd H s.heap.objs.size (.tup [.int (i : Nat), x])) { s with heap := h'', toks := tk + 1 } := by
      refine I.turnedNew (ch := [e, it]) (fun b u hb q => ?_) hf (Nat.le_refl _) new
      simp only [List.mem_cons, List.not_mem_nil, or_false, not_or] at hb
      exact (sb.2 b hb.1).trans (hk b u hb.1 hb.2 q)
    have e1 : ((i + 1 : Nat) : Int) = (i : Int) + 1 := by omega
    refine ⟨.ref s.heap.objs.size, _, I1, rfl, ⟨_, x, rfl, I.hok.fresh (Nat.le_refl _), rfl, fun l hl => by rw [I.tuple_inj hl hq]; exact hx⟩, ⟨⟨_, by rw [e1]; exact he'⟩, st'.1.at fun o q => (sb.2 _ ne.symm).trans q, ne⟩, fun b hb => ?_⟩
    have lt : b < s.heap.objs.size := by
      simp only [List.mem_cons, List.not_mem_nil, or_false] at hb
      rcases hb with rfl | rfl
      · exact el
      · exact il
    rw [upd_ne (Nat.ne_of_lt lt)]
    exact (hf b hb).1
  done := by
    intro X hP hw hK hc i pins s σ H E I hf st hg
    subst hP hw hK
    obtain ⟨⟨old, he⟩, h2, ne⟩ := st
    obtain ⟨xs, hq, hi⟩ := hg
    obtain ⟨its, rv, p2, _⟩ := I.tuple hq
    obtain ⟨f0, f1, f2, f3, f4, f5⟩ := hf it (List.mem_cons_of_mem _ List.mem_cons_self)
    have ln := rv.length
    have es : its.toArray.size = its.length := List.size_toArray ..
    obtain rfl : i = its.toArray.size := by omega
    have D := Draws.tuple (prog := X.prog) (w := X.w) (A := X.A.in1) (I.ok.hd hc) it a nia.symm its.toArray
    exact wpAny_pyNext_enum_endD D he ⟨h2, p2⟩ fun h' eb => ⟨rfl, I.turned (t' := s.toks) (fun b o hb q => eb b o hb q) f0 f1 f3 f4 f5⟩
  self := fun A i s Q E st h => st.1.elim fun _ z => wpAny_pyIter_enum z h
def iEnumT (K : PySem.W.Frag) (ta : TA) : TI := fun σ H R => ta σ H fun vs H1 => ∃ a xs, vs = [.ref a] ∧ SqT K H1 a xs ∧ R (IteT K a) H1
theorem pi_enumT {X : Cx} {e : Expr} {ta : TA} {p pos tpos : Pos} {elts : List Expr} {kk : Nat} (hg : Gl X "enumerate") (hm : X.mg "enumerate" = none) (ha : PA X [e] ta) (hs : starEach [e] X.env = [(false, eval e X.env)] := by rfl) :
    PI X (.Tuple elts kk tpos) (.Call (.Name "enumerate" p) [e] [] pos) (iEnumT X.K ta) := by
  constructor
  intro pins s σ H R I h
  refine Call_ (ld_blt I hg hm boot_enumerate (PyProof.Rows.callWith_type1 (thn (ha.run pos pins s σ H _ I h) ?_) hs rfl))
  rintro us s1 ⟨vs, H1, I1, r1, a, xs, rfl, hq, q⟩
  rw [Vals.ref1 r1]
  obtain ⟨its, rv, p2, _⟩ := I1.tuple hq
  have la : a < s1.heap.objs.size := by
    obtain ⟨o, e, _⟩ := id p2
    exact Heap.lt_size e
  refine call_enum (begins_tuple a its.toArray) p2 fun h' he g1 hk => wpAny_pyIter_enum he ?_
  have I2 : Inv X pins σ H1 { s1 with heap := h' } := I1.kept (t' := s1.toks) hk
  refine ⟨s1.heap.objs.size + 1, [s1.heap.objs.size + 1, s1.heap.objs.size], _, _, H1, rfl, I2, turn_enumT (s1.heap.objs.size + 1) s1.heap.objs.size a (Nat.ne_of_gt (Nat.lt_succ_of_lt la)) (Nat.ne_of_gt la), ⟨⟨_, he⟩, ⟨_, g1, rfl, rfl⟩, Nat.succ_ne_self _⟩, fun c hcm => ?_, q⟩
  have hle : s1.heap.objs.size ≤ c := by
    simp only [List.mem_cons, List.not_mem_nil, or_false] at hcm
    rcases hcm with rfl | rfl <;> first | exact Nat.le_add_right _ _ | exact Nat.le_refl _
  exact I1.fpOk hle (I1.hok.fresh hle)
end Ag

end
/-! ## SumT -/
section
set_option linter.all false
set_option maxRecDepth 100000
namespace Ag
open PySem PySem.Spec PyProof.Rows L2
/-! ### sum of a tuple of ints -/
theorem pre_sum (ns : List Int) : ∀ j, j ≤ ns.length → preSum (fun i => ns.getD i 0) j = (ns.take j).sum
  | 0, _ => by simp [preSum]
  | j + 1, h => by
    have h' : j < ns.length := h
    have e : (ns.take (j + 1)).sum = (ns.take j).sum + ns[j] := by
      rw [List.take_add_one, List.getElem?_eq_getElem h', List.sum_append]
      show _ + List.sum [ns[j]] = _
      simp
    have e2 : ns.getD j 0 = ns[j] := by simp [List.getD_eq_getElem?_getD, h']
    rw [preSum, pre_sum ns j (by omega), e, e2]
section
variable {X : Cx}
def rSumT (K : PySem.W.Frag) : List V → Hp → VK → Prop := fun vs H Q => ∃ (a : Addr) (ns : List Int), vs = [V.ref a] ∧ SqT K H a (ns.map V.int) ∧ Q (.int ns.sum) H
theorem cr_sumT (hc : X.calm = true) : CallR X (.builtin "sum") (rSumT X.K) := by
  intro pins s σ H xs us Q I r h
  obtain ⟨a, ns, rfl, hs, q⟩ := h
  rw [Vals.ref1 r]
  obtain ⟨its, rv, pl, _⟩ := I.tuple hs
  have lt : a < s.heap.objs.size := by
    obtain ⟨o, e, _⟩ := id pl
    exact Heap.lt_size e
  have ln := rv.length
  rw [List.length_map] at ln
  have hd : X.A.in1.handled = none := I.ok.hd hc
  refine call_sum_walkG (wpAny_pyIter_tuple (show s.heap.IsTuple a its.toArray from pl) ⟨s.heap.objs.size, [s.heap.objs.size, a], [s.heap.objs.size], _, _, _, fun i => ns.getD i 0, rfl, Walks.tuple hd _ a (Nat.ne_of_lt lt) its.toArray,
    ⟨⟨_, Heap.get?_push_size _ rfl, rfl, rfl⟩, (show s.heap.IsTuple a its.toArray from pl).push _⟩, fun b hb => ?_, fun i v hv => ?_, fun h' tk t' hk => ?_⟩)
  · rw [Heap.size_push]
    simp only [List.mem_cons, List.not_mem_nil, or_false] at hb
    rcases hb with rfl | rfl
    · exact Nat.lt_succ_self _
    · exact Nat.lt_succ_of_lt lt
  · obtain ⟨t, e⟩ := IntsAre.int_at rv.ints i v (by simpa using hv)
    exact ⟨t, e⟩
  · rw [List.size_toArray, ← ln, pre_sum ns _ (Nat.le_refl _), List.take_length]
    exact ⟨.int _, H, I.kept fun b o e => hk b o (fun z => Nat.ne_of_lt (Heap.lt_size e) (List.mem_singleton.mp z)) (Heap.get?_push_of_some _ e), ⟨_, rfl⟩, q⟩
end
end Ag

end
/-! ## ZipTL -/
section
set_option linter.all false
set_option maxRecDepth 100000
namespace Ag
open PySem PySem.Spec PyProof.Rows L2
/-! ### zip(tuple, list) -/
def ItzTL (K : PySem.W.Frag) (a b : Addr) : It where
  go i H := ∃ (xs ys : List V) (x y : V), SqT K H a xs ∧ SqL K H b ys ∧ xs[i]? = some x ∧ ys[i]? = some y
  yld i H v H' := ∃ T x y, (v = .ref T ∧ H T = none ∧ H' = upd H T (.tup [x, y])) ∧ (∀ xs, SqT K H a xs → xs[i]? = some x) ∧ ∀ ys, SqL K H b ys → ys[i]? = some y
  stop i H := ∃ xs ys : List V, SqT K H a xs ∧ SqL K H b ys ∧ i = min xs.length ys.length
theorem turn_zipTL {P : Program} {w : World} {K : PySem.W.Frag} {elts : List Expr} {kk : Nat} {tpos : Pos} {a b z TI TO i1 i2 : Addr} (D : ZipSep2 z TI TO i1 i2 [i1, a] [i2, b]) (na : a ≠ i1) (nb : b ≠ i2) :
    Turn P w K (.Tuple elts kk tpos) (ItzTL K a b) [z, TI, TO, i1, i2] z (fun i h => IsZip h z TI TO .none ∧ IsTupOf2 h TI (.ref i1) (.ref i2) ∧ (∃ x y, IsTupOf2 h TO x y) ∧ h.IsTupleIter i1 a i ∧ h.IsListIter i2 b i) where
  mem := List.mem_cons_self
  obj := by
    rintro i h ⟨hz, hTI, ⟨x, y, hTO⟩, ⟨o1, e1, _, d1⟩, ⟨o2, e2, _, d2⟩⟩ c hc
    simp only [List.mem_cons, List.not_mem_nil, or_false] at hc
    rcases hc with rfl | rfl | rfl | rfl | rfl
    · exact ⟨_, hz, fun v q => by cases q⟩
    · exact ⟨_, hTI, fun v q => by cases q⟩
    · exact ⟨_, hTO, fun v q => by cases q⟩
    · exact ⟨o1, e1, fun v q => by rw [d1] at q; cases q⟩
    · exact ⟨o2, e2, fun v q => by rw [d2] at q; cases q⟩
  keep := by
    rintro i h h' ⟨hz, hTI, ⟨x, y, hTO⟩, h1, h2⟩ k
    exact ⟨k z (by simp) _ hz, k TI (by simp) _ hTI, ⟨x, y, k TO (by simp) _ hTO⟩, h1.at fun o q => k i1 (by simp) o q, h2.at fun o q => k i2 (by simp) o q⟩
  item := by
    intro X hP hw hK hc i pins s σ H E I hf st hg
    subst hP hw hK
    obtain ⟨hz, hTI, ⟨x0, y0, hTO⟩, h1, h2⟩ := st
    obtain ⟨xs, ys, x, y, hqx, hqy, hx, hy⟩ := hg
    obtain ⟨its1, rv1, p1, _⟩ := I.tuple hqx
    obtain ⟨its2, rv2, p2, _⟩ := I.list hqy
    obtain ⟨u1, hu1, ru1⟩ := rv1.get hx
    obtain ⟨u2, hu2, ru2⟩ := rv2.get hy
    have hzl : z < s.heap.objs.size := Heap.lt_size hz
    have D1 := Draws.tuple (prog := X.prog) (w := X.w) (A := X.A.in1) (I.ok.hd hc) i1 a na its1.toArray
    have D2 := Draws.list (prog := X.prog) (w := X.w) (A := X.A.in1) (I.ok.hd hc) i2 b nb its2.toArray
    have l1 : i < its1.toArray.size := by
      have := (List.getElem?_eq_some_iff.mp hu1).1
      simpa using this
    have l2 : i < its2.toArray.size := by
      have := (List.getElem?_eq_some_iff.mp hu2).1
      simpa using this
    refine wpAny_pyNext_zipD2_item D D1 D2 hz hTI hTO ⟨h1, p1⟩ ⟨h2, p2.isList⟩ l1 l2 ?_
    intro x1 x2 h' tk e1 e2 z' TO' st1 st2 hT hsz hk
    have q1 : x1 = u1 := by
      have : its1[i]? = some x1 := by simpa using e1
      rw [hu1] at this
      exact (Option.some.inj this).symm
    have q2 : x2 = u2 := by
      have : its2[i]? = some x2 := by simpa using e2
      rw [hu2] at this
      exact (Option.some.inj this).symm
    subst q1 q2
    refine ⟨_, rfl, wpAny_letOwnedTupleGo_zip (s := { s with heap := h', toks := tk }) z' fun h'' z'' sb => ?_⟩
    have hT2 : h''.get? s.heap.objs.size = some { cls := .type "tuple", data := .seq #[x1, x2] } := (sb.2 _ (Nat.ne_of_gt hzl)).trans hT
    have new : ObjOk X.prog X.w (upd H s.heap.objs.size (.tup [x, y])) h'' s.heap.objs.size (.tup [x, y]) := ⟨(by show 2 ≤ sizeLine; decide), [x1, x2], .cons ru1 (.cons ru2 .nil), ⟨_, hT2, rfl, _, rfl⟩⟩
    have I1 : Inv X pins σ (upd H s.heap.objs.size (.tup [x, y])) { s with heap := h'', toks := tk } := by
      refine I.turnedNew (t' := tk) (ch := [z, TI, TO, i1, i2]) (fun c o hb q => ?_) hf (Nat.le_refl _) new
      simp only [List.mem_cons, List.not_mem_nil, or_false, not_or] at hb
      exact (sb.2 c hb.1).trans (hk c o hb.1 hb.2.2.1 hb.2.2.2.1 hb.2.2.2.2 q)
    refine ⟨.ref s.heap.objs.size, _, I1, rfl, ⟨_, x, y, ⟨rfl, I.hok.fresh (Nat.le_refl _), rfl⟩, fun l hl => by rw [I.tuple_inj hl hqx]; exact hx, fun l hl => by rw [I.list_inj hl hqy]; exact hy⟩, ⟨z'', ?_, ⟨x1, x2, ?_⟩, ?_, ?_⟩, fun c hcm => ?_⟩
    · exact (sb.2 _ D.TIz).trans (hk _ _ D.TIz D.TITO D.TIi1 D.TIi2 hTI)
    · exact (sb.2 _ D.TOz).trans TO'
    · exact st1.1.at fun o q => (sb.2 _ (Ne.symm D.zi1)).trans q
    · exact st2.1.at fun o q => (sb.2 _ (Ne.symm D.zi2)).trans q
    · have hlt : c < s.heap.objs.size := by
        simp only [List.mem_cons, List.not_mem_nil, or_false] at hcm
        rcases hcm with rfl | rfl | rfl | rfl | rfl
        · exact hzl
        · exact Heap.lt_size hTI
        · exact Heap.lt_size hTO
        · exact h1.elim fun _ q => Heap.lt_size q.1
        · exact h2.elim fun _ q => Heap.lt_size q.1
      rw [upd_ne (Nat.ne_of_lt hlt)]
      exact (hf c hcm).1
  done := by
    intro X hP hw hK hc i pins s σ H E I hf st hg
    subst hP hw hK
    obtain ⟨hz, hTI, ⟨x0, y0, hTO⟩, h1, h2⟩ := st
    obtain ⟨xs, ys, hqx, hqy, hi⟩ := hg
    obtain ⟨its1, rv1, p1, _⟩ := I.tuple hqx
    obtain ⟨its2, rv2, p2, _⟩ := I.list hqy
    have l1 := rv1.length
    have l2 := rv2.length
    have D1 := Draws.tuple (prog := X.prog) (w := X.w) (A := X.A.in1) (I.ok.hd hc) i1 a na its1.toArray
    have D2 := Draws.list (prog := X.prog) (w := X.w) (A := X.A.in1) (I.ok.hd hc) i2 b nb its2.toArray
    have s1 : its1.toArray.size = its1.length := List.size_toArray ..
    have s2 : its2.toArray.size = its2.length := List.size_toArray ..
    refine wpAny_pyNext_zipD2_end D D1 D2 hz hTI hTO ⟨h1, p1⟩ ⟨h2, p2.isList⟩ (by omega) (by omega) (by omega) fun h' tk hk => ⟨rfl, I.turnedL (t' := tk) (ch := [z, TI, TO, i1, i2]) (fun c o hb q => ?_) hf⟩
    simp only [List.mem_cons, List.not_mem_nil, or_false, not_or] at hb
    exact hk c o hb.1 hb.2.2.1 hb.2.2.2.1 hb.2.2.2.2 q
  self := fun A i s Q E st h => wpAny_pyIter_zip st.1 h
def iZipTL (K : PySem.W.Frag) (ta : TA) : TI := fun σ H R => ta σ H fun vs H1 => ∃ a b xs ys, vs = [.ref a, .ref b] ∧ SqT K H1 a xs ∧ SqL K H1 b ys ∧ R (ItzTL K a b) H1
theorem pi_zipTL {X : Cx} {e e2 : Expr} {ta : TA} {p pos tpos : Pos} {elts : List Expr} {kk : Nat} (hg : Gl X "zip") (hm : X.mg "zip" = none) (ha : PA X [e, e2] ta) (hs : starEach [e, e2] X.env = (false, eval e X.env) :: starEach [e2] X.env := by rfl)
    (hpl : (backTo pos (starEach [e2] X.env)).any (·.1) = false := by rfl) : PI X (.Tuple elts kk tpos) (.Call (.Name "zip" p) [e, e2] [] pos) (iZipTL X.K ta) := by
  constructor
  intro pins s σ H R I h
  refine Call_ (ld_blt I hg hm PyProof.Rows.boot_zip (PyProof.Rows.callWith_type1 (thn (ha.run pos pins s σ H _ I h) ?_) hs hpl))
  rintro us s1 ⟨vs, H1, I1, r1, a, b, xs, ys, rfl, hqx, hqy, q⟩
  match us, r1 with
  | [_, _], .cons r (.cons r' .nil) =>
    cases r
    cases r'
    obtain ⟨its1, rv1, p1, _⟩ := I1.tuple hqx
    obtain ⟨its2, rv2, p2, _⟩ := I1.list hqy
    have la : a < s1.heap.objs.size := by
      obtain ⟨o, e, _⟩ := id p1
      exact Heap.lt_size e
    have lb : b < s1.heap.objs.size := p2.lt
    refine zip_begins2 (begins_tuple a its1.toArray) (begins_list b its2.toArray) p1 p2.isList fun h' hz hTI hTO g1 g2 hsz hk => wpAny_pyIter_zip hz ?_
    have I2 : Inv X pins σ H1 { s1 with heap := h' } := I1.kept (t' := s1.toks) hk
    refine ⟨s1.heap.objs.size + 4, [s1.heap.objs.size + 4, s1.heap.objs.size + 2, s1.heap.objs.size + 3, s1.heap.objs.size, s1.heap.objs.size + 1], _, _, H1, rfl, I2, turn_zipTL (zip_sep2 (by simp; exact la) (by simp; exact lb)) (Nat.ne_of_lt la) (Nat.ne_of_lt (Nat.lt_succ_of_lt lb)), ⟨hz, hTI, ⟨_, _, hTO⟩, ⟨_, g1, rfl, rfl⟩, ⟨_, g2, rfl, rfl⟩⟩, fun c hcm => ?_, q⟩
    have hle : s1.heap.objs.size ≤ c := by
      simp only [List.mem_cons, List.not_mem_nil, or_false] at hcm
      rcases hcm with rfl | rfl | rfl | rfl | rfl <;> first | exact Nat.le_add_right _ _ | exact Nat.le_refl _
    exact I1.fpOk hle (I1.hok.fresh hle)
end Ag

end
/-! ## GetL -/
section
set_option linter.all false
set_option maxRecDepth 100000
namespace Ag
open PySem PySem.Spec PyProof.Rows L2
/-! ### xs[i] += e, a list -/
section
variable {X : Cx}
def rGetL (K : PySem.W.Frag) : V → V → Hp → VK → Prop := fun o i H Q => ∃ (p : Addr) (xs : List V) (k : Nat) (v : V), o = .ref p ∧ i = .int (k : Int) ∧ SqL K H p xs ∧ xs[k]? = some v ∧ Q v H
theorem get_list : PGet X (rGetL X.K) := by
  intro pins s σ H o i ov iv Q I ro ri h
  obtain ⟨p, xs, k, v, rfl, rfl, hs, hv, q⟩ := h
  obtain rfl : ov = Value.ref p := ro
  obtain ⟨t, rfl⟩ := ri
  obtain ⟨its, rv, pl, hz⟩ := I.list hs
  obtain ⟨u, hu, ru⟩ := rv.get hv
  have hk : k < its.length := (List.getElem?_eq_some_iff.mp hu).1
  have ln := line63
  have lx := rv.length
  exact wpAny_getItem_list pl.isList (by omega) (by omega) (by simpa using hu) ⟨v, H, I, ru, q⟩
end
end Ag

end
/-! ## T0 -/
section
set_option linter.all false
set_option maxRecDepth 100000
namespace Ag
open PySem PySem.Spec PyProof.Rows L2
/-- by place, a new pair of the place and the item -/
def YEn (xs : List V) : Nat → Hp → V → Hp → Prop := fun i H v H' => ∃ T x, v = .ref T ∧ H T = none ∧ H' = upd H T (.tup [.int (i : Nat), x]) ∧ xs[i]? = some x
theorem walk_enumT {K : PySem.W.Frag} {a : Addr} {xs : List V} : Walk (IteT K a) xs.length (fun H => SqT K H a xs) (YEn xs) := by
  refine ⟨fun i H hi q => ⟨xs, xs[i], q, by simp [hi]⟩, fun H q => ⟨xs, q, rfl⟩, fun i H v H' _ q y => ?_⟩
  obtain ⟨T, x, h1, h2, h3, h4⟩ := y
  exact ⟨T, x, h1, h2, h3, h4 xs q⟩
theorem walk_zipTL {K : PySem.W.Frag} {a b : Addr} {xs ys : List V} (hl : xs.length = ys.length) : Walk (ItzTL K a b) xs.length (fun H => SqT K H a xs ∧ SqL K H b ys) (YPair (fun i => xs[i]?) (fun i => ys[i]?)) := by
  refine ⟨fun i H hi q => ⟨xs, ys, xs[i], ys[i]'(by omega), q.1, q.2, by simp [hi], by simp [hl ▸ hi]⟩, fun H q => ⟨xs, ys, q.1, q.2, by omega⟩, fun i H v H' _ q y => ?_⟩
  obtain ⟨T, x, z, ⟨h1, h2, h3⟩, h4, h5⟩ := y
  exact ⟨T, x, z, h1, h2, h3, h4 xs q.1, h5 ys q.2⟩
theorem CallR.or2 {X : Cx} {f : Value} {r1 r2 : List V → Hp → VK → Prop} (h1 : CallR X f r1) (h2 : CallR X f r2) : CallR X f (fun xs H Q => r1 xs H Q ∨ r2 xs H Q) := by
  intro pins s σ H xs us Q I r h
  rcases h with h | h
  · exact h1 pins s σ H xs us Q I r h
  · exact h2 pins s σ H xs us Q I r h
theorem cr_sumA {X : Cx} (hc : X.calm = true) : CallR X (.builtin "sum") (fun xs H Q => rSum X.K xs H Q ∨ rSumT X.K xs H Q) := CallR.or2 (cr_sum hc) (cr_sumT hc)
theorem ix_tupK {X : Cx} (K : PySem.W.Frag) (hK : X.K = K) : IxR X (rIxT K) := by
  subst hK
  exact ix_tup
theorem pe_of_K {X : Cx} (K : PySem.W.Frag) {e : Expr} (f : PySem.W.Frag → TE) (hK : X.K = K) (h : PE X e (f X.K)) : PE X e (f K) := hK ▸ h
/-- a target i, (j, l), where a comprehension's block runs -/
theorem pg_nest {X : Cx} (K : PySem.W.Frag) {i j l : Nat} {x y z : Str} {px py pz pt pu : Pos} {k k2 : Nat} (hc : X.calm = true) (hN : X.N.Nodup) (hi : X.N[i]? = some x) (hj : X.N[j]? = some y) (hl : X.N[l]? = some z) (hx : X.env.scope.names.lookup x = some .local) (hy : X.env.scope.names.lookup y = some .local) (hz : X.env.scope.names.lookup z = some .local) (hK : X.K = K) :
    PG X (.Tuple [.Name x px, .Tuple [.Name y py, .Name z pz] k2 pu] k pt) (gTup K 2 (gCons (gName i) (gCons (gTup K 2 (gCons (gName j) (gCons (gName l) gNil))) gNil))) := by
  subst hK
  exact pg_tup hc (pgs_cons (pg_name hN hi (.inl hx) (.inr hx)) (pgs_cons (pg_tup hc (pgs_cons (pg_name hN hj (.inl hy) (.inr hy)) (pgs_cons (pg_name hN hl (.inl hz) (.inr hz)) pgs_nil))) pgs_nil))
end Ag

end
/-! ## MinP -/
section
set_option linter.all false
set_option maxRecDepth 100000
namespace Ag
open PySem PySem.Spec PyProof.Rows L2
open PySem.W (DatumOrd Datum)
/-! ### min of a list of pairs of ints -/
def plt (p q : Int × Int) : Prop := p.1 < q.1 ∨ (p.1 = q.1 ∧ p.2 < q.2)
theorem lt_plt (p q : Int × Int) : DatumOrd.lt p q = true ↔ plt p q := by
  show (if p.1 = q.1 then decide (p.2 < q.2) else decide (p.1 < q.1)) = true ↔ _
  unfold plt
  split <;> rw [decide_eq_true_eq] <;> omega
theorem least_all : ∀ (xs : List (Int × Int)) (x : Int × Int), ∀ y ∈ x :: xs, ¬ plt y (PySem.W.minOf x xs)
  | [], x, y, hy => by
    rw [List.mem_singleton.mp hy]
    show ¬ plt x x
    unfold plt
    omega
  | z :: xs, x, y, hy => by
    have e : PySem.W.minOf x (z :: xs) = PySem.W.minOf (if DatumOrd.lt z x = true then z else x) xs := rfl
    rw [e]
    by_cases h : DatumOrd.lt z x = true
    · rw [if_pos h]
      rw [lt_plt] at h
      have ih := least_all xs z
      rcases List.mem_cons.mp hy with rfl | hy
      · have := ih z List.mem_cons_self
        revert this h
        generalize PySem.W.minOf z xs = m
        unfold plt
        omega
      · exact ih y hy
    · rw [if_neg h]
      rw [lt_plt] at h
      have ih := least_all xs x
      rcases List.mem_cons.mp hy with rfl | hy
      · exact ih _ List.mem_cons_self
      · rcases List.mem_cons.mp hy with rfl | hy
        · have := ih x List.mem_cons_self
          revert this h
          generalize PySem.W.minOf x xs = m
          unfold plt
          omega
        · exact ih y (List.mem_cons_of_mem _ hy)
section
variable {X : Cx}
abbrev pD (p : Int × Int) : PyData := .tuple [.int p.1, .int p.2]
theorem dp_ps {K : PySem.W.Frag} {H : Hp} : ∀ ks : List (Addr × (Int × Int)), (∀ k ∈ ks, H k.1 = some (.tup [.int k.2.1, .int k.2.2])) → DpAll K H (ks.map fun k => V.ref k.1) (ks.map fun k => pD k.2)
  | [], _ => .nil
  | k :: ks, h => .cons (.tup (SqT.of (h k List.mem_cons_self)) (.cons (.int _) (.cons (.int _) .nil))) (dp_ps ks fun j hj => h j (List.mem_cons_of_mem _ hj))
def rMinP (K : PySem.W.Frag) : List V → Hp → VK → Prop := fun vs H Q => ∃ (a : Addr) (ks : List (Addr × (Int × Int))), vs = [V.ref a] ∧ SqL K H a (ks.map fun k => V.ref k.1) ∧ ks ≠ [] ∧ (∀ k ∈ ks, H k.1 = some (.tup [.int k.2.1, .int k.2.2])) ∧
  ∀ k ∈ ks, (∀ j ∈ ks, ¬ plt j.2 k.2) → Q (.ref k.1) H
theorem cr_minP (hc : X.calm = true) (hu : X.A.units + 10 < cLine) : CallR X (.builtin "min") (rMinP X.K) := by
  intro pins s σ H vs us Q I r h
  obtain ⟨a, ks, rfl, hs, hne, hk, q⟩ := h
  rw [Vals.ref1 r]
  obtain ⟨its, rv, pl, _⟩ := I.list hs
  obtain ⟨k0, ks, rfl⟩ : ∃ k l, ks = k :: l := by
    cases ks with
    | nil => exact absurd rfl hne
    | cons k l => exact ⟨k, l, rfl⟩
  obtain ⟨as, rd⟩ := Dp.readsAll I _ _ _ (dp_ps (K := X.K) (k0 :: ks) hk) rv
  have HA : PySem.W.HoldAll s.heap its.toArray.toList (k0.2 :: ks.map (·.2)) := ⟨as, by
    have e : ((k0.2 :: ks.map (·.2)).map Datum.toD) = (k0 :: ks).map fun k => pD k.2 := by
      rw [List.map_cons, List.map_cons, List.map_map]
      rfl
    rw [e]
    simpa using rd⟩
  refine PySem.W.min_list_datum (I.ok.hd hc) pl.isList HA (by show X.A.units + 1 + 1 < cLine; omega) fun i v h' tk hv hm kp => ?_
  have hv : its[i]? = some v := by simpa using hv
  have hlt : i < its.length := (List.getElem?_eq_some_iff.mp hv).1
  have hl := rv.length
  rw [List.length_map] at hl
  obtain ⟨k, hki⟩ : ∃ k, (k0 :: ks)[i]? = some k := ⟨(k0 :: ks)[i]'(by omega), List.getElem?_eq_getElem (by omega)⟩
  have hmem := List.mem_of_getElem? hki
  obtain ⟨v', hv', rk⟩ := rv.get (show ((k0 :: ks).map fun k => V.ref k.1)[i]? = some (.ref k.1) by rw [List.getElem?_map, hki]; rfl)
  have ev : v' = v := by rw [hv] at hv'; exact (Option.some.inj hv').symm
  subst ev
  obtain ⟨bs, r1⟩ := hm
  obtain ⟨cs, r2⟩ := Dp.reads I _ _ _ (Dp.tup (SqT.of (hk k hmem)) (.cons (.int _) (.cons (.int _) .nil)) : Dp X.K H (.ref k.1) (pD k.2)) rk
  have e := (Reads.unique (PySem.W.reads_keeps kp r2) _ _ r1).1
  have ek : k.2 = PySem.W.minOf k0.2 (ks.map (·.2)) := by
    have e' : pD k.2 = pD (PySem.W.minOf k0.2 (ks.map (·.2))) := e
    simp only [pD, PyData.tuple.injEq, List.cons.injEq, PyData.int.injEq, and_true] at e'
    exact Prod.ext e'.1 e'.2
  refine ⟨.ref k.1, H, I.kept kp, rk, q k hmem fun j hj => ?_⟩
  rw [ek]
  refine least_all (ks.map (·.2)) k0.2 j.2 ?_
  rcases List.mem_cons.mp hj with rfl | hj
  · exact List.mem_cons_self
  · exact List.mem_cons_of_mem _ (List.mem_map_of_mem hj)
end
end Ag

end
/-! ## LcH -/
section
set_option linter.all false
set_option maxRecDepth 100000
namespace Ag
open PySem PySem.Spec PyProof.Rows L2
/-- a comprehension without tests, each item as v says of the heap and its place -/
theorem lc_allH {J : It} {n : Nat} {G : Hp → Prop} {Y : Nat → Hp → V → Hp → Prop} (w : Walk J n G Y) {g : TG} {te : TE} {vs : List Nat} {σ : L2.St} {H1 : Hp} {D : Addr} {Qd : Hp → Prop} (R : Hp → Prop) (v : Hp → Nat → V → Prop) (hn : n ≤ 16000000) (r0 : R H1) (rD : ∀ H o, R H → R (upd H D o))
    (vD : ∀ H o j y, v H j y → v (upd H D o) j y) (hG : ∀ H, R H → G H)
    (hs : ∀ i x H H' xs (k : VK), i < n → R H → H D = some (.lst xs) → Y i H x H' → (∀ y H4, (∀ j z, v H j z → v H4 j z) → v H4 i y → R H4 → H4 D = some (.lst xs) → k y H4) → g x (wipe σ vs) H' fun σ2 H2 => wipe σ2 vs = wipe σ vs ∧ te σ2 H2 k)
    (hd : ∀ H xs, xs.length = n → (∀ i y, xs[i]? = some y → v H i y) → R H → H D = some (.lst xs) → Qd H) :
    ∃ W : Nat → Nat → Hp → Prop, (∃ m, W 0 m (upd H1 D (.lst []))) ∧ ∀ i m H, W i m H →
      (J.stop i H ∧ Qd H) ∨ (J.go i H ∧ ∃ Nx : Hp → Prop, (∀ H', Nx H' → ∃ m', m' < m ∧ W (i + 1) m' H') ∧ ∀ x H', J.yld i H x H' → g x (wipe σ vs) H' fun σ2 H2 => wipe σ2 vs = wipe σ vs ∧ tYes σ2 H2 fun b H3 =>
        if b = true then te σ2 H3 fun y H4 => ∃ acc, H4 D = some (.lst acc) ∧ acc.length < sizeLine ∧ Nx (upd H4 D (.lst (acc ++ [y]))) else Nx H3) := by
  refine lc_it (g := g) (tt := tYes) (te := te) (vs := vs) (σ := σ) w (fun i H => ∃ xs : List V, xs.length = i ∧ (∀ j y, xs[j]? = some y → v H j y) ∧ R H ∧ H D = some (.lst xs)) ⟨[], rfl, fun j y h => by simp at h, rD _ _ r0, upd_same⟩ (fun i H hi p => ?_) (fun i x H H' hi p hy => ?_) (fun H p => ?_)
  · obtain ⟨xs, _, _, r, _⟩ := p
    exact hG H r
  · obtain ⟨xs, hl, hv, r, hD⟩ := p
    refine hs i x H H' xs _ hi r hD hy ?_
    rintro y H4 keep hvy r4 h4
    refine ⟨xs, h4, ?_, xs ++ [y], by simp [hl], fun j z hz => vD _ _ _ _ ?_, rD _ _ r4, upd_same⟩
    · rw [sizeLine_eq]; omega
    · rw [List.getElem?_append] at hz
      split at hz
      · exact keep j z (hv j z hz)
      · rename_i hj
        have e : j - xs.length = 0 := by
          cases hq : j - xs.length with
          | zero => rfl
          | succ k => rw [hq] at hz; simp at hz
        rw [e] at hz
        simp at hz
        subst hz
        have : j = i := by omega
        subst this
        exact hvy
  · obtain ⟨xs, hl, hv, r, hD⟩ := p
    exact hd H xs hl hv r hD
end Ag

end
/-! ## Fair -/
section
/-! turns by weights: a ready turn that is due first keeps every turn in its window -/
namespace Fair
def sumN : Nat → (Nat → Nat) → Nat
  | 0, _ => 0
  | n + 1, f => sumN n f + f n
theorem sum_le {n : Nat} {f g : Nat → Nat} (h : ∀ i, i < n → f i ≤ g i) : sumN n f ≤ sumN n g := by
  induction n with
  | zero => exact Nat.le_refl _
  | succ n ih => exact Nat.add_le_add (ih fun i hi => h i (by omega)) (h n (by omega))
theorem sum_congr {n : Nat} {f g : Nat → Nat} (h : ∀ i, i < n → f i = g i) : sumN n f = sumN n g := by
  induction n with
  | zero => rfl
  | succ n ih =>
    show sumN n f + f n = sumN n g + g n
    rw [ih fun i hi => h i (by omega), h n (by omega)]
theorem sum_mul (n : Nat) (f : Nat → Nat) (c : Nat) : sumN n (fun i => f i * c) = sumN n f * c := by
  induction n with
  | zero => show 0 = 0 * c; rw [Nat.zero_mul]
  | succ n ih =>
    show sumN n (fun i => f i * c) + f n * c = (sumN n f + f n) * c
    rw [ih, Nat.add_mul]
theorem sum_pos {n : Nat} {f : Nat → Nat} {i : Nat} (hi : i < n) : f i ≤ sumN n f := by
  induction n with
  | zero => omega
  | succ n ih =>
    show f i ≤ sumN n f + f n
    by_cases e : i = n
    · subst e; omega
    · have := ih (by omega); omega
/-- one more at i -/
def bump (k : Nat → Nat) (i : Nat) : Nat → Nat := fun j => if j = i then k j + 1 else k j
theorem sum_bump {n i : Nat} (k : Nat → Nat) (hi : i < n) : sumN n (bump k i) = sumN n k + 1 := by
  induction n with
  | zero => omega
  | succ n ih =>
    show sumN n (bump k i) + bump k i n = sumN n k + k n + 1
    by_cases e : i = n
    · subst e
      have : sumN i (bump k i) = sumN i k := sum_congr fun j hj => by unfold bump; rw [if_neg (by omega)]
      rw [this]
      unfold bump
      rw [if_pos rfl]
      omega
    · rw [ih (by omega)]
      unfold bump
      rw [if_neg (by omega)]
      omega
/-- one fewer at i -/
theorem sum_less {n i : Nat} {f g : Nat → Nat} (hi : i < n) (h : ∀ j, j < n → j ≠ i → f j ≤ g j) (hf : f i + 1 ≤ g i) : sumN n f + 1 ≤ sumN n g := by
  have e : sumN n (bump f i) = sumN n f + 1 := sum_bump f hi
  rw [← e]
  refine sum_le fun j hj => ?_
  unfold bump
  by_cases q : j = i
  · subst q; rw [if_pos rfl]; exact hf
  · rw [if_neg q]; exact h j hj q
section
variable (n : Nat) (w : Nat → Nat)
def tot : Nat := sumN n w
/-- the next turn of i is ready at t -/
def rdy (k : Nat → Nat) (i t : Nat) : Prop := k i * tot n w / w i < t
def due (k : Nat → Nat) (i : Nat) : Nat := ((k i + 1) * tot n w + w i - 1) / w i
/-- the one that is given the turn at t -/
structure Pick (k : Nat → Nat) (t i : Nat) : Prop where
  lt : i < n
  rd : rdy n w k i t
  least : ∀ j, j < n → rdy n w k j t → due n w k i < due n w k j ∨ (due n w k i = due n w k j ∧ i ≤ j)
theorem Pick.uniq {k : Nat → Nat} {t i j : Nat} (a : Pick n w k t i) (b : Pick n w k t j) : i = j := by
  have h1 := a.least j b.lt b.rd
  have h2 := b.least i a.lt a.rd
  omega
/-- what holds after t turns -/
structure Inv (k : Nat → Nat) (t : Nat) : Prop where
  sum : sumN n k = t
  dem : ∀ d, t ≤ d → sumN n (fun i => d * w i / tot n w - k i) + t ≤ d
  up : ∀ i, i < n → k i ≤ (t * w i + tot n w - 1) / tot n w
variable {n w}
theorem rdy_iff {k : Nat → Nat} {i t : Nat} (hw : 1 ≤ w i) : rdy n w k i t ↔ k i * tot n w < t * w i := by
  unfold rdy
  rw [Nat.div_lt_iff_lt_mul (by omega)]
theorem due_le {k : Nat → Nat} {i d : Nat} (hw : 1 ≤ w i) : due n w k i ≤ d ↔ (k i + 1) * tot n w ≤ d * w i := by
  unfold due
  rw [Nat.div_le_iff_le_mul_add_pred (by omega), Nat.mul_comm (w i) d]
  omega
theorem tot_pos (hn : 1 ≤ n) (hw : ∀ i, i < n → 1 ≤ w i) : 1 ≤ tot n w := Nat.le_trans (hw 0 (by omega)) (sum_pos (f := w) (by omega))
theorem start (hn : 1 ≤ n) (hw : ∀ i, i < n → 1 ≤ w i) : Inv n w (fun _ => 0) 0 := by
  have tp := tot_pos hn hw
  refine ⟨?_, fun d _ => ?_, fun i _ => Nat.zero_le _⟩
  · clear hn hw tp
    induction n with
    | zero => rfl
    | succ n ih => exact ih
  · have h1 : sumN n (fun i => d * w i / tot n w - 0) * tot n w ≤ d * tot n w := by
      rw [← sum_mul]
      refine Nat.le_trans (sum_le (g := fun i => w i * d) fun i _ => ?_) ?_
      · show (d * w i / tot n w - 0) * tot n w ≤ w i * d
        rw [Nat.sub_zero, Nat.mul_comm (w i) d]
        exact Nat.div_mul_le_self _ _
      · rw [sum_mul, Nat.mul_comm]
        exact Nat.le_refl _
    have := Nat.le_of_mul_le_mul_right h1 tp
    omega
/-- at each time some position is ready -/
theorem some_ready (hn : 1 ≤ n) (hw : ∀ i, i < n → 1 ≤ w i) {k : Nat → Nat} {t : Nat} (h : sumN n k = t) : ∃ i, i < n ∧ rdy n w k i (t + 1) := by
  refine Classical.byContradiction fun no => ?_
  have tp := tot_pos hn hw
  have h1 : ∀ i, i < n → w i * (t + 1) ≤ k i * tot n w := fun i hi => by
    refine Nat.le_of_not_lt fun z => no ⟨i, hi, (rdy_iff (hw i hi)).mpr ?_⟩
    rw [Nat.mul_comm (t + 1)]
    exact z
  have h2 := sum_le h1
  rw [sum_mul, sum_mul, h, Nat.mul_comm] at h2
  have := Nat.le_of_mul_le_mul_right (show (t + 1) * tot n w ≤ t * tot n w from h2) tp
  omega
/-- no turn is late -/
theorem Inv.dueT {k : Nat → Nat} {t : Nat} (I : Inv n w k t) (hw : ∀ i, i < n → 1 ≤ w i) (hn : 1 ≤ n) {i : Nat} (hi : i < n) : t + 1 ≤ due n w k i := by
  refine Nat.lt_of_not_le fun z => ?_
  have tp := tot_pos hn hw
  have h1 := (due_le (hw i hi)).mp z
  have h2 : k i + 1 ≤ t * w i / tot n w := (Nat.le_div_iff_mul_le (by omega)).mpr h1
  have h3 := I.dem t (Nat.le_refl _)
  have h4 := sum_pos (f := fun i => t * w i / tot n w - k i) hi
  have h4 : t * w i / tot n w - k i ≤ _ := h4
  omega
theorem Inv.low {k : Nat → Nat} {t : Nat} (I : Inv n w k t) {i : Nat} (hi : i < n) : t * w i / tot n w ≤ k i := by
  have h3 := I.dem t (Nat.le_refl _)
  have h4 : t * w i / tot n w - k i ≤ _ := sum_pos (f := fun i => t * w i / tot n w - k i) hi
  omega
theorem Inv.step {k : Nat → Nat} {t i : Nat} (I : Inv n w k t) (hn : 1 ≤ n) (hw : ∀ i, i < n → 1 ≤ w i) (P : Pick n w k (t + 1) i) : Inv n w (bump k i) (t + 1) := by
  have tp := tot_pos hn hw
  refine ⟨by rw [sum_bump k P.lt, I.sum], fun d hd => ?_, fun j hj => ?_⟩
  · have hI := I.dem d (by omega)
    by_cases hS : ∃ j, j < n ∧ k j < d * w j / tot n w ∧ rdy n w k j (t + 1)
    · -- some turn that is due by then is ready: such a one is given
      obtain ⟨j, hj, hk, hr⟩ := hS
      have dj : due n w k j ≤ d := (due_le (hw j hj)).mpr ((Nat.le_div_iff_mul_le (by omega)).mp hk)
      have di : due n w k i ≤ d := by
        have := P.least j hj hr
        omega
      have hi : k i + 1 ≤ d * w i / tot n w := (Nat.le_div_iff_mul_le (by omega)).mpr ((due_le (hw i P.lt)).mp di)
      have := sum_less (f := fun j => d * w j / tot n w - bump k i j) (g := fun j => d * w j / tot n w - k j) P.lt (fun j _ q => by
        show _ - bump k i j ≤ _
        unfold bump
        rw [if_neg q]
        exact Nat.le_refl _) (by
        show d * w i / tot n w - bump k i i + 1 ≤ _ - k i
        unfold bump
        rw [if_pos rfl]
        omega)
      omega
    · -- none is: what is left is at most the times behind
      have h1 : ∀ j, j < n → (d * w j / tot n w - bump k i j) * tot n w ≤ w j * (d - (t + 1)) := fun j hj => by
        have hb : k j ≤ bump k i j := by unfold bump; split <;> omega
        by_cases hk : k j < d * w j / tot n w
        · have nr : ¬ rdy n w k j (t + 1) := fun z => hS ⟨j, hj, hk, z⟩
          rw [rdy_iff (hw j hj)] at nr
          have e1 : (d * w j / tot n w - bump k i j) * tot n w ≤ (d * w j / tot n w - k j) * tot n w := Nat.mul_le_mul_right _ (by omega)
          refine Nat.le_trans e1 ?_
          rw [Nat.sub_mul, Nat.mul_comm (w j), Nat.sub_mul]
          have e2 := Nat.div_mul_le_self (d * w j) (tot n w)
          omega
        · rw [show d * w j / tot n w - bump k i j = 0 by omega, Nat.zero_mul]
          exact Nat.zero_le _
      have h2 := sum_le h1
      rw [sum_mul, sum_mul, Nat.mul_comm (sumN n w)] at h2
      have := Nat.le_of_mul_le_mul_right (show _ * tot n w ≤ (d - (t + 1)) * tot n w from h2) tp
      omega
  · have hu := I.up j hj
    unfold bump
    by_cases q : j = i
    · subst q
      rw [if_pos rfl]
      have hr := (rdy_iff (hw j hj)).mp P.rd
      refine (Nat.le_div_iff_mul_le (by omega)).mpr ?_
      rw [Nat.add_mul, Nat.one_mul]
      omega
    · rw [if_neg q]
      refine Nat.le_trans hu (Nat.div_le_div_right ?_)
      have : t * w j ≤ (t + 1) * w j := Nat.mul_le_mul_right _ (by omega)
      omega
/-- after a whole round each has its weight -/
theorem Inv.round {k : Nat → Nat} (hn : 1 ≤ n) (hw : ∀ i, i < n → 1 ≤ w i) (I : Inv n w k (tot n w)) {i : Nat} (hi : i < n) : k i = w i := by
  have tp := tot_pos hn hw
  have h1 := I.low hi
  have h2 := I.up i hi
  rw [Nat.mul_comm, Nat.mul_div_cancel _ (by omega)] at h1
  have e : (tot n w * w i + tot n w - 1) / tot n w = w i := by
    rw [Nat.div_eq_iff (by omega), Nat.mul_comm]
    have : tot n w * w i + tot n w - 1 = w i * tot n w + (tot n w - 1) := by rw [Nat.mul_comm]; omega
    constructor <;> omega
  omega
/-- the turns repeat -/
theorem pick_round (hw : ∀ i, i < n → 1 ≤ w i) {k : Nat → Nat} {i m : Nat} : Pick n w k m i ↔ Pick n w (fun j => k j + w j) (m + tot n w) i := by
  have r : ∀ j, j < n → (rdy n w k j m ↔ rdy n w (fun j => k j + w j) j (m + tot n w)) := fun j hj => by
    rw [rdy_iff (hw j hj), rdy_iff (hw j hj)]
    show _ ↔ (k j + w j) * tot n w < (m + tot n w) * w j
    rw [Nat.add_mul, Nat.add_mul, Nat.mul_comm (w j)]
    omega
  have d : ∀ j, j < n → due n w (fun j => k j + w j) j = due n w k j + tot n w := fun j hj => by
    unfold due
    show ((k j + w j + 1) * tot n w + w j - 1) / w j = _
    have e : (k j + w j + 1) * tot n w + w j - 1 = (k j + 1) * tot n w + w j - 1 + tot n w * w j := by
      have : (k j + w j + 1) * tot n w = (k j + 1) * tot n w + tot n w * w j := by rw [show k j + w j + 1 = k j + 1 + w j by omega, Nat.add_mul, Nat.mul_comm (w j)]
      have := hw j hj
      omega
    rw [e, Nat.add_mul_div_right _ _ (hw j hj)]
  constructor
  · rintro ⟨a, b, c⟩
    exact ⟨a, (r i a).mp b, fun j hj hr => by rw [d i a, d j hj]; have := c j hj ((r j hj).mpr hr); omega⟩
  · rintro ⟨a, b, c⟩
    exact ⟨a, (r i a).mpr b, fun j hj hr => by have := c j hj ((r j hj).mp hr); rw [d i a, d j hj] at this; omega⟩
theorem pick_congr {k k' : Nat → Nat} {t i : Nat} (h : ∀ j, j < n → k j = k' j) (p : Pick n w k t i) : Pick n w k' t i := by
  have r : ∀ j, j < n → (rdy n w k j t ↔ rdy n w k' j t) := fun j hj => by unfold rdy; rw [h j hj]
  have d : ∀ j, j < n → due n w k j = due n w k' j := fun j hj => by unfold due; rw [h j hj]
  obtain ⟨a, b, c⟩ := p
  exact ⟨a, (r i a).mp b, fun j hj hr => by have := c j hj ((r j hj).mpr hr); rw [d i a, d j hj] at this; exact this⟩
/-- one is given the turn -/
theorem exists_pick (hn : 1 ≤ n) (hw : ∀ i, i < n → 1 ≤ w i) {k : Nat → Nat} {t : Nat} (h : sumN n k = t) : ∃ i, Pick n w k (t + 1) i := by
  have key : ∀ m i, i < n → rdy n w k i (t + 1) → due n w k i * n + i ≤ m → ∃ i, Pick n w k (t + 1) i := by
    intro m
    induction m with
    | zero =>
      intro i hi hr hm
      refine ⟨i, hi, hr, fun j hj hrj => ?_⟩
      have h0 : due n w k i * n = 0 := by omega
      have : due n w k i = 0 := by
        rcases Nat.mul_eq_zero.mp h0 with z | z
        · exact z
        · omega
      omega
    | succ m ih =>
      intro i hi hr hm
      by_cases q : ∃ j, j < n ∧ rdy n w k j (t + 1) ∧ ¬ (due n w k i < due n w k j ∨ (due n w k i = due n w k j ∧ i ≤ j))
      · obtain ⟨j, hj, hrj, hq⟩ := q
        refine ih j hj hrj ?_
        by_cases e : due n w k i = due n w k j
        · rw [← e]
          omega
        · have hlt : due n w k j + 1 ≤ due n w k i := by omega
          have := Nat.mul_le_mul_right n hlt
          rw [Nat.add_mul] at this
          omega
      · exact ⟨i, hi, hr, fun j hj hrj => Classical.byContradiction fun z => q ⟨j, hj, hrj, z⟩⟩
  obtain ⟨i, hi, hr⟩ := some_ready hn hw h
  exact key _ i hi hr (Nat.le_refl _)
variable (n w) in
/-- the counts after t turns -/
inductive Run : (Nat → Nat) → Nat → Prop where
  | zero : Run (fun _ => 0) 0
  | step {k : Nat → Nat} {t i : Nat} : Run k t → Pick n w k (t + 1) i → Run (bump k i) (t + 1)
theorem Run.inv (hn : 1 ≤ n) (hw : ∀ i, i < n → 1 ≤ w i) {k : Nat → Nat} {t : Nat} (r : Run n w k t) : Inv n w k t := by
  induction r with
  | zero => exact start hn hw
  | step _ p ih => exact ih.step hn hw p
theorem Run.uniq {k : Nat → Nat} {t : Nat} (r : Run n w k t) : ∀ {k' : Nat → Nat}, Run n w k' t → k = k' := by
  induction r with
  | zero => intro k' r'; cases r'; rfl
  | step _ p ih =>
    intro k' r'
    cases r' with
    | step r2 p2 =>
      have e := ih r2
      subst e
      rw [p.uniq n w p2]
theorem Run.ex (hn : 1 ≤ n) (hw : ∀ i, i < n → 1 ≤ w i) : ∀ t, ∃ k, Run n w k t
  | 0 => ⟨_, .zero⟩
  | t + 1 => by
    obtain ⟨k, r⟩ := Run.ex hn hw t
    obtain ⟨i, p⟩ := exists_pick hn hw (r.inv hn hw).sum
    exact ⟨_, r.step p⟩
theorem Run.out {k : Nat → Nat} {t : Nat} (r : Run n w k t) {j : Nat} (hj : n ≤ j) : k j = 0 := by
  induction r with
  | zero => rfl
  | step _ p ih =>
    unfold bump
    have := p.lt
    rw [if_neg (by omega)]
    exact ih
/-- a round more -/
def shift (n : Nat) (w k : Nat → Nat) : Nat → Nat := fun j => k j + if j < n then w j else 0
theorem Run.shift (hn : 1 ≤ n) (hw : ∀ i, i < n → 1 ≤ w i) {k : Nat → Nat} {t : Nat} (r : Run n w k t) : Run n w (Fair.shift n w k) (t + tot n w) := by
  induction r with
  | zero =>
    obtain ⟨k, r⟩ := Run.ex hn hw (tot n w)
    have e : k = Fair.shift n w (fun _ => 0) := by
      funext j
      unfold Fair.shift
      by_cases hj : j < n
      · rw [if_pos hj, (r.inv hn hw).round hn hw hj, Nat.zero_add]
      · rw [if_neg hj, r.out (by omega)]
    rw [Nat.zero_add, ← e]
    exact r
  | @step k t i r p ih =>
    have p2 := (pick_round hw (k := k) (m := t + 1) (i := i)).mp p
    have p3 : Pick n w (Fair.shift n w k) (t + tot n w + 1) i := by
      rw [show t + tot n w + 1 = t + 1 + tot n w by omega]
      refine pick_congr (fun j hj => ?_) p2
      unfold Fair.shift
      rw [if_pos hj]
    have e : Fair.shift n w (bump k i) = bump (Fair.shift n w k) i := by
      funext j
      unfold Fair.shift bump
      dsimp only
      split <;> split <;> omega
    rw [e, show t + 1 + tot n w = t + tot n w + 1 by omega]
    exact ih.step p3
/-- at any time: the whole rounds, and the counts of the last one -/
theorem Run.rounds (hn : 1 ≤ n) (hw : ∀ i, i < n → 1 ≤ w i) {k : Nat → Nat} {t : Nat} (r : Run n w k t) : ∀ q, Run n w (fun j => k j + if j < n then q * w j else 0) (t + q * tot n w)
  | 0 => by
    have e : (fun j => k j + if j < n then 0 * w j else 0) = k := by
      funext j
      split <;> omega
    rw [e, Nat.zero_mul, Nat.add_zero]
    exact r
  | q + 1 => by
    have := (Run.rounds hn hw r q).shift hn hw
    have e : Fair.shift n w (fun j => k j + if j < n then q * w j else 0) = fun j => k j + if j < n then (q + 1) * w j else 0 := by
      funext j
      unfold Fair.shift
      dsimp only
      split
      · rw [Nat.add_mul, Nat.one_mul]
        omega
      · omega
    rw [e] at this
    rw [Nat.add_mul, Nat.one_mul, ← Nat.add_assoc]
    exact this
end
end Fair

end
/-! ## D0 -/
section
set_option linter.all false
set_option maxRecDepth 100000
namespace Ag
open PySem PySem.Spec PyProof.Rows L2
open SX (S S_len S_cat S_inj)
/-! ### data of any depth, dicts too, away from the deck -/
def At (p c : Addr) (H : Hp) (a : Addr) (o : HO) : Prop := a ≠ p ∧ a ≠ c ∧ H a = some o
def kD : Key → PyData
  | .inl i => .int i
  | .inr x => .str x
mutual
inductive Dg (p c : Addr) (H : Hp) : V → PyData → Prop
  | non : Dg p c H .non .none
  | bl (b : Bool) : Dg p c H (.bl b) (.bool b)
  | int (i : Int) : Dg p c H (.int i) (.int i)
  | str (x : Str) : Dg p c H (.str x) (.str x)
  | lst {a : Addr} {xs : List V} {ds : List PyData} : At p c H a (.lst xs) → DgA p c H xs ds → Dg p c H (.ref a) (.list ds)
  | tup {a : Addr} {xs : List V} {ds : List PyData} : At p c H a (.tup xs) → DgA p c H xs ds → Dg p c H (.ref a) (.tuple ds)
  | dic {a : Addr} {kvs : List (Key × V)} {ds : List (PyData × PyData)} : At p c H a (.dK kvs) → DgK p c H kvs ds → Dg p c H (.ref a) (.dict ds)
inductive DgA (p c : Addr) (H : Hp) : List V → List PyData → Prop
  | nil : DgA p c H [] []
  | cons {v : V} {vs : List V} {d : PyData} {ds : List PyData} : Dg p c H v d → DgA p c H vs ds → DgA p c H (v :: vs) (d :: ds)
inductive DgK (p c : Addr) (H : Hp) : List (Key × V) → List (PyData × PyData) → Prop
  | nil : DgK p c H [] []
  | cons {k : Key} {v : V} {kvs : List (Key × V)} {d : PyData} {ds : List (PyData × PyData)} : Dg p c H v d → DgK p c H kvs ds → DgK p c H ((k, v) :: kvs) ((kD k, d) :: ds)
end
/-- what data leans on stays -/
def Kp (p c : Addr) (H H' : Hp) : Prop := ∀ b o, b ≠ p → b ≠ c → H b = some o → H' b = some o
theorem Kp.refl {p c : Addr} {H : Hp} : Kp p c H H := fun _ _ _ _ e => e
theorem Kp.trans {p c : Addr} {H H1 H2 : Hp} (a : Kp p c H H1) (b : Kp p c H1 H2) : Kp p c H H2 := fun x o h1 h2 e => b x o h1 h2 (a x o h1 h2 e)
theorem Kp.same {p c : Addr} {H H' : Hp} (s : Same H H') : Kp p c H H' := fun b o _ _ e => s b o e
theorem At.kp {p c a : Addr} {H H' : Hp} {o : HO} (h : At p c H a o) (g : Kp p c H H') : At p c H' a o := ⟨h.1, h.2.1, g a o h.1 h.2.1 h.2.2⟩
mutual
theorem Dg.kp {p c : Addr} {H H' : Hp} (g : Kp p c H H') : ∀ (d : PyData) (v : V), Dg p c H v d → Dg p c H' v d
  | .none, _, h => by cases h; exact .non
  | .bool _, _, h => by cases h; exact .bl _
  | .int _, _, h => by cases h; exact .int _
  | .str _, _, h => by cases h; exact .str _
  | .list ds, _, h => by
    cases h with
    | lst a b => exact .lst (a.kp g) (DgA.kp g ds _ b)
  | .tuple ds, _, h => by
    cases h with
    | tup a b => exact .tup (a.kp g) (DgA.kp g ds _ b)
  | .dict ds, _, h => by
    cases h with
    | dic a b => exact .dic (a.kp g) (DgK.kp g ds _ b)
theorem DgA.kp {p c : Addr} {H H' : Hp} (g : Kp p c H H') : ∀ (ds : List PyData) (vs : List V), DgA p c H vs ds → DgA p c H' vs ds
  | [], _, h => by cases h; exact .nil
  | d :: ds, _, h => by
    cases h with
    | cons a b => exact .cons (Dg.kp g d _ a) (DgA.kp g ds _ b)
theorem DgK.kp {p c : Addr} {H H' : Hp} (g : Kp p c H H') : ∀ (ds : List (PyData × PyData)) (vs : List (Key × V)), DgK p c H vs ds → DgK p c H' vs ds
  | [], _, h => by cases h; exact .nil
  | (_, d) :: ds, _, h => by
    cases h with
    | cons a b => exact .cons (Dg.kp g d _ a) (DgK.kp g ds _ b)
end
theorem Dg.to {p c : Addr} {H H' : Hp} {v : V} {d : PyData} (h : Dg p c H v d) (g : Kp p c H H') : Dg p c H' v d := Dg.kp g d v h
theorem DgA.to {p c : Addr} {H H' : Hp} {v : List V} {d : List PyData} (h : DgA p c H v d) (g : Kp p c H H') : DgA p c H' v d := DgA.kp g d v h
theorem DgA.len {p c : Addr} {H : Hp} : ∀ {vs : List V} {ds : List PyData}, DgA p c H vs ds → vs.length = ds.length
  | [], [], _ => rfl
  | _ :: _, _ :: _, .cons _ t => by rw [List.length_cons, List.length_cons, DgA.len t]
theorem DgA.at_ {p c : Addr} {H : Hp} : ∀ {vs : List V} {ds : List PyData} {i : Nat} {v : V}, DgA p c H vs ds → vs[i]? = some v → ∃ d, ds[i]? = some d ∧ Dg p c H v d
  | _ :: _, _ :: _, 0, _, .cons h _, e => by
    simp at e
    subst e
    exact ⟨_, rfl, h⟩
  | _ :: _, _ :: _, i + 1, _, .cons _ t, e => DgA.at_ (i := i) t (by simpa using e)
  | [], [], _, _, _, e => by simp at e
theorem DgA.app {p c : Addr} {H : Hp} : ∀ {vs ws : List V} {ds es : List PyData}, DgA p c H vs ds → DgA p c H ws es → DgA p c H (vs ++ ws) (ds ++ es)
  | [], _, [], _, _, h => h
  | _ :: _, _, _ :: _, _, .cons a b, h => .cons a (DgA.app b h)
theorem DgA.take {p c : Addr} {H : Hp} : ∀ {vs : List V} {ds : List PyData} (n : Nat), DgA p c H vs ds → DgA p c H (vs.take n) (ds.take n)
  | [], [], _, _ => by simpa using DgA.nil
  | _ :: _, _ :: _, 0, _ => by simpa using DgA.nil
  | _ :: _, _ :: _, n + 1, .cons a b => .cons a (DgA.take n b)
theorem DgA.drop {p c : Addr} {H : Hp} : ∀ {vs : List V} {ds : List PyData} (n : Nat), DgA p c H vs ds → DgA p c H (vs.drop n) (ds.drop n)
  | [], [], _, _ => by simpa using DgA.nil
  | _ :: _, _ :: _, 0, h => h
  | _ :: _, _ :: _, n + 1, .cons _ b => DgA.drop n b
theorem DgA.rev {p c : Addr} {H : Hp} : ∀ {vs : List V} {ds : List PyData}, DgA p c H vs ds → DgA p c H vs.reverse ds.reverse
  | [], [], _ => .nil
  | _ :: _, _ :: _, .cons a b => by
    rw [List.reverse_cons, List.reverse_cons]
    exact (DgA.rev b).app (.cons a .nil)
/-! ### the machine reads it -/
mutual
/-- no list at any depth -/
def noL : PyData → Bool
  | .none => true
  | .bool _ => true
  | .int _ => true
  | .str _ => true
  | .list _ => false
  | .tuple xs => noLA xs
  | .dict kvs => noLK kvs
def noLA : List PyData → Bool
  | [] => true
  | x :: xs => noL x && noLA xs
def noLK : List (PyData × PyData) → Bool
  | [] => true
  | (_, v) :: r => noL v && noLK r
end
section
variable {X : Cx} {pins : List (Addr × Obj)} {σ : L2.St} {H : Hp} {s : Shared} {p c : Addr}
theorem key_reads {P : Program} {w : World} {h : Heap} {k : Key} {v : Value} (e : (mixKind P w).is k v = true) : Reads h v (kD k) [] := by
  rcases keyIs_shape e with ⟨i, t, rfl, rfl⟩ | ⟨x, t, rfl, rfl⟩
  · exact .int i t
  · exact .str x t
mutual
theorem Dg.reads (I : Inv X pins σ H s) : ∀ (d : PyData) (v : V) (u : Value), Dg p c H v d → RelV v u → ∃ as, Reads s.heap u d as ∧ (noL d = true → sysModules ∉ as)
  | .none, _, _, h, r => by
    cases h
    cases r
    exact ⟨_, .none, by simp⟩
  | .bool b, _, _, h, r => by
    cases h
    cases r
    exact ⟨_, .bool b, by simp⟩
  | .int i, _, _, h, r => by
    cases h
    obtain ⟨t, rfl⟩ := r
    exact ⟨_, .int i t, by simp⟩
  | .str x, _, _, h, r => by
    cases h
    obtain ⟨t, rfl⟩ := r
    exact ⟨_, .str x t, by simp⟩
  | .list ds, _, _, h, r => by
    cases h with
    | lst ha hd =>
      cases r
      obtain ⟨its, rv, ⟨o, n, ho, hc, _, hdt⟩, _⟩ := I.list (SqL.of ha.2.2)
      obtain ⟨as, hr, hn⟩ := DgA.reads I ds _ its hd rv
      exact ⟨_, .list ho hc hdt hr, fun z => by simp [noL] at z⟩
  | .tuple ds, _, _, h, r => by
    cases h with
    | tup ha hd =>
      cases r
      obtain ⟨its, rv, ⟨o, ho, hc, n, hdt⟩, _⟩ := I.tuple (SqT.of ha.2.2)
      obtain ⟨as, hr, hn⟩ := DgA.reads I ds _ its hd rv
      exact ⟨_, .tuple ho hc hdt hr, fun z => hn (by simpa [noL] using z)⟩
  | .dict ds, _, _, h, r => by
    cases h with
    | dic ha hd =>
      cases r
      obtain ⟨_, hsys, vs, kv, o, es, ep, ho, hex, hdt, _, hps, _⟩ := I.hok _ _ ha.2.2
      obtain ⟨as, bs, r1, r2, n1, n2⟩ := DgK.reads I ds _ vs es.toList hd kv hps
      refine ⟨_, .dict ho hex.1 hdt r1 r2, ?_⟩
      intro hl z
      rcases List.mem_append.mp z with z | z
      · rcases List.mem_cons.mp z with z | z
        · rw [← z] at hsys
          simp at hsys
        · exact n1 z
      · exact n2 (by simpa [noL] using hl) z
theorem DgA.reads (I : Inv X pins σ H s) : ∀ (ds : List PyData) (vs : List V) (us : List Value), DgA p c H vs ds → Vals vs us → ∃ as, ReadsAll s.heap us ds as ∧ (noLA ds = true → sysModules ∉ as)
  | [], _, _, h, r => by
    cases h
    cases r
    exact ⟨_, .nil, by simp⟩
  | d :: ds, _, _, h, r => by
    cases h with
    | cons h1 h2 =>
      cases r with
      | cons r1 r2 =>
        obtain ⟨as, q1, n1⟩ := Dg.reads I d _ _ h1 r1
        obtain ⟨bs, q2, n2⟩ := DgA.reads I ds _ _ h2 r2
        have hh : ∀ z : noLA (d :: ds) = true, noL d = true ∧ noLA ds = true := fun z => by simpa [noLA] using z
        exact ⟨_, .cons q1 q2, fun z y => (List.mem_append.mp y).elim (n1 (hh z).1) (n2 (hh z).2)⟩
theorem DgK.reads (I : Inv X pins σ H s) : ∀ (ds : List (PyData × PyData)) (kvs : List (Key × V)) (vs : List (Key × Value)) (es : List DictEntry), DgK p c H kvs ds → KV kvs vs → Pairs (mixKind X.prog X.w) es vs →
    ∃ as bs, ReadsAll s.heap (es.map (·.key)) (ds.map (·.1)) as ∧ ReadsAll s.heap (es.map (·.val)) (ds.map (·.2)) bs ∧ sysModules ∉ as ∧ (noLK ds = true → sysModules ∉ bs)
  | [], _, _, _, h, r, q => by
    cases h
    cases r
    cases q
    exact ⟨_, _, .nil, .nil, by simp, by simp⟩
  | (k, d) :: ds, _, _, _, h, r, q => by
    cases h with
    | cons h1 h2 =>
      cases r with
      | cons r1 r2 =>
        cases q with
        | cons q1 q2 q3 =>
          obtain ⟨e1, e2⟩ := r1
          obtain ⟨as, bs, a1, a2, n1, n2⟩ := DgK.reads I ds _ _ _ h2 r2 q3
          obtain ⟨cs, b1, n3⟩ := Dg.reads I d _ _ h1 e2
          rw [← e1] at q1
          rw [← q2] at b1
          exact ⟨_, _, .cons (key_reads q1) a1, .cons b1 a2, by simpa using n1, fun z y => (List.mem_append.mp y).elim (n3 (by simp [noLK] at z; exact z.1)) (n2 (by simp [noLK] at z; exact z.2))⟩
end
/-- repr of data -/
theorem call_repr_any (hu : X.A.units + 66 < cLine) (hG : X.A.guards = some []) : CallR X (.builtin "repr") (fun xs H Q => ∃ x d p c, xs = [x] ∧ Dg p c H x d ∧ d.showable = true ∧ (d.hasDict = true → noL d = true) ∧ d.depth ≤ 64 ∧ d.shown.length ≤ sizeLine ∧ Q (.str d.shown) H) := by
  intro pins s σ H vs us Q I r h
  obtain ⟨x, d, p, c, rfl, hd, h1, hk, h3, h4, q⟩ := h
  obtain ⟨u, rfl, ru⟩ := vals1 r
  cases x with
  | ref a =>
    obtain ⟨as, rd, na⟩ := Dg.reads I d (.ref a) u hd ru
    obtain rfl : u = Value.ref a := ru
    exact repr_of_reads' rd h1 (fun z => na (hk z)) hG (by omega) (fun _ _ e => e) (fun h' u tk kp => ⟨.str d.shown, H, I.kept kp, ⟨_, rfl⟩, q⟩) h4
  | non =>
    cases hd
    obtain rfl : u = Value.none := ru
    exact PySem.P.repr_of_none ⟨.str _, H, I.tok _, ⟨_, rfl⟩, by rw [PyData.shown_none] at q; exact q⟩
  | bl b =>
    cases hd
    obtain rfl : u = Value.bool b := ru
    exact PySem.P.repr_of_bool ⟨.str _, H, I.tok _, ⟨_, rfl⟩, by rw [PyData.shown_bool] at q; exact q⟩
  | int i =>
    cases hd
    obtain ⟨t, rfl⟩ := ru
    exact PySem.P.repr_of_int (by simpa [PyData.showable] using h1) ⟨.str _, H, I.tok _, ⟨_, rfl⟩, by rw [PyData.shown_int] at q; exact q⟩
  | str z =>
    cases hd
    obtain ⟨t, rfl⟩ := ru
    rw [PyData.shown_str] at q h4
    exact PySem.P.repr_of_str ⟨.str _, H, I.tok _, ⟨_, rfl⟩, q⟩ h4
  | byt b => cases hd
  | flt b => cases hd
  | ty n => cases hd
/-- the type of data -/
def tyD : PyData → String
  | .none => "NoneType"
  | .bool _ => "bool"
  | .int _ => "int"
  | .str _ => "str"
  | .list _ => "list"
  | .tuple _ => "tuple"
  | .dict _ => "dict"
theorem Dg.tyx {K : PySem.W.Frag} {v : V} {d : PyData} (h : Dg p c H v d) : TyX K H v (.type (tyD d)) := by
  cases h with
  | non => exact .base .non
  | bl b => exact .base (.bl b)
  | int i => exact .base (.int i)
  | str x => exact .base (.str x)
  | lst a _ => exact .base (.lst a.2.2)
  | tup a _ => exact .base (.tup a.2.2)
  | dic a _ => exact .base (.dK a.2.2)
def isI : PyData → Bool
  | .int _ => true
  | .bool _ => true
  | _ => false
def isB : PyData → Bool
  | .bool _ => true
  | _ => false
def isS : PyData → Bool
  | .str _ => true
  | _ => false
def isT : PyData → Bool
  | .tuple _ => true
  | _ => false
section
variable {K : PySem.W.Frag}
theorem isi_I (d : PyData) : PySem.W.kitOne K (.type (tyD d)) (.type "int") = some (isI d) := by
  cases d <;> exact kit_ty (by simp only [tyD, isI]; decide +kernel)
theorem isi_B (d : PyData) : PySem.W.kitOne K (.type (tyD d)) (.type "bool") = some (isB d) := by
  cases d <;> exact kit_ty (by simp only [tyD, isB]; decide +kernel)
theorem isi_S (d : PyData) : PySem.W.kitOne K (.type (tyD d)) (.type "str") = some (isS d) := by
  cases d <;> exact kit_ty (by simp only [tyD, isS]; decide +kernel)
theorem isi_T (d : PyData) : PySem.W.kitOne K (.type (tyD d)) (.type "tuple") = some (isT d) := by
  cases d <;> exact kit_ty (by simp only [tyD, isT]; decide +kernel)
end
end
end Ag

end
/-! ## D1 -/
section
set_option linter.all false
set_option maxRecDepth 100000
namespace Ag
open PySem PySem.Spec PyProof.Rows L2
open AutoSeq1 (wpAny_loadPart')
open MeetsSeq SeqAt
/-! ### a dict is no text and no tuple -/
theorem dctS (z : Addr) (es : Array DictEntry) (e1 : Nat) (q : Option Addr) (sl : Array (Option Value)) (b : Str) (k : Tok) :
    Meets (Builtin.«dict.__eq__» ⟨[.ref z, .str b k], []⟩) (fun _ R s => s.heap.get? z = some { cls := .type "dict", dict := q, data := .dict es e1, slots := sl } ∧ R (.ok (.ret .notImplemented)) s) :=
  .of_wp fun pr w A R s y => by
    obtain ⟨hp, g, dr, tk, os⟩ := s
    obtain ⟨hz, y⟩ := y
    have f1 := F.sub_str_dict
    wp_walk using wpAny_loadPart' hz, wpAny_load hz
    exact ⟨_, rfl, y⟩
theorem strD (b : Str) (k : Tok) (z : Addr) (es : Array DictEntry) (e1 : Nat) (q : Option Addr) (sl : Array (Option Value)) :
    Meets (Builtin.«str.__eq__» ⟨[.str b k, .ref z], []⟩) (fun _ R s => s.heap.get? z = some { cls := .type "dict", dict := q, data := .dict es e1, slots := sl } ∧ R (.ok (.ret .notImplemented)) s) :=
  .of_wp fun pr w A R s y => by
    obtain ⟨hp, g, dr, tk, os⟩ := s
    obtain ⟨hz, y⟩ := y
    wp_walk using wpAny_loadPart' hz, wpAny_load hz
    exact ⟨_, rfl, y⟩
theorem dctT (z t : Addr) (es : Array DictEntry) (e1 : Nat) (q q2 : Option Addr) (sl sl2 : Array (Option Value)) (its : Array Value) (n : Nat) :
    Meets (Builtin.«dict.__eq__» ⟨[.ref z, .ref t], []⟩) (fun _ R s => s.heap.get? z = some { cls := .type "dict", dict := q, data := .dict es e1, slots := sl } ∧ s.heap.get? t = some { cls := .type "tuple", dict := q2, data := .seq its n, slots := sl2 } ∧ R (.ok (.ret .notImplemented)) s) :=
  .of_wp fun pr w A R s y => by
    obtain ⟨hp, g, dr, tk, os⟩ := s
    obtain ⟨hz, ht, y⟩ := y
    have f1 := F.sub_tuple_dict
    wp_walk using wpAny_loadPart' hz, wpAny_load hz, wpAny_loadPart' ht, wpAny_load ht
    exact ⟨_, rfl, y⟩
theorem tupD (t z : Addr) (es : Array DictEntry) (e1 : Nat) (q q2 : Option Addr) (sl sl2 : Array (Option Value)) (its : Array Value) (n : Nat) :
    Meets (Builtin.«tuple.__eq__» ⟨[.ref t, .ref z], []⟩) (fun _ R s => s.heap.get? z = some { cls := .type "dict", dict := q, data := .dict es e1, slots := sl } ∧ s.heap.get? t = some { cls := .type "tuple", dict := q2, data := .seq its n, slots := sl2 } ∧ R (.ok (.ret .notImplemented)) s) :=
  .of_wp fun pr w A R s y => by
    obtain ⟨hp, g, dr, tk, os⟩ := s
    obtain ⟨hz, ht, y⟩ := y
    have f1 := F.sub_dict_tuple
    wp_walk using wpAny_loadPart' hz, wpAny_load hz, wpAny_loadPart' ht, wpAny_load ht
    exact ⟨_, rfl, y⟩
section
variable {A : Around} {s : Shared}
theorem eq_strD {z : Addr} {o : Obj} {es : Array DictEntry} {e1 : Nat} (b : Str) (k : Tok) (ho : s.heap.get? z = some o) (hc : o.cls = .type "dict") (hd : o.data = .dict es e1) (hu : A.units < cLine) : EqAt A s (.str b k) (.ref z) false := by
  intro pr w E Q y
  obtain ⟨cls, q, data, sl⟩ := o
  simp only at hc hd
  subst hc hd
  unfold eqBool
  refine wpAny_holding (wpAny_ite_split (fun hab => absurd (eq_of_beq hab) nofun) fun _ => ?_)
  refine wpAny_bind ?_
  refine rc_eq_decline_or (k := false) (typeIs_str s b k) ⟨_, ho, rfl⟩ (by decide) F.sub_dict_str F.slot_str_eq F.slot_dict_eq_refl ?_ ?_ ?_ (.inr hu) (wpAny_truthy_bool y)
  · exact fun _ hq => call_meets F.slot_str_eq (typeIs_str s b k) F.entry_str_eq (F.args_str_eq_2 _ _) (strD b k z es e1 q sl) ⟨ho, hq⟩
  · exact fun _ hq => call_meets F.slot_dict_eq_refl ⟨_, ho, rfl⟩ F.entry_dict_eq (F.args_dict_eq_2 _ _) (dctS z es e1 q sl b k) ⟨ho, hq⟩
  · exact fun _ hq => wpAny_of_eq (rfl : isSame (.str b k) (.ref z) = pure false) hq
theorem ne_dt {z t : Addr} {o u : Obj} (ho : s.heap.get? z = some o) (hc : o.cls = .type "dict") (hu : s.heap.get? t = some u) (hc2 : u.cls = .type "tuple") : z ≠ t := by
  rintro rfl
  rw [ho] at hu
  cases hu
  rw [hc] at hc2
  exact absurd (Value.type.inj hc2) (by decide)
theorem rc_dictT {z t : Addr} {o : Obj} {es : Array DictEntry} {e1 : Nat} {its : Array Value} (ho : s.heap.get? z = some o) (hc : o.cls = .type "dict") (hd : o.data = .dict es e1) (ht : s.heap.IsTuple t its) (hu : A.units < cLine) :
    RcAt A s (.ref z) (.ref t) false := by
  intro pr w E Q y
  obtain ⟨u, hu1, hc2, n, hd2⟩ := ht
  have ne := ne_dt ho hc hu1 hc2
  obtain ⟨cls, q, data, sl⟩ := o
  obtain ⟨cls2, q2, data2, sl2⟩ := u
  simp only at hc hd hc2 hd2
  subst hc hd hc2 hd2
  refine rc_eq_decline_or (k := false) ⟨_, ho, rfl⟩ ⟨_, hu1, rfl⟩ (by decide) F.sub_tuple_dict F.slot_dict_eq F.slot_tuple_eq_refl ?_ ?_ ?_ (.inr hu) y
  · exact fun _ hq => call_meets F.slot_dict_eq ⟨_, ho, rfl⟩ F.entry_dict_eq (F.args_dict_eq_2 _ _) (dctT z t es e1 q q2 sl sl2 its n) ⟨ho, hu1, hq⟩
  · exact fun _ hq => call_meets F.slot_tuple_eq_refl ⟨_, hu1, rfl⟩ F.entry_tuple_eq (F.args_tuple_eq_2 _ _) (tupD t z es e1 q q2 sl sl2 its n) ⟨ho, hu1, hq⟩
  · intro Q' hq
    show wpAny _ _ (if (z == t) = true then pure true else _) _ _ _
    rw [if_neg (by simpa using ne)]
    refine wpAny_bind (wpAny_load ho (wpAny_bind (wpAny_load hu1 ?_)))
    split
    · rename_i h1 h2 _ _
      simp at h1
    · exact wpAny_pure hq
end
end Ag

end
/-! ## D2 -/
section
set_option linter.all false
set_option maxRecDepth 100000
namespace Ag
open PySem PySem.Spec PyProof.Rows L2
open SX (S S_len S_cat S_inj)
open SeqAt
/-! ### comparisons of data -/
section
variable {X : Cx}
def rEqG : R2 := fun x y H Q => ∃ p c d e, Dg p c H x d ∧ Dg p c H y e ∧ SeqAt.shaped d = true ∧ SeqAt.shaped e = true ∧ Q (.bl (PyData.eqv d e)) H
def rNeG : R2 := fun x y H Q => ∃ p c d e, Dg p c H x d ∧ Dg p c H y e ∧ SeqAt.shaped d = true ∧ SeqAt.shaped e = true ∧ Q (.bl (!PyData.eqv d e)) H
theorem op_eqG (hu : X.A.units + 64 < cLine) : OpR X (compareOp .Eq) rEqG := by
  intro pins s σ H x y v u Q I rx ry h
  obtain ⟨p, c, d, e, hd, he, sd, se, q⟩ := h
  obtain ⟨as, r1, _⟩ := Dg.reads I d x v hd rx
  obtain ⟨bs, r2, _⟩ := Dg.reads I e y u he ry
  exact SeqAt.compareEq_shaped r1 r2 sd se hu ⟨.bl _, H, I, rfl, q⟩
theorem op_neG (hu : X.A.units + 64 < cLine) : OpR X (compareOp .NotEq) rNeG := by
  intro pins s σ H x y v u Q I rx ry h
  obtain ⟨p, c, d, e, hd, he, sd, se, q⟩ := h
  obtain ⟨as, r1, _⟩ := Dg.reads I d x v hd rx
  obtain ⟨bs, r2, _⟩ := Dg.reads I e y u he ry
  exact SeqAt.compareNe_shaped r1 r2 sd se hu ⟨.bl _, H, I, rfl, q⟩
/-- any data against the empty tuple -/
def isT0 : PyData → Bool
  | .tuple [] => true
  | _ => false
def ascS : PyData → Bool
  | .str x => PyData.strOk x
  | _ => true
def rEqT0 : R2 := fun x y H Q => ∃ p c d t, Dg p c H x d ∧ ascS d = true ∧ y = .ref t ∧ H t = some (.tup []) ∧ Q (.bl (isT0 d)) H
theorem op_eqT0 (hu : X.A.units + 64 < cLine) : OpR X (compareOp .Eq) rEqT0 := by
  intro pins s σ H x y v u Q I rx ry h
  obtain ⟨p, c, d, t, hd, ha, rfl, ht, q⟩ := h
  cases ry
  obtain ⟨its, rv, hT, _⟩ := I.tuple (SqT.of ht)
  cases rv
  have hz : Reads s.heap (.ref t) (.tuple []) [] := by
    obtain ⟨o, ho, hc, n, hdt⟩ := hT
    exact .tuple ho hc hdt .nil
  have flat : ∀ (d : PyData), Dg p c H x d → d.canLay0 = true → d.depth = 0 → PyData.eqv d (.tuple []) = false → Q (.bl false) H → wpAny (model X.prog X.w) X.A (compareOp .Eq v (.ref t)) (EP X pins σ Q) X.xe s := by
    intro d hd hl h0 he q
    obtain ⟨as, r1, _⟩ := Dg.reads I d x v hd rx
    refine SeqAt.compareEq_reads r1 hz hl rfl (by rw [h0, Nat.zero_min]; omega) ?_
    rw [he]
    exact ⟨.bl _, H, I, rfl, q⟩
  have hu0 : X.A.units < cLine := by omega
  cases d with
  | none => exact flat _ hd rfl rfl rfl q
  | bool b => exact flat _ hd rfl rfl rfl q
  | int i => exact flat _ hd rfl rfl rfl q
  | str z => exact flat _ hd ha rfl rfl q
  | list ds =>
    cases hd with
    | lst a b =>
      cases rx
      obtain ⟨its2, rv2, hL, _⟩ := I.list (SqL.of a.2.2)
      exact RcAt.list_tuple hL.isList hT hu0 _ _ _ _ ⟨.bl _, H, I, rfl, q⟩
  | dict ds =>
    cases hd with
    | dic a b =>
      cases rx
      obtain ⟨_, _, vs, _, o, es, ep, ho, hex, hdt, _⟩ := I.hok _ _ a.2.2
      exact rc_dictT ho hex.1 hdt hT hu0 _ _ _ _ ⟨.bl _, H, I, rfl, q⟩
  | tuple ds =>
    cases hd with
    | tup a b =>
      cases rx
      obtain ⟨its2, rv2, hT2, _⟩ := I.tuple (SqT.of a.2.2)
      refine RcAt.tuples (e := fun _ => false) hT2 hT hu0 (fun j _ h2 => by simp at h2) _ _ _ _ ?_
      have hl : its2.length = ds.length := by rw [← rv2.length]; exact b.len
      have e : (((List.range (min its2.toArray.size (#[] : Array Value).size)).all fun _ => false) && its2.toArray.size == (#[] : Array Value).size) = isT0 (.tuple ds) := by
        cases ds with
        | nil =>
          cases its2 with
          | nil => rfl
          | cons _ _ => simp at hl
        | cons _ _ =>
          cases its2 with
          | nil => simp at hl
          | cons _ _ => simp [isT0]
      refine ⟨.bl _, H, I, rfl, ?_⟩
      rw [e]
      exact q
/-- any data in a tuple of two texts -/
def eqSD (a : Str) : PyData → Bool
  | .str x => a == x
  | _ => false
def is2 (a b : Str) (d : PyData) : Bool := eqSD a d || eqSD b d
def eqVD (d : PyData) : Value → Bool
  | .str a _ => eqSD a d
  | _ => false
def rNotIn2 : R2 := fun x y H Q => ∃ p c d t a b, Dg p c H x d ∧ y = .ref t ∧ H t = some (.tup [.str a, .str b]) ∧ Q (.bl (!is2 a b d)) H
theorem eq_str_any {pins : List (Addr × Obj)} {σ : L2.St} {H : Hp} {s : Shared} {p c : Addr} (hu : X.A.units + 64 < cLine) (I : Inv X pins σ H s) {x : V} {v : Value} {d : PyData} (hd : Dg p c H x d) (rx : RelV x v) (a : Str) (k : Tok) :
    EqAt X.A.in1 s (.str a k) v (eqSD a d) := by
  have hu0 : X.A.in1.units < cLine := by show X.A.units + 1 < cLine; omega
  cases hd with
  | non => cases rx; exact EqAt.str_none a k
  | bl b => cases rx; exact EqAt.str_bool a k b
  | int i => obtain ⟨t, rfl⟩ := rx; exact EqAt.str_int a k i t
  | str z => obtain ⟨t, rfl⟩ := rx; exact EqAt.str_str a k z t
  | lst e _ =>
    cases rx
    obtain ⟨its2, rv2, hL, _⟩ := I.list (SqL.of e.2.2)
    exact EqAt.str_list a k hL.isList hu0
  | tup e _ =>
    cases rx
    obtain ⟨its2, rv2, hL, _⟩ := I.tuple (SqT.of e.2.2)
    exact EqAt.str_tuple a k hL hu0
  | dic e _ =>
    cases rx
    obtain ⟨_, _, vs, _, o, es, ep, ho, hex, hdt, _⟩ := I.hok _ _ e.2.2
    exact eq_strD a k ho hex.1 hdt hu0
theorem op_notIn2 (hu : X.A.units + 64 < cLine) : OpR X (compareOp .NotIn) rNotIn2 := by
  intro pins s σ H x y v u Q I rx ry h
  obtain ⟨p, c, d, t, a, b, hd, rfl, ht, q⟩ := h
  cases ry
  obtain ⟨its, rv, hT, _⟩ := I.tuple (SqT.of ht)
  cases rv with
  | cons ra rt =>
    cases rt with
    | cons rb rt =>
      cases rt
      obtain ⟨ta, rfl⟩ := ra
      obtain ⟨tb, rfl⟩ := rb
      refine notIn_tupleAt (eqVD d) hT (fun y hy => ?_) ⟨.bl _, H, I, rfl, ?_⟩
      · have hy : y = .str a ta ∨ y = .str b tb := by simpa using hy
        rcases hy with rfl | rfl
        · exact eq_str_any hu I hd rx a ta
        · exact eq_str_any hu I hd rx b tb
      · have e : ([Value.str a ta, Value.str b tb] : List Value).toArray.any (eqVD d) = is2 a b d := by
          rw [← Array.any_toList]
          simp [is2, eqVD]
        show Q (.bl (!Array.any _ _)) H
        rw [e]
        exact q
end
end Ag

end
/-! ## D3 -/
section
set_option linter.all false
set_option maxRecDepth 100000
namespace Ag
open PySem PySem.Spec PyProof.Rows L2
open SX (S S_len S_cat S_inj)
theorem numLen {k n : Nat} (hk : 1 ≤ k) (h : n < 10 ^ k) : (numL n).length ≤ k := TL.numL_len hk h
theorem toStrN (n : Nat) : (Str.ofString (toString ((n : Nat) : Int))) = S (numL n) := SX.num_S n
/-! ### good data: ascii texts, ints from -1 below 10 ** 40, short tuples; q: dicts and no lists, not q: lists and no dicts -/
def intOk (i : Int) : Bool := decide (-1 ≤ i) && decide (i < 10 ^ 40)
def strOkB (x : Str) : Bool := x.cps.toList.all (· < 128) && decide (x.cps.size ≤ 300)
mutual
def okV (q : Bool) : PyData → Bool
  | .none => true
  | .bool _ => true
  | .int i => intOk i
  | .str x => strOkB x
  | .list xs => !q && okVA q xs
  | .tuple xs => decide (xs.length ≤ 60) && okVA q xs
  | .dict kvs => q && okVK q kvs
def okVA (q : Bool) : List PyData → Bool
  | [] => true
  | x :: xs => okV q x && okVA q xs
def okVK (q : Bool) : List (PyData × PyData) → Bool
  | [] => true
  | (k, v) :: r => okV q k && okV q v && okVK q r
end
theorem int_good {i : Int} (h : intOk i = true) : i.natAbs.log2 < 1920 ∧ (PyData.int i).shown.length ≤ 60 := by
  simp only [intOk, Bool.and_eq_true, decide_eq_true_eq] at h
  obtain ⟨h1, h2⟩ := h
  rw [PyData.shown_int]
  by_cases h0 : 0 ≤ i
  · obtain ⟨n, rfl⟩ := Int.eq_ofNat_of_zero_le h0
    have hn : n < 10 ^ 40 := by omega
    refine ⟨?_, ?_⟩
    · rw [Int.natAbs_natCast]
      by_cases z : n = 0
      · subst z; decide
      · exact (Nat.log2_lt z).mpr (Nat.lt_of_lt_of_le hn (by decide +kernel))
    · rw [toStrN, S_len]
      have := numLen (k := 40) (by decide) hn
      omega
  · have : i = -1 := by omega
    subst this
    decide +kernel
theorem str_good {x : Str} (h : strOkB x = true) : PyData.strOk x = true ∧ (PyData.str x).leavesShort 60 = true := by
  simp only [strOkB, Bool.and_eq_true, List.all_eq_true, decide_eq_true_eq] at h
  refine ⟨?_, ?_⟩
  · unfold PyData.strOk
    rw [← Array.all_toList, List.all_eq_true]
    intro c hc
    have := h.1 c hc
    simp
    omega
  · simp only [PyData.leavesShort]
    rw [List.all_eq_true]
    intro c hc
    have := h.1 c hc
    simp
    omega
mutual
theorem okV_show {q : Bool} : ∀ d : PyData, okV q d = true → d.showable = true ∧ d.leavesShort 60 = true ∧ (q = true → noL d = true) ∧ (q = false → d.hasDict = false) ∧ (q = false → d.canLay0 = true)
  | .none, _ => by simp [PyData.showable, PyData.hasDict, noL, PyData.canLay0, PyData.leavesShort]
  | .bool _, _ => by simp [PyData.showable, PyData.hasDict, noL, PyData.canLay0, PyData.leavesShort]
  | .int i, h => by
    have := int_good (by simpa only [okV] using h)
    simp only [PyData.showable, PyData.hasDict, noL, PyData.canLay0, PyData.leavesShort, decide_eq_true_eq]
    exact ⟨this.1, this.2, fun _ => trivial, fun _ => trivial, fun _ => trivial⟩
  | .str x, h => by
    obtain ⟨h1, h2⟩ := str_good (by simpa only [okV] using h)
    exact ⟨by simp only [PyData.showable], h2, fun _ => by simp only [noL], fun _ => by simp only [PyData.hasDict], fun _ => by simp only [PyData.canLay0]; exact h1⟩
  | .list xs, h => by
    simp only [okV, Bool.and_eq_true, Bool.not_eq_true'] at h
    obtain ⟨h0, h⟩ := h
    subst h0
    obtain ⟨a, b, _, c, d⟩ := okVA_show xs h
    refine ⟨by simpa only [PyData.showable] using a, by simpa only [PyData.leavesShort] using b, fun z => absurd z (by decide), fun z => ?_, fun z => ?_⟩
    · simpa only [PyData.hasDict] using c z
    · simpa only [PyData.canLay0] using d z
  | .tuple xs, h => by
    simp only [okV, Bool.and_eq_true] at h
    have := okVA_show xs h.2
    simpa only [PyData.showable, PyData.hasDict, noL, PyData.canLay0, PyData.leavesShort] using this
  | .dict kvs, h => by
    simp only [okV, Bool.and_eq_true] at h
    obtain ⟨h0, h⟩ := h
    subst h0
    obtain ⟨a, b, c⟩ := okVK_show kvs h
    refine ⟨by simpa only [PyData.showable] using a, by simpa only [PyData.leavesShort] using b, fun z => ?_, fun z => absurd z (by decide), fun z => absurd z (by decide)⟩
    simpa only [noL] using c z
theorem okVA_show {q : Bool} : ∀ xs : List PyData, okVA q xs = true → PyData.showableAll xs = true ∧ PyData.leavesShortAll 60 xs = true ∧ (q = true → noLA xs = true) ∧ (q = false → PyData.hasDictAll xs = false) ∧ (q = false → PyData.canLayAll0 xs = true)
  | [], _ => by simp [PyData.showableAll, PyData.hasDictAll, noLA, PyData.canLayAll0, PyData.leavesShortAll]
  | x :: xs, h => by
    simp only [okVA, Bool.and_eq_true] at h
    obtain ⟨a1, a2, a3, a4, a5⟩ := okV_show x h.1
    obtain ⟨b1, b2, b3, b4, b5⟩ := okVA_show xs h.2
    simp only [PyData.showableAll, PyData.hasDictAll, noLA, PyData.canLayAll0, PyData.leavesShortAll, a1, a2, b1, b2]
    exact ⟨rfl, rfl, fun z => by rw [a3 z, b3 z]; rfl, fun z => by rw [a4 z, b4 z]; rfl, fun z => by rw [a5 z, b5 z]; rfl⟩
theorem okVK_show {q : Bool} : ∀ xs : List (PyData × PyData), okVK q xs = true → PyData.showableKv xs = true ∧ PyData.leavesShortKv 60 xs = true ∧ (q = true → noLK xs = true)
  | [], _ => by simp [PyData.showableKv, noLK, PyData.leavesShortKv]
  | (k, v) :: xs, h => by
    simp only [okVK, Bool.and_eq_true] at h
    obtain ⟨a1, a2, a3, a4, a5⟩ := okV_show k h.1.1
    obtain ⟨c1, c2, c3, c4, c5⟩ := okV_show v h.1.2
    obtain ⟨b1, b2, b3⟩ := okVK_show xs h.2
    simp only [PyData.showableKv, noLK, PyData.leavesShortKv, a1, a2, b1, b2, c1, c2]
    exact ⟨rfl, rfl, fun z => by rw [c3 z, b3 z]; rfl⟩
end
structure Gd (q : Bool) (d : PyData) (n b : Nat) : Prop where
  ok : okV q d = true
  dp : d.depth ≤ n
  bk : d.bulk ≤ b
structure GdA (q : Bool) (ds : List PyData) (n b : Nat) : Prop where
  ok : okVA q ds = true
  dp : PyData.depthAll ds ≤ n
  bk : PyData.bulkAll ds ≤ b
theorem Gd.mono {q : Bool} {d : PyData} {n m b c : Nat} (h : Gd q d n b) (hn : n ≤ m) (hb : b ≤ c) : Gd q d m c := ⟨h.ok, Nat.le_trans h.dp hn, Nat.le_trans h.bk hb⟩
theorem GdA.mono {q : Bool} {d : List PyData} {n m b c : Nat} (h : GdA q d n b) (hn : n ≤ m) (hb : b ≤ c) : GdA q d m c := ⟨h.ok, Nat.le_trans h.dp hn, Nat.le_trans h.bk hb⟩
theorem Gd.fit {q : Bool} {d : PyData} {n b : Nat} (h : Gd q d n b) (hn : n ≤ 60) (hb : b ≤ 100000) : d.showable = true ∧ (d.hasDict = true → noL d = true) ∧ d.depth ≤ 64 ∧ d.shown.length ≤ sizeLine := by
  obtain ⟨a1, a2, a3, a4, _⟩ := okV_show d h.ok
  refine ⟨a1, fun z => ?_, by have := h.dp; omega, ?_⟩
  · cases q with
    | true => exact a3 rfl
    | false => rw [a4 rfl] at z; cases z
  · have h1 := PyData.shown_le_bulk 60 (by decide) d a2
    have h2 : d.bulk ≤ 100000 := Nat.le_trans h.bk hb
    rw [sizeLine_eq]
    omega
theorem Gd.shaped {d : PyData} {n b : Nat} (h : Gd false d n b) (hn : n ≤ 60) : SeqAt.shaped d = true := by
  unfold SeqAt.shaped
  rw [(okV_show d h.ok).2.2.2.2 rfl, decide_eq_true (by have := h.dp; omega)]
  rfl
theorem Gd.asc {q : Bool} {d : PyData} {n b : Nat} (h : Gd q d n b) : ascS d = true := by
  cases d with
  | str x => exact (str_good (by simpa only [okV] using h.ok)).1
  | _ => rfl
theorem GdA.nil {q : Bool} {n b : Nat} : GdA q [] n b := ⟨by simp [okVA], by simp [PyData.depthAll], by simp [PyData.bulkAll]⟩
theorem GdA.cons {q : Bool} {d : PyData} {ds : List PyData} {n b b1 b2 : Nat} (h : Gd q d n b1) (k : GdA q ds n b2) (hb : b1 + b2 + 1 ≤ b) : GdA q (d :: ds) n b := by
  refine ⟨?_, ?_, ?_⟩
  · simp only [okVA, h.ok, k.ok]
    rfl
  · simp only [PyData.depthAll]
    have := h.dp
    have := k.dp
    omega
  · simp only [PyData.bulkAll]
    have := h.bk
    have := k.bk
    omega
theorem Gd.tup {q : Bool} {ds : List PyData} {n b : Nat} (h : GdA q ds n b) (hl : ds.length ≤ 60) : Gd q (.tuple ds) (n + 1) b := by
  refine ⟨?_, ?_, ?_⟩
  · simp only [okV, h.ok, decide_eq_true hl]
    rfl
  · simp only [PyData.depth]
    have := h.dp
    omega
  · simp only [PyData.bulk]
    exact h.bk
theorem Gd.lst {ds : List PyData} {n b : Nat} (h : GdA false ds n b) : Gd false (.list ds) (n + 1) b := by
  refine ⟨?_, ?_, ?_⟩
  · simp only [okV, h.ok]
    rfl
  · simp only [PyData.depth]
    have := h.dp
    omega
  · simp only [PyData.bulk]
    exact h.bk
theorem Gd.untup {q : Bool} {ds : List PyData} {n b : Nat} (h : Gd q (.tuple ds) n b) : GdA q ds (n - 1) b ∧ ds.length ≤ 60 := by
  have h1 := h.ok
  simp only [okV, Bool.and_eq_true, decide_eq_true_eq] at h1
  have h2 := h.dp
  simp only [PyData.depth] at h2
  have h3 := h.bk
  simp only [PyData.bulk] at h3
  exact ⟨⟨h1.2, by omega, h3⟩, h1.1⟩
theorem GdA.hd {q : Bool} {d : PyData} {ds : List PyData} {n b : Nat} (h : GdA q (d :: ds) n b) : Gd q d n b ∧ GdA q ds n b := by
  have h1 := h.ok
  simp only [okVA, Bool.and_eq_true] at h1
  have h2 := h.dp
  simp only [PyData.depthAll] at h2
  have h3 := h.bk
  simp only [PyData.bulkAll] at h3
  exact ⟨⟨h1.1, by omega, by omega⟩, ⟨h1.2, by omega, by omega⟩⟩
theorem GdA.mem {q : Bool} {n b : Nat} : ∀ {ds : List PyData}, GdA q ds n b → ∀ d ∈ ds, Gd q d n b
  | [], _, d, hd => by cases hd
  | x :: xs, h, d, hd => by
    rcases List.mem_cons.mp hd with rfl | hd
    · exact h.hd.1
    · exact GdA.mem h.hd.2 d hd
theorem bulk_app : ∀ (xs ys : List PyData), PyData.bulkAll (xs ++ ys) = PyData.bulkAll xs + PyData.bulkAll ys
  | [], ys => by simp [PyData.bulkAll]
  | x :: xs, ys => by
    rw [List.cons_append]
    simp only [PyData.bulkAll, bulk_app xs ys]
    omega
theorem GdA.app {q : Bool} {n b1 b2 b : Nat} : ∀ {xs ys : List PyData}, GdA q xs n b1 → GdA q ys n b2 → b1 + b2 ≤ b → GdA q (xs ++ ys) n b := by
  intro xs ys h k hb
  have hk := k.bk
  have hh := h.bk
  refine ⟨?_, ?_, by rw [bulk_app]; omega⟩
  · have h1 := h.ok
    clear h hh
    induction xs with
    | nil => exact k.ok
    | cons x xs ih =>
      simp only [okVA, Bool.and_eq_true] at h1
      rw [List.cons_append]
      simp only [okVA, h1.1, ih h1.2]
      rfl
  · have h1 := h.dp
    clear h hh
    induction xs with
    | nil => exact k.dp
    | cons x xs ih =>
      simp only [PyData.depthAll] at h1
      rw [List.cons_append]
      simp only [PyData.depthAll]
      have := ih (by omega)
      omega
theorem GdA.take {q : Bool} {n b : Nat} : ∀ {xs : List PyData} (m : Nat), GdA q xs n b → GdA q (xs.take m) n b := by
  intro xs m h
  have e := bulk_app (xs.take m) (xs.drop m)
  rw [List.take_append_drop] at e
  have hb := h.bk
  refine ⟨?_, ?_, by omega⟩
  · have h1 := h.ok
    clear h e hb
    induction xs generalizing m with
    | nil => simpa using h1
    | cons x xs ih =>
      cases m with
      | zero => simp [okVA]
      | succ m =>
        simp only [okVA, Bool.and_eq_true] at h1
        rw [List.take_succ_cons]
        simp only [okVA, h1.1, ih m h1.2]
        rfl
  · have h1 := h.dp
    clear h e hb
    induction xs generalizing m with
    | nil => simpa using h1
    | cons x xs ih =>
      cases m with
      | zero => simp [PyData.depthAll]
      | succ m =>
        simp only [PyData.depthAll] at h1
        rw [List.take_succ_cons]
        simp only [PyData.depthAll]
        have := ih m (by omega)
        omega
theorem GdA.drop {q : Bool} {n b : Nat} : ∀ {xs : List PyData} (m : Nat), GdA q xs n b → GdA q (xs.drop m) n b
  | _, 0, h => h
  | [], _ + 1, h => by simpa using h
  | _ :: xs, m + 1, h => by
    rw [List.drop_succ_cons]
    exact GdA.drop m h.hd.2
theorem GdA.rev {q : Bool} {n b : Nat} : ∀ {xs : List PyData}, GdA q xs n b → GdA q xs.reverse n b := by
  intro xs h
  have key : ∀ xs : List PyData, okVA q xs = true → PyData.depthAll xs ≤ n → GdA q xs.reverse n (PyData.bulkAll xs) := by
    intro xs
    induction xs with
    | nil => exact fun _ _ => .nil
    | cons x xs ih =>
      intro h1 h2
      simp only [okVA, Bool.and_eq_true] at h1
      simp only [PyData.depthAll] at h2
      rw [List.reverse_cons]
      simp only [PyData.bulkAll]
      exact (ih h1.2 (by omega)).app (b2 := x.bulk + 1) (.cons (b1 := x.bulk) (b2 := 0) ⟨h1.1, by omega, Nat.le_refl _⟩ .nil (by omega)) (by omega)
  exact (key xs h.ok h.dp).mono (Nat.le_refl _) h.bk
theorem Gd.non {q : Bool} {n b : Nat} : Gd q .none n b := ⟨by simp [okV], by simp [PyData.depth], by simp [PyData.bulk]⟩
theorem Gd.bl {q c : Bool} {n b : Nat} : Gd q (.bool c) n b := ⟨by simp [okV], by simp [PyData.depth], by simp [PyData.bulk]⟩
theorem Gd.int {q : Bool} {i : Int} {n b : Nat} (h : intOk i = true) : Gd q (.int i) n b := ⟨by simp [okV, h], by simp [PyData.depth], by simp [PyData.bulk]⟩
theorem Gd.str {q : Bool} {x : Str} {n b : Nat} (h : strOkB x = true) (hb : x.cps.size ≤ b) : Gd q (.str x) n b := ⟨by simp [okV, h], by simp [PyData.depth], by simp [PyData.bulk]; exact hb⟩
theorem S_toList (x : Str) : S x.cps.toList = x := rfl
theorem Gd.strL {q : Bool} {l : List Nat} {n b : Nat} (h : l.all (· < 128) = true) (h2 : l.length ≤ 300) (hb : l.length ≤ b) : Gd q (.str (S l)) n b := by
  refine .str ?_ (by rw [show (S l).cps.size = l.length from List.size_toArray ..]; exact hb)
  simp only [strOkB, Bool.and_eq_true, decide_eq_true_eq]
  exact ⟨h, by rw [show (S l).cps.size = l.length from List.size_toArray ..]; exact h2⟩
theorem Gd.strlen {q : Bool} {x : Str} {n b : Nat} (h : Gd q (.str x) n b) : x.cps.toList.all (· < 128) = true ∧ x.cps.toList.length ≤ 300 := by
  have := h.ok
  simp only [okV, strOkB, Bool.and_eq_true, decide_eq_true_eq] at this
  exact ⟨this.1, by rw [Array.length_toList]; exact this.2⟩
end Ag

end
/-! ## SetD -/
section
set_option linter.all false
set_option maxRecDepth 100000
namespace Ag
open PySem PySem.Spec PyProof.Rows L2
/-! ### set(xs) of a list of any texts, its length -/
/-- how many unlike ones among the first i -/
def dnT (ks : List Str) : Nat → Nat
  | 0 => 0
  | i + 1 => match ks[i]? with
    | some k => if decide (k ∈ ks.take i) = true then dnT ks i else dnT ks i + 1
    | none => dnT ks i
theorem dnT_le (ks : List Str) : ∀ i, dnT ks i ≤ i
  | 0 => Nat.le_refl _
  | i + 1 => by
    have := dnT_le ks i
    show (match ks[i]? with | some k => if decide (k ∈ ks.take i) = true then dnT ks i else dnT ks i + 1 | none => dnT ks i) ≤ i + 1
    split
    · split
      · exact Nat.le_succ_of_le this
      · exact Nat.succ_le_succ this
    · exact Nat.le_succ_of_le this
section
variable {P : Program} {w : World} {A : Around}
/-- the first i texts are in the set -/
abbrev InD (P : Program) (w : World) (h : Heap) (S : Addr) (ks : List Str) (i : Nat) : Prop := h.SetOf (strKind P w) S (fun k => decide (k ∈ ks.take i)) (dnT ks i)
theorem InD.at_ {h h' : Heap} {S : Addr} {ks : List Str} {i : Nat} (q : InD P w h S ks i) (k : ∀ o, h.get? S = some o → h'.get? S = some o) : InD P w h' S ks i := by
  obtain ⟨o, es, ep, tb, ho, r⟩ := q
  exact ⟨o, es, ep, tb, k o ho, r⟩
theorem fillD {I S : Addr} {fp wr : List Addr} {G : Array GenState → Array GenState → Prop} {n : Nat} {Pv : Nat → Value → Prop} {St : Nat → Shared → Prop} {R : Result → Shared → Prop} {ks : List Str}
    (W : WalksS P w A.in1 I fp wr G n Pv St) (nS : S ∉ fp) (hn : ks.length = n) (hb : n + 1 < scanBound) (hv : ∀ i v, Pv i v → ∃ k t, ks[i]? = some k ∧ v = .str k t) (m : Nat) :
    ∀ (i : Nat) (s : Shared), i + m = n → St i s → InD P w s.heap S ks i → (∀ s', Moved (S :: wr) G s s' → InD P w s'.heap S ks n → R (.ok (.ret .none)) s') → codeAny (model P w) A (.builtin "set.update.loop" ⟨[.ref S, .ref I], []⟩) R s := by
  have nW : S ∉ wr := fun z => nS (W.sub _ z)
  have more : ∀ b ∈ wr, b ∈ S :: wr := fun b z => List.mem_cons_of_mem _ z
  induction m with
  | zero =>
    rintro i s rfl st q fin
    refine codeAny_builtin F.entry_set_update_loop (by
      rw [Around.under_plainId F.plain_set_update_loop _]
      exact show wpAny _ A.in1 (pyNext (.ref I) >>= _) _ _ s from wpAny_bind (W.done s _ _ st fun s' mv => show wpAny _ A.in1 (ret Value.none) _ _ s' from wpAny_pure (fin s' (mv.mono more) (q.at_ fun o e => mv.heap S o nW e))))
  | succ m ih =>
    rintro i s hi st q fin
    have lt : i < n := by omega
    refine codeAny_builtin F.entry_set_update_loop ?_
    rw [Around.under_plainId F.plain_set_update_loop _]
    refine show wpAny _ A.in1 (pyNext (.ref I) >>= _) _ _ s from wpAny_bind (W.item i s _ _ lt st fun v s1 pv st1 mv => ?_)
    obtain ⟨k, t, hk, rfl⟩ := hv i v pv
    have q1 := q.at_ fun o e => mv.heap S o nW e
    refine show wpAny _ A.in1 (holding [Value.str k t] (setAdd S (.str k t)) >>= _) _ _ s1 from wpAny_bind (wpAny_holding ?_)
    unfold setAdd
    refine wpAny_holding (wpAny_bind ((strKind P w).pyHash (k := k) (strKind_is _ _ _ _) (wpAny_setAddHashed_of (knd := strKind P w) (s := { s1 with toks := s1.toks + 1 }) (strKind_is _ _ _ _) rfl q1 (by have := dnT_le ks i; omega) fun h' but q2 => ?_)))
    have q3 : InD P w h' S ks (i + 1) := SetOf_congr q2 (fun j => by
      rw [List.take_add_one, hk]
      simp [List.mem_append]) (by show _ = dnT ks (i + 1); simp only [dnT, hk])
    have out : ∀ b o, b ≠ S → s1.heap.get? b = some o → h'.get? b = some o := fun b o z e => (but.2 b z).trans e
    refine wpAny_pure ⟨plainId_quiet F.plain_set_update_loop _, ih (i + 1) _ (by omega) (W.frame _ s1 _ _ st1 (Nat.le_succ _) fun b z o e => out b o (fun y => nS (y ▸ z)) e) q3 fun s2 mv2 q4 => ?_⟩
    exact fin s2 (Moved.trans W.gtrans ((mv.mono more).then_heap (Nat.le_succ _) fun b o z e => out b o (fun y => z (y ▸ List.mem_cons_self)) e) mv2) q4
end
theorem txt_atD : ∀ {vs : List Value} {ks : List Str}, StrsAre vs ks → ∀ (i : Nat) (v : Value), vs[i]? = some v → ∃ k t, ks[i]? = some k ∧ v = .str k t
  | _, _, .nil, i, v, e => by simp at e
  | _, _, .cons x t r, 0, v, e => ⟨x, t, rfl, (Option.some.inj e).symm⟩
  | _, _, .cons x t r, i + 1, v, e => txt_atD r i v e
section
variable {P : Program} {w : World} {A : Around} {E : Value → Shared → Prop} {s : Shared}
/-- a set's object as it is made -/
abbrev nilSetD (w : World) : Obj := { cls := .type "set", dict := none, data := .set #[] 0 (.fresh 0 0 (!w.params.followText "set-order")) }
set_option maxHeartbeats 3200000 in
theorem set_txtD {l : Addr} {its : Array Value} (ks : List Str) {Q : Value → Shared → Prop} (hh : A.handled = none) (hl : s.heap.IsList l its) (hit : StrsAre its.toList ks) (hb : ks.length + 1 < scanBound)
    (fin : ∀ (h' : Heap) (tk : Nat), InD P w h' s.heap.objs.size ks ks.length → (∀ b o, s.heap.get? b = some o → h'.get? b = some o) → Q (.ref s.heap.objs.size) { s with heap := h', toks := tk }) :
    wpAny (model P w) A (call (.type "set") [.ref l]) Q E s := by
  have esz : its.size = ks.length := by
    have q := StrsAre.len_eq hit
    rwa [Array.length_toList] at q
  obtain ⟨cc, tl, m0⟩ := F.called_set.mro
  have m1 := F.called_set.made
  have m2 := F.called_set.sub
  refine wpAny_call (codeAny_of_tree (show wpAny _ _ (callAny (.type "set") _) _ _ _ from wpAny_pure ⟨Code.quiet_builtin _ (by decide +kernel), codeAny_builtin F.entry_type_call ?_⟩))
  rw [Around.under_plain (weight_type_call_type "set" [.ref l] []) rfl]
  have m3 := F.called_set.notType
  have m4 := F.called_set.canCreate
  have m5 := F.typeCall_set_1 (.ref l)
  repeat (any_goals (first | assumption | wp_step))
  refine codeAny_mono (code_set_led1 (.ref l) (E := E) (Q₁ := fun ob s1 => ob = .ref s.heap.objs.size ∧ s1 = { s with heap := s.heap.push (nilSetD w) }) ⟨rfl, rfl⟩) fun r s1 hr => ?_
  match r, hr with
  | .error e, hr => exact hr
  | .ok .next, hr => exact hr.elim
  | .ok .brk, hr => exact hr.elim
  | .ok .cont, hr => exact hr.elim
  | .ok (.ret ob), hr =>
    obtain ⟨rfl, rfl⟩ := hr
    have g1 : (s.heap.push (nilSetD w)).get? s.heap.objs.size = some (nilSetD w) := Heap.get?_push_size _ rfl
    have g2 : Shared.TypeIs { s with heap := s.heap.push (nilSetD w) } (.ref s.heap.objs.size) "set" := ⟨_, g1, rfl⟩
    have m6 := F.called_set.init.lookup
    have m7 := F.called_set.init.bind (.ref s.heap.objs.size)
    repeat (any_goals (first | assumption | wp_step))
    refine codeAny_mono (codeAny_call_builtin (R := wants (fun r s2 => r = .none ∧ ∃ h' tk, s2 = { s with heap := h', toks := tk } ∧ InD P w h' s.heap.objs.size ks ks.length ∧
        (∀ b o, s.heap.get? b = some o → h'.get? b = some o)) E) F.called_set.init.plain F.entry_set_init (check_set_init_1 g2 ?_)) fun r2 s2 hr2 => ?_
    · obtain ⟨ol, e1, e2, nl, e3⟩ := hl
      obtain ⟨k1, k2, k3, k4⟩ := ol
      simp only at e2 e3
      subst e2 e3
      have g3 : (s.heap.push (nilSetD w)).get? l = some { cls := .type "list", dict := k2, data := .seq its nl, slots := k4 } := Heap.get?_push_of_some _ e1
      have m8 := F.sub_list_set
      have m9 := F.sub_list_frozenset
      have ma : (Value.type "list" == Value.type "dict") = false := by decide
      have hl1 : (s.heap.push (nilSetD w)).IsList l its := ⟨_, g3, rfl, nl, rfl⟩
      unfold Builtin.«set.__init__» noKeywords Builtin.Frozenset.updateFrom
      generalize hPI : pyIter = PI
      wp_walk
      subst hPI
      refine wpAny_pyIter_list hl1 (wpAny_bind (wpAny_runValue ?_))
      have lt := Heap.lt_size e1
      have hh3 : A.in1.in1.in1.handled = none := by simp [hh]
      have nI : l ≠ (s.heap.push (nilSetD w)).objs.size := by
        rw [Heap.size_push]
        exact Nat.ne_of_lt (Nat.lt_succ_of_lt lt)
      have nS : s.heap.objs.size ∉ [(s.heap.push (nilSetD w)).objs.size, l] := by
        rw [Heap.size_push]
        intro z
        rcases List.mem_cons.mp z with z | z
        · exact Nat.ne_of_lt (Nat.lt_succ_self _) z
        · exact Nat.ne_of_gt lt (List.mem_singleton.mp z)
      have vals : ∀ (i : Nat) (v : Value), its[i]? = some v → ∃ k t, ks[i]? = some k ∧ v = .str k t := fun i v hv => txt_atD hit i v (by rw [Array.getElem?_toList]; exact hv)
      refine fillD ((Walks.list hh3 _ l nI its).toS) nS esz.symm (by omega) vals its.size 0 _ (by omega) ⟨⟨_, Heap.get?_push_size _ rfl, rfl, rfl⟩, (hl1.push _)⟩ ?_ ?_
      · exact SetOf_congr ((setObjOf_fresh (knd := strKind P w) _).setOf (Heap.get?_push_of_some _ g1) (by unfold scanBound; omega)) (fun _ => rfl) rfl
      · intro s' hm hS'
        obtain ⟨h', q1, q2, tk', q3⟩ := s'
        obtain rfl : q1 = s.gens := hm.gens
        obtain rfl : q2 = s.drawn := hm.drawn
        obtain rfl : q3 = s.os := hm.os
        rw [esz] at hS'
        refine show wpAny _ _ _ _ _ _ from wpAny_pure (show wpAny _ _ (ret Value.none) _ _ _ from wpAny_pure ⟨rfl, h', tk', rfl, hS', fun b o e => ?_⟩)
        have b0 : b < s.heap.objs.size := Heap.lt_size e
        refine hm.heap b o ?_ (Heap.get?_push_of_some _ (Heap.get?_push_of_some _ e))
        rw [Heap.size_push]
        intro z
        rcases List.mem_cons.mp z with z | z
        · exact Nat.ne_of_lt b0 z
        · exact Nat.ne_of_lt (Nat.lt_succ_of_lt b0) (List.mem_singleton.mp z)
    · match r2, hr2 with
      | .error e, hr2 => exact hr2
      | .ok .next, hr2 => exact hr2.elim
      | .ok .brk, hr2 => exact hr2.elim
      | .ok .cont, hr2 => exact hr2.elim
      | .ok (.ret r), hr2 =>
        obtain ⟨rfl, h', tk, rfl, a1, a3⟩ := hr2
        repeat (any_goals (first | assumption | wp_step))
        exact fin _ _ a1 a3
end
/-- whether all are unlike -/
theorem dnT_full (ks : List Str) : ∀ i, i ≤ ks.length → (dnT ks i = i ↔ (ks.take i).Nodup)
  | 0, _ => by simp [dnT]
  | i + 1, h => by
    have h' : i < ks.length := h
    have hk : ks[i]? = some ks[i] := List.getElem?_eq_getElem h'
    have ih := dnT_full ks i (Nat.le_of_lt h')
    have le := dnT_le ks i
    have e : dnT ks (i + 1) = if decide (ks[i] ∈ ks.take i) = true then dnT ks i else dnT ks i + 1 := by simp only [dnT, hk]
    rw [e, List.take_add_one, hk]
    by_cases hm : ks[i] ∈ ks.take i
    · rw [if_pos (decide_eq_true hm)]
      refine ⟨fun z => by omega, fun z => ?_⟩
      exact absurd rfl ((List.nodup_append.mp z).2.2 _ hm _ (by simp))
    · rw [if_neg (by rw [decide_eq_false hm]; decide)]
      refine ⟨fun z => ?_, fun z => ?_⟩
      · have nd := ih.mp (by omega)
        refine List.nodup_append.mpr ⟨nd, by simp, fun a ha b hb => ?_⟩
        have : b = ks[i] := by simpa using hb
        rw [this]
        exact fun q => hm (q ▸ ha)
      · have nd := (List.nodup_append.mp z).1
        have := ih.mpr nd
        omega
section
variable {P : Program} {w : World}
/-- a set of texts -/
def SetDO (P : Program) (w : World) (a : Addr) (ks : List Str) : HO := .ext fun h => InD P w h a ks ks.length
theorem setDO_new {H : Hp} {h : Heap} {a : Addr} {ks : List Str} (R : InD P w h a ks ks.length) : ObjOk P w H h a (SetDO P w a ks) := by
  have ⟨o, _, _, _, ho, _⟩ := R
  exact ⟨R, ⟨o, ho⟩, fun h1 h2 p k => InD.at_ p k⟩
section
variable {X : Cx}
def rSetD (K : PySem.W.Frag) (P : Program) (w : World) : List V → Hp → VK → Prop := fun xs H Q => ∃ (l : Addr) (ks : List Str), xs = [.ref l] ∧ SqL K H l (ks.map V.str) ∧ ks.length ≤ 1000 ∧
  ∀ a, H a = none → Q (.ref a) (upd H a (SetDO P w a ks))
theorem cr_setD (hc : X.calm = true) : CallR X (.type "set") (rSetD X.K X.prog X.w) := by
  intro pins s σ H xs us Q I r h
  obtain ⟨l, ks, rfl, hs, hz, q⟩ := h
  rw [Vals.ref1 r]
  obtain ⟨its, rv, pl, _⟩ := I.list hs
  refine set_txtD ks (I.ok.hd hc) pl.isList (by simpa using Vals.strs rv) (by unfold scanBound; omega) fun h' tk R kp => ?_
  exact ⟨.ref _, _, I.laid (t' := tk) kp (Nat.le_refl _) (setDO_new R), rfl, q _ (I.hok.fresh (Nat.le_refl _))⟩
def rLenSetD (P : Program) (w : World) : List V → Hp → VK → Prop := fun xs H Q => ∃ (a : Addr) (ks : List Str), xs = [.ref a] ∧ H a = some (SetDO P w a ks) ∧ ks.length ≤ 1000 ∧ Q (.int (dnT ks ks.length : Nat)) H
theorem cr_lenSetD : CallR X (.builtin "len") (rLenSetD X.prog X.w) := by
  intro pins s σ H xs us Q I r h
  obtain ⟨a, ks, rfl, ha, hn, q⟩ := h
  rw [Vals.ref1 r]
  obtain ⟨o, es, ep, t, ho, hex, hd, _, _, _, hf, he⟩ := (I.hok a _ ha).1
  exact call_len_set ho hex hd hf (by rw [he]; have := dnT_le ks ks.length; omega) ⟨.int (dnT ks ks.length : Nat), H, I.tok _, ⟨_, by rw [he]⟩, q⟩
end
end
end Ag

end
/-! ## Exc1 -/
section
set_option linter.all false
set_option maxRecDepth 100000
namespace Ag
open PySem PySem.Spec PyProof.Rows L2
/-! ### own exceptions over Exception, whose __init__ stores -/
abbrev exT : List Value := [.type "Exception", .type "BaseException", .type "object"]
structure OexE (K : PySem.W.Frag) (C : Addr) : Prop where
  cl : ∃ (nm q : Str) (N : Addr) (bs bm : List Value) (sn : List Str) (sub : List Value) (ab : Bool) (col : Option Bool) (dd : Option Addr) (k0 k1 k2 k3 k5 : Option Value),
    K.lookup C = some (excClassObj nm q C N bs bm true sn sub ab col dd k0 k1 k2 k3 k5 "Exception.__new__") ∧ PySem.W.excTail exT bm = true
  st : PySem.W.findIn K (.ref C) "__setattr__" = some (some (.builtin "object.__setattr__")) ∧ PySem.W.subIn K (.ref C) (.type "BaseException") = some true ∧ PySem.W.typeIn K (.ref C) = some (.type "type") ∧ PySem.W.keepIn K (.ref C) = true
section
variable {X : Cx} {pins : List (Addr × Obj)} {σ : L2.St} {H : Hp} {s : Shared} {a C : Addr} {f : Str} {y : V} {u : Value} {Q : Unit → Shared → Prop} {E : Value → Shared → Prop} {A : Around}
theorem oexE_over {K : PySem.W.Frag} (T : OexE K C) : PySem.W.excOver K C exT = true ∧ ∃ cd, PySem.W.clsIn K C = some cd ∧ cd.hasDict = true := by
  obtain ⟨nm, q, N, bs, bm, sn, sub, ab, col, dd, k0, k1, k2, k3, k5, hC, hbm⟩ := T.cl
  have e : PySem.W.clsIn K C = some { name := nm, bases := bs, mro := .ref C :: bm, ns := N, qualname := q, hasDict := true, slotNames := sn, subclasses := sub, abstract := ab, collection := col, hasDel := false } := by
    unfold PySem.W.clsIn
    rw [hC] <;> rfl
  refine ⟨?_, _, e, rfl⟩
  unfold PySem.W.excOver
  rw [e]
  show (C == C && PySem.W.excTail exT bm) = true
  rw [hbm]
  simp
/-- self.f = y, the first one -/
theorem stE_new (T : OexE X.K C) (I : Inv X pins σ H s) (e : H a = some (exo a C none)) (hno : PySem.W.findIn X.K (.ref C) f = some none) (ry : RelV y u)
    (h : ∀ dx s', H dx = none → dx ≠ a → Inv X pins σ (upd (upd H dx (exd dx [(f, y)])) a (exo a C (some dx))) s' → Q () s') : wpAny (model X.prog X.w) A (setAttr (.ref a) f u) Q E s := by
  obtain ⟨ho1, cd, hcd, hhd⟩ := oexE_over T
  obtain ⟨t1, ho⟩ := exo_at I.hok e
  obtain ⟨hp, g, d, t, os⟩ := s
  refine PySem.W.set_plain (od := none) I.kIn ⟨ho, rfl, rfl, trivial⟩ T.st.1 (PySem.W.osa_openX (od := none) F.store_Exception I.kIn ⟨ho, rfl, rfl, trivial⟩ ho1 (by unfold PySem.W.takerIn; rw [hno]; rfl) fun b => ?_)
  have hal : a < hp.objs.size := Heap.lt_size ho
  refine wpAny_bind (wpAny_pure (wpAny_bind (PySem.W.instanceDict_exc (t := t1) (c2 := .none) ho (PySem.W.looks_clsIn I.kIn hcd) hhd ?_)))
  have had : a ≠ hp.objs.size := Nat.ne_of_lt hal
  have hpu : (hp.push (PySem.W.dictOf [] 0)).get? a = some (PySem.W.excObj C t1 none .none) := Heap.get?_push_of_some _ ho
  refine HandSPX.store_in_new ⟨_, #[], 0, (Heap.get?_update_other _ _ had).trans (Heap.get?_push_size _ rfl), rfl, fun e he => by simp at he, fun _ => rfl⟩ fun h' tk' hn' hs => ?_
  -- the heap behind, and one between
  have h1 : h'.get? a = some (PySem.W.excObj C t1 (some hp.objs.size) .none) := (hs.2 a had).trans (Heap.get?_update_self _ hpu rfl)
  have kp : ∀ b o, b ≠ a → hp.get? b = some o → h'.get? b = some o := fun b o hb hbo => (hs.2 b (Nat.ne_of_lt (Heap.lt_size hbo))).trans ((Heap.get?_update_other _ _ (Ne.symm hb)).trans (Heap.get?_push_of_some _ hbo))
  have m1 : (h'.update a fun _ => PySem.W.excObj C t1 none .none).get? a = some (PySem.W.excObj C t1 none .none) := Heap.get?_update_self _ h1 rfl
  have m2 : ∀ b, b ≠ a → (h'.update a fun _ => PySem.W.excObj C t1 none .none).get? b = h'.get? b := fun b hb => Heap.get?_update_other _ _ (Ne.symm hb)
  have hn2 : (h'.update a fun _ => PySem.W.excObj C t1 none .none).Ns1 hp.objs.size (fun y => if y = f then some u else none) := hn'.at fun o q => (m2 _ (Ne.symm had)).trans q
  have I1 : Inv X pins σ (upd H hp.objs.size (exd hp.objs.size [(f, y)])) ⟨h'.update a fun _ => PySem.W.excObj C t1 none .none, g, d, tk', os⟩ :=
    I.laid (a := hp.objs.size) (t' := tk') (fun b o hbo => by
      by_cases hb : b = a
      · subst hb
        rw [ho] at hbo
        rw [m1]
        exact hbo
      · rw [m2 b hb]
        exact kp b o hb hbo) (Nat.le_refl _) (exd_ok hn2 (relO_put (fs := []) ry fun _ => True.intro))
  have e1 : upd H hp.objs.size (exd hp.objs.size [(f, y)]) a = some (exo a C none) := by rw [upd_ne had]; exact e
  have I2 := I1.write (h' := h') (x := a) (e := a) (o := exo a C (some hp.objs.size)) (t' := tk') (by rw [e1]; exact True.intro) (.inl rfl) (fun b o hb q => by rw [← m2 b hb]; exact q) ⟨_, h1⟩ (exo_ok h1)
  exact h _ _ (I.hok.fresh (Nat.le_refl _)) (Ne.symm had) I2
end
end Ag

end
/-! ## Exc2 -/
section
set_option linter.all false
set_option maxRecDepth 100000
namespace Ag
open PySem PySem.Spec PyProof.Rows L2
/-- self.f = e in an own __init__ -/
def tStE (K : PySem.W.Frag) (f : Str) (to te : TE) : TS := fun D σ H => te σ H fun y H1 => to σ H1 fun x H2 => ∃ a C : Addr, x = .ref a ∧ OexE K C ∧ PySem.W.findIn K (.ref C) f = some none ∧ H2 a = some (exo a C none) ∧
  ∀ dx, H2 dx = none → dx ≠ a → D.nx σ (upd (upd H2 dx (exd dx [(f, y)])) a (exo a C (some dx)))
section
variable {X : Cx} {o e : Expr} {es : List Expr} {to te : TE} {ta : TA} {f x : Str} {p p' pos : Pos}
theorem psE_ost (ho : PE X o to) (he : PE X e te) (hs : swapsWith e (some (.Attribute o f p')) pos.line X.env = pure false := by rfl) : PS X (.Assign [.Attribute o f p'] e pos) (tStE X.K f to te) := by
  constructor
  intro pins s σ H D I h
  refine plainObj_wpAny_Assign_Attribute (thn (he.run pins s σ H _ I h) ?_) hs
  rintro v s1 ⟨y, H1, I1, r1, q1⟩
  refine thn (ho.run pins s1 σ H1 _ I1 q1) ?_
  rintro u s2 ⟨x, H2, I2, r2, a, C, rfl, T, hno, ea, q⟩
  cases (show u = Value.ref a from r2)
  exact stE_new T I2 ea hno r1 fun dx s' n ne J => ⟨σ, _, J, q dx n ne⟩
/-- C(e, ..) of such a class -/
theorem pmkE {CX : CXT} {C fI : Addr} {k : Nat} {fd : FuncData} {ps : List Str} {sp : Sp} (T : OexE X.K C) (iC : PySem.W.findIn X.K (.ref C) "__init__" = some (some (.ref fI)) ∧ PySem.W.typeIn X.K (.ref fI) = some (.type "function"))
    (F1 : FnOk X.prog X.w X.K X.mg X.base CX k fI fd ps sp) (hr : Room (k + 1) X.A) (hb : Binds X.K fd ps []) (hx : Passes CX X E0) (hg : Gl X x) (hm : X.mg x = some (.ref C)) (ha : PA X (e :: es) ta) (hdb : (x == ("__debug__" : Str)) = false := by decide)
    (he : starEach (e :: es) X.env = (false, eval e X.env) :: starEach es X.env := by rfl) (hpl : (backTo pos (starEach es X.env)).any (·.1) = false := by rfl) : PMk X (.Call (.Name x p) (e :: es) [] pos) (tMkO C sp [] ta) := by
  intro pins s σ H Q I h
  refine wpAny_Call_Name_kw (ld_glob I hg hm (PySem.W.callWith_K (h₀ := X.base) I.ok.mod.kin T.st.2.2.2 (thn (ha.run pos pins s σ H _ I h) ?_) he hpl) hdb)
  rintro us ⟨hp, g, dr, tk, os⟩ ⟨vs, H1, I1, r1, hz, q1⟩
  refine ⟨I1.kIn, ?_⟩
  show wpAny _ _ (call (.ref C) us) _ _ _
  obtain ⟨nm, q, N, bs, bm, sn, sub, ab, col, dd, k0, k1, k2, k3, k5, hC, hbm⟩ := T.cl
  have hq := q1 (hp.objs.size + 1) (I1.hok.fresh (Nat.le_succ _))
  rw [List.append_nil] at hq
  generalize hP : hp.push (PySem.W.kdv_tup us) = hp1
  have z1 : hp1.objs.size = hp.objs.size + 1 := by rw [← hP, Heap.size_push]
  have kk : ∀ b o, hp.get? b = some o → (hp1.push (HandSPX.excO C hp.objs.size)).get? b = some o := fun b o w => Heap.get?_push_of_some _ (by rw [← hP]; exact Heap.get?_push_of_some _ w)
  have gt : (hp1.push (HandSPX.excO C hp.objs.size)).get? (hp.objs.size + 1) = some (HandSPX.excO C hp.objs.size) := by rw [← z1]; exact Heap.get?_push_size _ rfl
  have I2 : Inv X pins σ (upd H1 (hp.objs.size + 1) (exo (hp.objs.size + 1) C none)) ⟨hp1.push (HandSPX.excO C hp.objs.size), g, dr, tk, os⟩ := I1.laid (t' := tk) kk (Nat.le_succ _) (exo_ok gt)
  have r2 : Vals (V.ref (hp.objs.size + 1) :: vs) (Value.ref (hp.objs.size + 1) :: us) := .cons rfl r1
  have hus : us.length ≤ 1000 := by rw [← Paired.length r1]; exact hz
  have hlen : (Value.ref (hp.objs.size + 1) :: us).length = ps.length := r2.length.symm.trans (F1.len _ _ _ _ hq)
  have bb := hb ⟨hp1.push (HandSPX.excO C hp.objs.size), g, dr, tk, os⟩ (Value.ref (hp.objs.size + 1) :: us) I2.kIn (by rw [List.append_nil]; exact hlen)
  rw [List.append_nil] at bb
  have run := F1.run _ X.stack _ _ ⟨Value.ref (hp.objs.size + 1) :: us, []⟩ _ _ _ E0 (hr.make C us []) (I2.env0.make C us []) bb r2 hq
  refine wpAny_call (HandSPX.call_own F.excBase_Exception (fun Y => PySem.W.excTail_contains Y bm hbm) (I1.kIn _ _ hC) (PySem.W.looks_findIn I1.kIn iC.1) (fun self => PySem.W.bind_fn I1.kIn self iC.2) (Nat.le_trans hus (by rw [sizeLine_eq]; omega)) ?_)
  rw [hP]
  refine codeAny_mono run ?_
  rintro (er | fl) s' hq'
  · exact hx pins σ _ _ er s' I2 hq'
  cases fl with
  | ret u =>
    obtain ⟨v, H2, os2, bare2, un2, hok2, rv, rfl, d, fs, ea, ed, hd1, q2⟩ := hq'
    obtain ⟨h2, g2, d2, t2, os'⟩ := s'
    exact ⟨rv, mk_end (raises_own T.st.2.1 T.st.2.2.1) I1 (Nat.le_succ _) kk un2 hok2 os2 bare2 ea ed hd1 q2⟩
  | next => exact hq'.elim
  | brk => exact hq'.elim
  | cont => exact hq'.elim
end
end Ag

end
/-! ## RevT -/
section
set_option linter.all false
set_option maxRecDepth 100000
namespace Ag
open PySem PySem.Spec PyProof.Rows L2
/-! ### t[::-1] of a tuple -/
section
variable {P : Program} {w : World} {A : Around} {E : Value → Shared → Prop} {s : Shared}
theorem adj_rev (n : Nat) : Builtin.Slice.sliceAdjust none none (-1) (n : Int) = ((n : Int) - 1, -1) := by
  unfold Builtin.Slice.sliceAdjust
  simp
theorem plc_rev (n : Nat) : Builtin.Slice.slicePlaces ((n : Int) - 1) (-1) (-1) = n := by
  unfold Builtin.Slice.slicePlaces
  simp
  split <;> omega
theorem app_rev {z : Addr} {t : Tok} {n : Nat} {Q : Int × Int × Nat → Shared → Prop} (hs : s.heap.IsSliceOf z .none .none (.int (-1) t)) (h : Q ((n : Int) - 1, -1, n) s) : wpAny (model P w) A (Builtin.Slice.sliceApplied (.ref z) (pure (n : Int))) Q E s := by
  obtain ⟨os, h1, h2, h3⟩ := id hs
  unfold Builtin.Slice.sliceApplied Builtin.Slice.sliceFields
  refine wpAny_bind (wpAny_bind (wpAny_field h1 h3 (x := .none) rfl (wpAny_bind (wpAny_field h1 h3 (x := .none) rfl (wpAny_bind (wpAny_field h1 h3 (x := .int (-1) t) rfl (wpAny_pure ?_)))))))
  refine wpAny_bind (HT.slicePart_ (.int (-1) t) ?_)
  refine show wpAny _ _ (if ((-1 : Int) == 0) = true then _ else _) _ _ s from ?_
  rw [if_neg (by decide)]
  refine wpAny_bind (HT.slicePart_ .none (wpAny_bind (HT.slicePart_ .none (wpAny_bind (wpAny_pure ?_)))))
  refine show wpAny _ _ (match Builtin.Slice.sliceAdjust none none (-1) (n : Int) with | (lo, hi) => pure (lo, (-1 : Int), Builtin.Slice.slicePlaces lo hi (-1))) _ _ s from ?_
  rw [adj_rev n]
  refine show wpAny _ _ (pure ((n : Int) - 1, (-1 : Int), Builtin.Slice.slicePlaces ((n : Int) - 1) (-1) (-1))) _ _ s from ?_
  rw [plc_rev]
  exact wpAny_pure h
theorem pick_rev (xs : Array Value) : ((List.range xs.size).filterMap fun (m : Nat) => xs[((xs.size : Int) - 1 + (m : Int) * -1).toNat]?).toArray = xs.toList.reverse.toArray := by
  congr 1
  have e : ((List.range xs.size).filterMap fun (m : Nat) => xs[((xs.size : Int) - 1 + (m : Int) * -1).toNat]?) = (List.range xs.size).filterMap ((xs[·]?) ∘ fun k => xs.size - 1 - k) := by
    have key : ∀ l : List Nat, (∀ m ∈ l, m < xs.size) → (l.filterMap fun (m : Nat) => xs[((xs.size : Int) - 1 + (m : Int) * -1).toNat]?) = l.filterMap ((xs[·]?) ∘ fun k => xs.size - 1 - k) := by
      intro l
      induction l with
      | nil => exact fun _ => rfl
      | cons m l ih =>
        intro h
        have hm := h m List.mem_cons_self
        have e1 : ((xs.size : Int) - 1 + (m : Int) * -1).toNat = xs.size - 1 - m := by omega
        rw [List.filterMap_cons, List.filterMap_cons, ih fun k hk => h k (List.mem_cons_of_mem _ hk), e1]
        rfl
    exact key _ fun m hm => List.mem_range.mp hm
  rw [e, ← List.filterMap_map, PySem.W.krv_range, List.filterMap_reverse, PySem.W.krv_all]
theorem get_rev {t z : Addr} {its : Array Value} {k : Tok} {Q : Value → Shared → Prop} (ht : IsTup s.heap t its) (hs : s.heap.IsSliceOf z .none .none (.int (-1) k)) (hz : its.size ≤ sizeLine)
    (fin : Q (.ref s.heap.objs.size) { s with heap := s.heap.push { cls := .type "tuple", data := .seq its.toList.reverse.toArray } }) : wpAny (model P w) A (getItem (.ref t) (.ref z)) Q E s := by
  have hsz : sizeOk (.seq its.toList.reverse.toArray) := by
    show its.toList.reverse.toArray.size ≤ sizeLine
    rw [List.size_toArray, List.length_reverse, Array.length_toList]
    exact hz
  obtain ⟨os, h1, h2, h3⟩ := id hs
  have hT : s.TypeIs (.ref z) "slice" := ⟨os, h1, h2⟩
  unfold getItem
  try with_reducible refine wpAny_holding ?_
  first
    | refine wpAny_bind (wpAny_pure (wpAny_bind (wpAny_sequenceKey ht.typeIs (by decide) ?_)))
    | refine wpAny_bind (wpAny_sequenceKey (T := "tuple") ht.typeIs (by decide) ?_)
  refine wpAny_bind (wpAny_callSpecial?_slot (name := Str.ofString "__getitem__") ht.typeIs PyProof.Rows.slot_tuple_getitem (wpAny_call_entry PyProof.Rows.slot_tuple_getitem ht.typeIs entry_tuple_getitem ?_ (args_tuple_getitem _ _)))
  refine show wpAny _ _ (Builtin.Tuple.tupleItemsOf (.ref t) >>= _) _ _ s from wpAny_bind (tupleItemsOf_ ht (wpAny_bind (wpAny_typeOf hT ?_)))
  rw [if_pos (by decide)]
  refine wpAny_bind (app_rev hs ?_)
  have hno : ¬ ((((its.size : Int) - 1 == 0) && ((-1 : Int) == 1) && (its.size == its.size)) = true) := by simp
  refine show wpAny _ _ (if (((its.size : Int) - 1 == 0) && ((-1 : Int) == 1) && (its.size == its.size)) = true then _ else _) _ _ s from ?_
  rw [if_neg hno, pick_rev]
  first
    | exact wpAny_bind (m := Builtin.Tuple.tupleExact _) (wpAny_newObj_type (wpAny_pure ⟨_, rfl, wpAny_pure fin⟩) hsz)
    | exact wpAny_bind (m := Builtin.Tuple.tupleExact _) (wpAny_newObj_type (wpAny_bind (wpAny_pure (wpAny_pure ⟨_, rfl, wpAny_pure fin⟩))) hsz)
    | exact wpAny_bind (wpAny_bind (m := Builtin.Tuple.tupleExact _) (wpAny_newObj_type (wpAny_pure (wpAny_pure ⟨_, rfl, wpAny_pure fin⟩)) hsz))
    | exact wpAny_bind (wpAny_bind (m := Builtin.Tuple.tupleExact _) (wpAny_newObj_type (wpAny_pure ⟨_, rfl, wpAny_pure fin⟩) hsz))
end
section
variable {X : Cx}
def tRevT (K : PySem.W.Frag) (te : TE) : TE := fun σ H Q => te σ H fun x H1 => ∃ a xs, x = .ref a ∧ SqT K H1 a xs ∧ ∀ p, H1 p = none → Q (.ref p) (upd H1 p (.tup xs.reverse))
theorem pe_revT {e : Expr} {te : TE} {k : Nat} {p1 p2 p3 pos : Pos} (he : PE X e te) : PE X (.Subscript e (.Slice none none (some (.UnaryOp .USub (.Constant (.int 1) k p1) p2)) p3) pos) (tRevT X.K te) := by
  refine ⟨fun pins s σ H Q I h => Subscript_ (thn (he.run pins s σ H _ I h) ?_)⟩
  rintro v s1 ⟨x, H1, I1, r1, a, xs, rfl, hx, q⟩
  cases r1
  have neg : PO X (some (.UnaryOp .USub (.Constant (.int 1) k p1) p2)) (tPart (tUn (rU fun i => .int (-i)) (tC (.int 1)))) := po_some (pe_un un_neg pe_int)
  refine wpAny_Slice (thn (po_none.run pins s1 σ H1 (fun o H2 => o = none ∧ H2 = H1) I1 ⟨rfl, rfl⟩) ?_)
  rintro vl s2 ⟨l, H2, I2, pl, rfl, rfl⟩
  refine thn (po_none.run pins s2 σ H2 (fun o H3 => o = none ∧ H3 = H2) I2 ⟨rfl, rfl⟩) ?_
  rintro vu s3 ⟨u, H3, I3, pu, rfl, rfl⟩
  refine thn (neg.run pins s3 σ H3 (fun o H4 => o = some (-1) ∧ H4 = H3) I3 ⟨1, rfl, -1, rfl, rfl, rfl⟩) ?_
  rintro vs s4 ⟨o, H4, I4, ps, rfl, rfl⟩
  cases pl
  cases pu
  cases ps with
  | int i t =>
    have I5 : Inv X pins σ H4 { s4 with heap := s4.heap.push { cls := .type "slice", data := .fields #[.none, .none, .int (-1) t] } } := I4.kept (t' := s4.toks) fun b ob q => Heap.get?_push_of_some _ q
    obtain ⟨its, r, ht, hz⟩ := I5.tuple hx
    have hl := r.length
    refine show wpAny (model X.prog X.w) X.A (subscriptTail e (.Slice none none (some (.UnaryOp .USub (.Constant (.int 1) k p1) p2)) p3) (.ref a) (.ref s4.heap.objs.size)) (EP X pins σ Q) X.xe { s4 with heap := s4.heap.push { cls := .type "slice", data := .fields #[.none, .none, .int (-1) t] } } from ?_
    refine tail_any (ops := [.ref a, .ref s4.heap.objs.size]) ht.typeIs (PyProof.Rows.slot_tuple_getitem.lookup) (get_rev ht (Heap.IsSliceOf.new _ .none .none (.int (-1) t)) (by rw [List.size_toArray]; omega) ?_) (by with_unfolding_all rfl)
    refine ⟨.ref _, _, I5.laid (t' := s4.toks) (o := .tup xs.reverse) (fun b ob q => Heap.get?_push_of_some _ q) (Nat.le_refl _) ⟨by rw [List.length_reverse]; exact hz, its.reverse, r.reverse, ?_⟩, rfl, q _ (I5.hok.fresh (Nat.le_refl _))⟩
    exact ⟨_, Heap.get?_push_size _ rfl, rfl, 0, by simp⟩
end
end Ag

end
/-! ## RepI -/
section
set_option linter.all false
set_option maxRecDepth 100000
namespace Ag
open PySem PySem.Spec PyProof.Rows L2
open SX (S S_len S_cat S_inj)
/-! ### the texts of rows of numbers tell them -/
theorem until_eq {s : Nat} : ∀ {p q r t : List Nat}, s ∉ p → s ∉ q → p ++ s :: r = q ++ s :: t → p = q ∧ r = t
  | [], [], _, _, _, _, h => ⟨rfl, by simpa using h⟩
  | [], y :: q, _, _, _, hq, h => by
    have : s = y := by simpa using (List.cons.inj h).1
    exact absurd (this ▸ List.mem_cons_self) hq
  | x :: p, [], _, _, hp, _, h => by
    have : x = s := by simpa using (List.cons.inj h).1
    exact absurd (this ▸ List.mem_cons_self) hp
  | x :: p, y :: q, r, t, hp, hq, h => by
    obtain ⟨e, h⟩ := List.cons.inj h
    obtain ⟨e1, e2⟩ := until_eq (fun z => hp (List.mem_cons_of_mem _ z)) (fun z => hq (List.mem_cons_of_mem _ z)) h
    exact ⟨by rw [e, e1], e2⟩
theorem rows_inj (z : List Nat) : ∀ {a b : List Nat}, a.length = b.length → TL.joinL [44, 32] (a.map numL) ++ z = TL.joinL [44, 32] (b.map numL) ++ z → a = b
  | [], [], _, _ => rfl
  | [x], [y], _, h => by
    have h : numL x ++ z = numL y ++ z := h
    rw [TL.numL_inj (List.append_cancel_right h)]
  | x :: x2 :: a, y :: y2 :: b, hl, h => by
    have e : ∀ (u v : Nat) (l : List Nat), TL.joinL [44, 32] ((u :: v :: l).map numL) ++ z = numL u ++ 44 :: (32 :: (TL.joinL [44, 32] ((v :: l).map numL) ++ z)) := fun u v l => by
      show (numL u ++ ([44, 32] ++ TL.joinL [44, 32] ((v :: l).map numL))) ++ z = _
      simp
    rw [e, e] at h
    obtain ⟨h1, h2⟩ := until_eq (TL.numL_free (by decide)) (TL.numL_free (by decide)) h
    have h3 := (List.cons.inj h2).2
    rw [TL.numL_inj h1, rows_inj z (a := x2 :: a) (b := y2 :: b) (by simpa using hl) h3]
  | [x], y :: y2 :: b, hl, _ => by simp at hl
  | x :: x2 :: a, [y], hl, _ => by simp at hl
theorem row_tl (cs : List Nat) : TL.tl (PyData.tuple (cs.map fun k => PyData.int ((k : Nat) : Int))).shown = 40 :: (TL.joinL [44, 32] (cs.map numL) ++ (if cs.length = 1 then [44, 41] else [41])) := by
  have e1 : (PyData.shownAll (cs.map fun k => PyData.int ((k : Nat) : Int))).map TL.tl = cs.map numL := by
    rw [shownAll_eq_map, List.map_map, List.map_map]
    refine List.map_congr_left fun k _ => ?_
    show TL.tl (PyData.int ((k : Nat) : Int)).shown = numL k
    rw [PyData.shown_int]
    show TL.tl (Str.ofString (toString ((k : Nat) : Int))) = numL k
    rw [SX.num_S k]
  rw [PyData.shown_tuple, TL.tl_append, TL.tl_append, TL.tl_join, e1, List.length_map]
  by_cases h : cs.length = 1
  · rw [if_pos h, if_pos (by simpa using h)]
    rfl
  · rw [if_neg h, if_neg (by simpa using h)]
    rfl
theorem shown_inj {a b : List Nat} (hl : a.length = b.length) (h : (PyData.tuple (a.map fun k => PyData.int ((k : Nat) : Int))).shown = (PyData.tuple (b.map fun k => PyData.int ((k : Nat) : Int))).shown) : a = b := by
  have e := congrArg TL.tl h
  rw [row_tl, row_tl, hl] at e
  exact rows_inj _ hl (List.cons.inj e).2
end Ag

end
/-! ## Prog -/
section
set_option linter.all false
set_option maxRecDepth 100000
namespace Ag
open PySem PySem.Spec PyProof.Rows L2
/-! ### the text by places -/
def top (i : Nat) : Stmt := PySem.Challenge.pw_answergate_k19_whole_turns_at_great_time.main.body.getD i (.Pass ⟨0, 0, 0, 0⟩)
abbrev s_is_integer : Stmt := top 2
abbrev N_is_integer : List Str := ["thing"]
theorem sc_is_integer : FnScope N_is_integer ["thing"] (defScope s_is_integer) := ⟨rfl, rfl, rfl, by decide +kernel, rfl, by decide +kernel, by decide +kernel⟩
abbrev s_is_word : Stmt := top 3
abbrev N_is_word : List Str := ["thing"]
theorem sc_is_word : FnScope N_is_word ["thing"] (defScope s_is_word) := ⟨rfl, rfl, rfl, by decide +kernel, rfl, by decide +kernel, by decide +kernel⟩
abbrev s_is_pool : Stmt := top 12
abbrev N_is_pool : List Str := ["thing", "pair"]
theorem sc_is_pool : FnScope N_is_pool ["thing"] (defScope s_is_pool) := ⟨rfl, rfl, rfl, by decide +kernel, rfl, by decide +kernel, by decide +kernel⟩
abbrev s_is_share : Stmt := top 13
abbrev N_is_share : List Str := ["thing", "label", "weight"]
theorem sc_is_share : FnScope N_is_share ["thing"] (defScope s_is_share) := ⟨rfl, rfl, rfl, by decide +kernel, rfl, by decide +kernel, by decide +kernel⟩
abbrev s_are_loads : Stmt := top 14
abbrev N_are_loads : List Str := ["pool", "thing", "load"]
theorem sc_are_loads : FnScope N_are_loads ["pool", "thing"] (defScope s_are_loads) := ⟨rfl, rfl, rfl, by decide +kernel, rfl, by decide +kernel, by decide +kernel⟩
abbrev s_are_counts : Stmt := top 15
abbrev N_are_counts : List Str := ["pool", "thing"]
theorem sc_are_counts : FnScope N_are_counts ["pool", "thing"] (defScope s_are_counts) := ⟨rfl, rfl, rfl, by decide +kernel, rfl, by decide +kernel, by decide +kernel⟩
abbrev s_weight_sum : Stmt := top 16
abbrev N_weight_sum : List Str := ["pool", "weight", "_"]
theorem sc_weight_sum : FnScope N_weight_sum ["pool"] (defScope s_weight_sum) := ⟨rfl, rfl, rfl, by decide +kernel, rfl, by decide +kernel, by decide +kernel⟩
abbrev s_turn_after : Stmt := top 17
abbrev N_turn_after : List Str := ["pool", "counts", "whole", "time", "best", "best_due", "at", "_", "weight", "given", "due", "is_ready"]
theorem sc_turn_after : FnScope N_turn_after ["pool", "counts"] (defScope s_turn_after) := ⟨rfl, rfl, rfl, by decide +kernel, rfl, by decide +kernel, by decide +kernel⟩
abbrev s_first_turns : Stmt := top 18
abbrev N_first_turns : List Str := ["pool", "many", "counts", "given", "_", "at"]
theorem sc_first_turns : FnScope N_first_turns ["pool", "many"] (defScope s_first_turns) := ⟨rfl, rfl, rfl, by decide +kernel, rfl, by decide +kernel, by decide +kernel⟩
abbrev s_counts_from_start : Stmt := top 19
abbrev N_counts_from_start : List Str := ["pool", "many", "rounds", "rest", "given", "weight", "at", "_"]
theorem sc_counts_from_start : FnScope N_counts_from_start ["pool", "many"] (defScope s_counts_from_start) := ⟨rfl, rfl, rfl, by decide +kernel, rfl, by decide +kernel, by decide +kernel⟩
abbrev s_next_turn : Stmt := top 20
abbrev N_next_turn : List Str := ["pool", "counts"]
theorem sc_next_turn : FnScope N_next_turn ["pool", "counts"] (defScope s_next_turn) := ⟨rfl, rfl, rfl, by decide +kernel, rfl, by decide +kernel, by decide +kernel⟩
abbrev s_counts_after : Stmt := top 21
abbrev N_counts_after : List Str := ["pool", "t"]
theorem sc_counts_after : FnScope N_counts_after ["pool", "t"] (defScope s_counts_after) := ⟨rfl, rfl, rfl, by decide +kernel, rfl, by decide +kernel, by decide +kernel⟩
abbrev s__law_dealt : Stmt := top 23
abbrev N__law_dealt : List Str := ["_law_script", "_law_mixed", "_law_cell"]
theorem sc__law_dealt : FnScope N__law_dealt ["_law_script"] (defScope s__law_dealt) := ⟨rfl, rfl, rfl, by decide +kernel, rfl, by decide +kernel, by decide +kernel⟩
abbrev s__law_draw : Stmt := top 24
abbrev N__law_draw : List Str := ["_law_deck", "_law_many", "_law_mark", "_law_cell"]
theorem sc__law_draw : FnScope N__law_draw ["_law_deck", "_law_many"] (defScope s__law_draw) := ⟨rfl, rfl, rfl, by decide +kernel, rfl, by decide +kernel, by decide +kernel⟩
abbrev s__law_pick : Stmt := top 25
abbrev N__law_pick : List Str := ["_law_deck", "_law_some"]
theorem sc__law_pick : FnScope N__law_pick ["_law_deck", "_law_some"] (defScope s__law_pick) := ⟨rfl, rfl, rfl, by decide +kernel, rfl, by decide +kernel, by decide +kernel⟩
abbrev s__law_is_whole : Stmt := top 26
abbrev N__law_is_whole : List Str := ["_law_thing", "_law_low", "_law_high"]
theorem sc__law_is_whole : FnScope N__law_is_whole ["_law_thing", "_law_low", "_law_high"] (defScope s__law_is_whole) := ⟨rfl, rfl, rfl, by decide +kernel, rfl, by decide +kernel, by decide +kernel⟩
abbrev s__law_is_word : Stmt := top 27
abbrev N__law_is_word : List Str := ["_law_thing", "_law_sign"]
theorem sc__law_is_word : FnScope N__law_is_word ["_law_thing"] (defScope s__law_is_word) := ⟨rfl, rfl, rfl, by decide +kernel, rfl, by decide +kernel, by decide +kernel⟩
abbrev s__law_odd : Stmt := top 28
abbrev N__law_odd : List Str := ["_law_deck", "_law_some"]
theorem sc__law_odd : FnScope N__law_odd ["_law_deck"] (defScope s__law_odd) := ⟨rfl, rfl, rfl, by decide +kernel, rfl, by decide +kernel, by decide +kernel⟩
abbrev s__law_bent : Stmt := top 29
abbrev N__law_bent : List Str := ["_law_deck", "_law_thing", "_law_way", "_law_at"]
theorem sc__law_bent : FnScope N__law_bent ["_law_deck", "_law_thing"] (defScope s__law_bent) := ⟨rfl, rfl, rfl, by decide +kernel, rfl, by decide +kernel, by decide +kernel⟩
abbrev s__law_pool : Stmt := top 30
abbrev N__law_pool : List Str := ["_law_deck", "_law_many", "_law_high", "_law_names", "_law_found", "_law_at"]
theorem sc__law_pool : FnScope N__law_pool ["_law_deck"] (defScope s__law_pool) := ⟨rfl, rfl, rfl, by decide +kernel, rfl, by decide +kernel, by decide +kernel⟩
abbrev s__law_is_pool : Stmt := top 31
abbrev N__law_is_pool : List Str := ["_law_thing", "_law_pair"]
theorem sc__law_is_pool : FnScope N__law_is_pool ["_law_thing"] (defScope s__law_is_pool) := ⟨rfl, rfl, rfl, by decide +kernel, rfl, by decide +kernel, by decide +kernel⟩
abbrev s__law_at_time : Stmt := top 32
abbrev N__law_at_time : List Str := ["_law_pool_here", "_law_t", "_law_weights", "_law_total", "_law_rounds", "_law_rest", "_law_counts", "_law_at", "_law_now", "_law_rows", "_law_ready", "_law_weight", "_law_label", "_law_w", "_law_k", "_law_due", "_law_i"]
theorem sc__law_at_time : FnScope N__law_at_time ["_law_pool_here", "_law_t"] (defScope s__law_at_time) := ⟨rfl, rfl, rfl, by decide +kernel, rfl, by decide +kernel, by decide +kernel⟩
abbrev s__law_tried : Stmt := top 33
abbrev N__law_tried : List Str := ["_law_pool_here", "_law_counts", "_law_told", "e"]
theorem sc__law_tried : FnScope N__law_tried ["_law_pool_here", "_law_counts"] (defScope s__law_tried) := ⟨rfl, rfl, rfl, by decide +kernel, rfl, by decide +kernel, by decide +kernel⟩
abbrev s__law_near : Stmt := top 34
abbrev N__law_near : List Str := ["_law_deck", "_law_counts", "_law_at", "_law_to", "_law_some", "_law_swapped", "_law_more", "_law_k"]
theorem sc__law_near : FnScope N__law_near ["_law_deck", "_law_counts"] (defScope s__law_near) := ⟨rfl, rfl, rfl, by decide +kernel, rfl, by decide +kernel, by decide +kernel⟩
abbrev s_law : Stmt := top 35
abbrev N_law : List Str := ["_law_script", "_law_deck", "_law_go", "_law_pool_here", "_law_total", "_law_times", "_law_t", "_law_counts", "_law_at", "_law_near_here", "_law_is_right", "_law_due", "_law_words", "_law_wide", "_law_thing", "_law_told", "_law_word", "_law_label", "_law_weight", "_law_k"]
theorem sc_law : FnScope N_law ["_law_script"] (defScope s_law) := ⟨rfl, rfl, rfl, by decide +kernel, rfl, by decide +kernel, by decide +kernel⟩
structure Fn (K : PySem.W.Frag) (mg : Str → Option Value) (x : Str) (st : Stmt) (ps : List Str) (f : Addr) (fd : FuncData) : Prop where
  F : Fun K x x st f fd
  b : Binds K fd ps []
  g : mg x = some (.ref f)
structure Blt (mg : Str → Option Value) : Prop where
  n_len : mg "len" = none
  n_int : mg "int" = none
  n_str : mg "str" = none
  n_isinstance : mg "isinstance" = none
  n_range : mg "range" = none
  n_tuple : mg "tuple" = none
  n_list : mg "list" = none
  n_max : mg "max" = none
  n_min : mg "min" = none
  n_repr : mg "repr" = none
  n_bool : mg "bool" = none
  n_all : mg "all" = none
  n_set : mg "set" = none
  n_sum : mg "sum" = none
  n_enumerate : mg "enumerate" = none
  n_zip : mg "zip" = none
  n_divmod : mg "divmod" = none
structure Con (mg : Str → Option Value) (tw tp tg : Tok) : Prop extends Blt mg where
  g_WORD_MOST : mg "WORD_MOST" = some (.int 10 tw)
  g_POOL_MOST : mg "POOL_MOST" = some (.int 8 tp)
  g_WEIGHT_MOST : mg "WEIGHT_MOST" = some (.int 100 tg)
end Ag

end
/-! ## T1 -/
section
set_option linter.all false
set_option maxRecDepth 100000
namespace Ag
open PySem PySem.Spec PyProof.Rows L2
open SX (S S_len S_cat S_inj)
theorem sz {n : Nat} (h : n ≤ 16000000) : n ≤ sizeLine := by rw [sizeLine_eq]; omega
theorem same_new {H : Hp} {p : Addr} {o : HO} (h : H p = none) : Same H (upd H p o) := fun b x e => by
  rw [upd_ne (ne_of_none e h)]
  exact e
theorem ascii_S (l : List Nat) : Txt.isascii (S l) = l.all (· < 128) := by
  show (S l).cps.all _ = _
  rw [← Array.all_toList]
theorem printable_S (l : List Nat) : Txt.isprintable (S l) = l.all Unicode.isPrintable := by
  show (S l).cps.all _ = _
  rw [← Array.all_toList]
def azC (c : Nat) : Bool := decide (97 ≤ c) && decide (c ≤ 122)
def wordL (l : List Nat) : Bool := (decide (1 ≤ l.length) && decide (l.length ≤ 10)) && l.all azC
theorem alpha128 : ∀ c < 128, Unicode.isAlpha c = ((decide (65 ≤ c) && decide (c ≤ 90)) || azC c) := by decide +kernel
theorem lower128 : ∀ c < 128, Unicode.isLower c = azC c := by decide +kernel
theorem upper128 : ∀ c < 128, (Unicode.isUpper c || Unicode.isTitle c) = (decide (65 ≤ c) && decide (c ≤ 90)) := by decide +kernel
theorem word_of {l : List Nat} (ha : l.all (· < 128) = true) (hne : l ≠ []) : (Txt.isalpha (S l) && Txt.islower (S l)) = l.all azC := by
  have e1 : Txt.isalpha (S l) = l.all Unicode.isAlpha := by
    show (decide ((S l).length > 0) && (S l).cps.all _) = _
    rw [← Array.all_toList, S_len, decide_eq_true (by cases l; exact absurd rfl hne; simp), Bool.true_and]
  have e2 : Txt.islower (S l) = (l.any Unicode.isLower && !l.any fun c => Unicode.isUpper c || Unicode.isTitle c) := by
    show ((S l).cps.any _ && !(S l).cps.any _) = _
    rw [← Array.any_toList, ← Array.any_toList]
  have lt : ∀ c ∈ l, c < 128 := fun c hc => by simpa using List.all_eq_true.mp ha c hc
  rw [e1, e2, Bool.eq_iff_iff]
  simp only [Bool.and_eq_true, List.all_eq_true, List.any_eq_true, Bool.not_eq_true', List.any_eq_false]
  constructor
  · rintro ⟨h1, _, h3⟩ c hc
    have a1 := h1 c hc
    have a3 := h3 c hc
    rw [upper128 c (lt c hc)] at a3
    rw [alpha128 c (lt c hc), Bool.or_eq_true] at a1
    rcases a1 with a1 | a1
    · rw [a1] at a3
      exact absurd rfl a3
    · exact a1
  · intro h
    refine ⟨fun c hc => ?_, ?_, fun c hc => ?_⟩
    · rw [alpha128 c (lt c hc), h c hc, Bool.or_true]
    · cases l with
      | nil => exact absurd rfl hne
      | cons c l => exact ⟨c, List.mem_cons_self, by rw [lower128 c (lt c List.mem_cons_self)]; exact h c List.mem_cons_self⟩
    · rw [upper128 c (lt c hc)]
      have := h c hc
      simp only [azC, Bool.and_eq_true, decide_eq_true_eq] at this
      simp
      omega
theorem bl_t {p : Prop} [Decidable p] (h : p) {Q : VK} {H : Hp} (q : Q (.bl true) H) : Q (.bl (decide p)) H := by rw [decide_eq_true h]; exact q
theorem iteB {b : Bool} (h : b = true) {p q : Prop} (hp : p) : if b = true then p else q := by rw [if_pos h]; exact hp
theorem iteC {b : Bool} (h : b = false) {p q : Prop} (hq : q) : if b = true then p else q := by rw [if_neg (by rw [h]; decide)]; exact hq
theorem map_at {α β : Type} (l : List α) (F : Option α → β) : (List.range l.length).map (fun i => F l[i]?) = l.map fun e => F (some e) := by
  refine List.ext_getElem? fun i => ?_
  rw [List.getElem?_map, List.getElem?_map]
  by_cases h : i < l.length
  · rw [List.getElem?_range h, List.getElem?_eq_getElem h]
    simp [h]
  · rw [List.getElem?_eq_none (by simpa using h), List.getElem?_eq_none (by omega)]
    rfl
/-! ### pools -/
def PlI (H : Hp) (ts : List Addr) (ps : List (List Nat × Nat)) : Prop := ts.length = ps.length ∧ ∀ (j : Nat) (t : Addr), ts[j]? = some t → ∃ e : List Nat × Nat, ps[j]? = some e ∧ H t = some (.tup [.str (S e.1), .int (e.2 : Nat)])
structure PlOk (ps : List (List Nat × Nat)) : Prop where
  n1 : 1 ≤ ps.length
  n8 : ps.length ≤ 8
  wd : ∀ e ∈ ps, wordL e.1 = true
  wt : ∀ e ∈ ps, 1 ≤ e.2 ∧ e.2 ≤ 100
  nd : (ps.map Prod.fst).Nodup
structure Pool (a : Addr) (ts : List Addr) (ps : List (List Nat × Nat)) (H : Hp) : Prop where
  at_ : H a = some (.tup (ts.map V.ref))
  it : PlI H ts ps
  ok : PlOk ps
theorem PlI.to {H H' : Hp} {ts : List Addr} {ps : List (List Nat × Nat)} (h : PlI H ts ps) (s : Same H H') : PlI H' ts ps := ⟨h.1, fun j t e => by
  obtain ⟨x, h1, h2⟩ := h.2 j t e
  exact ⟨x, h1, s _ _ h2⟩⟩
theorem Pool.to {a : Addr} {ts : List Addr} {ps : List (List Nat × Nat)} {H H' : Hp} (p : Pool a ts ps H) (s : Same H H') : Pool a ts ps H' := ⟨s _ _ p.at_, p.it.to s, p.ok⟩
theorem PlI.get {H : Hp} {ts : List Addr} {ps : List (List Nat × Nat)} (h : PlI H ts ps) {j : Nat} {y : V} (hy : (ts.map V.ref)[j]? = some y) : ∃ t e, y = .ref t ∧ ts[j]? = some t ∧ ps[j]? = some e ∧ H t = some (.tup [.str (S e.1), .int (e.2 : Nat)]) := by
  rw [List.getElem?_map] at hy
  cases e : ts[j]? with
  | none => rw [e] at hy; cases hy
  | some t =>
    rw [e] at hy
    obtain ⟨x, h1, h2⟩ := h.2 j t e
    exact ⟨t, x, (Option.some.inj hy).symm, rfl, h1, h2⟩
/-- the weights by place -/
def wF (ps : List (List Nat × Nat)) (i : Nat) : Nat := ((ps[i]?).map Prod.snd).getD 0
theorem wF_at {ps : List (List Nat × Nat)} {i : Nat} {e : List Nat × Nat} (h : ps[i]? = some e) : wF ps i = e.2 := by
  unfold wF
  rw [h]
  rfl
theorem PlOk.w1 {ps : List (List Nat × Nat)} (o : PlOk ps) : ∀ i, i < ps.length → 1 ≤ wF ps i := fun i hi => by
  rw [wF_at (List.getElem?_eq_getElem hi)]
  exact (o.wt _ (List.getElem_mem hi)).1
theorem PlOk.w9 {ps : List (List Nat × Nat)} (o : PlOk ps) : ∀ i, i < ps.length → wF ps i ≤ 100 := fun i hi => by
  rw [wF_at (List.getElem?_eq_getElem hi)]
  exact (o.wt _ (List.getElem_mem hi)).2
/-- all weights together -/
def tW (ps : List (List Nat × Nat)) : Nat := Fair.tot ps.length (wF ps)
theorem sum_range (f : Nat → Nat) : ∀ n, ((List.range n).map fun i => ((f i : Nat) : Int)).sum = ((Fair.sumN n f : Nat) : Int)
  | 0 => rfl
  | n + 1 => by
    rw [List.range_succ, List.map_append, List.sum_append, sum_range f n]
    show _ + List.sum [((f n : Nat) : Int)] = ((Fair.sumN n f + f n : Nat) : Int)
    simp
theorem tW_pos {ps : List (List Nat × Nat)} (o : PlOk ps) : 1 ≤ tW ps := Fair.tot_pos o.n1 o.w1
theorem tW_le {ps : List (List Nat × Nat)} (o : PlOk ps) : tW ps ≤ 800 := by
  have h : Fair.sumN ps.length (wF ps) ≤ Fair.sumN ps.length (fun _ => 100) := Fair.sum_le o.w9
  have e : ∀ n, Fair.sumN n (fun _ => 100) = n * 100 := by
    intro n
    induction n with
    | zero => rfl
    | succ n ih =>
      show Fair.sumN n (fun _ => 100) + 100 = _
      rw [ih]
      omega
  rw [e] at h
  have := o.n8
  unfold tW Fair.tot
  omega
section
variable {P : Program} {w : World} {K : PySem.W.Frag} {mg : Str → Option Value} {base : Heap} {tw tp tg : Tok}
def spInteger : Sp := fun vs H Q _ => ∃ i : Int, vs = [.int i] ∧ Q (.bl true) H
theorem ok_is_integer {f : Addr} {fd : FuncData} (F : Fn K mg "is_integer" s_is_integer ["thing"] f fd) (B : Blt mg) : FnOk P w K mg base CX0 1 f fd ["thing"] spInteger := by
  refine F.F.ok sc_is_integer (fun vs H Q E h => ?_) (fun cdv A outer s H vs Q E hr h => ?_)
  · obtain ⟨x, rfl, _⟩ := h
    rfl
  · obtain ⟨x, rfl, q⟩ := h
    refine ⟨_, (pss_one (ps_ret (pe_and (pe_callB call_isi (by rfl) B.n_isinstance (by decide +kernel) (pa_cons (pv 0) (pa_cons (pe_bltn (v := .ty "int") (by rfl) B.n_int (by decide +kernel) rfl) pa_nil))) (pe_one (pe_not (pe_callB call_isi (by rfl) B.n_isinstance (by decide +kernel) (pa_cons (pv 0) (pa_cons (pe_bltn (v := .ty "bool") (by rfl) B.n_bool (by decide +kernel) rfl) pa_nil)))))))), ?_⟩
    refine ⟨.int x, rfl, .int x, .ty "int", _, _, true, rfl, .ty "int", .base (.int _), kit_ty (by decide +kernel), _, rfl, iteT ?_⟩
    exact ⟨.int x, rfl, .int x, .ty "bool", _, _, false, rfl, .ty "bool", .base (.int _), kit_ty (by decide +kernel), _, rfl, q⟩
def spWord : Sp := fun vs H Q _ => ∃ l : List Nat, vs = [.str (S l)] ∧ wordL l = true ∧ Q (.bl true) H
theorem ok_is_word {f : Addr} {fd : FuncData} (F : Fn K mg "is_word" s_is_word ["thing"] f fd) (B : Con mg tw tp tg) : FnOk P w K mg base CX0 1 f fd ["thing"] spWord := by
  refine F.F.ok sc_is_word (fun vs H Q E h => ?_) (fun cdv A outer s H vs Q E hr h => ?_)
  · obtain ⟨l, rfl, _⟩ := h
    rfl
  · obtain ⟨l, rfl, hw, q⟩ := h
    refine ⟨_, (pss_cons (ps_if (PW.pt (pw_or (pt_not (pt_val (pe_callB call_isi (by rfl) B.n_isinstance (by decide +kernel) (pa_cons (pv 0) (pa_cons (pe_bltn (v := .ty "str") (by rfl) B.n_str (by decide +kernel) rfl) pa_nil))))) (pw_or1 (pt_not (pt_chain op_le op_le pe_int (pe_callB call_len_str (by rfl) B.n_len PySem.boot_len (pa_cons (pv 0) pa_nil)) (pe_glob (v := .int 10) rfl B.g_WORD_MOST ⟨_, rfl⟩))))))
      (pss_one (ps_ret pe_bl))
      pss_nil)
      (pss_one (ps_ret (pe_and (pe_m0 PySem.F.slot_str_isascii PySem.F.type_str_isascii mt_isascii (pv 0)) (pe_and (pe_m0 PySem.F.slot_str_isalpha PySem.F.type_str_isalpha mt_isalpha (pv 0)) (pe_one (pe_m0 PySem.F.slot_str_islower PySem.F.type_str_islower mt_islower (pv 0)))))))), ?_⟩
    have hw' := hw
    unfold wordL at hw'
    rw [Bool.and_eq_true, Bool.and_eq_true, decide_eq_true_eq, decide_eq_true_eq] at hw'
    obtain ⟨⟨l1, l10⟩, haz⟩ := hw'
    refine ⟨_, rfl, .str (S l), .ty "str", _, _, true, rfl, .ty "str", .base (.str _), kit_ty (by decide +kernel), _, rfl, iteF ?_⟩
    refine ⟨_, rfl, S l, rfl, sz (by rw [S_len]; omega), _, _, rfl, rfl, _, rfl, ?_⟩
    rw [S_len, decide_eq_true (by omega : (1 : Int) ≤ (l.length : Int))]
    refine iteT ⟨_, _, rfl, rfl, _, rfl, ?_⟩
    have hne : l ≠ [] := by
      rintro rfl
      exact absurd l1 (by decide)
    have has : l.all (· < 128) = true := by
      rw [List.all_eq_true] at haz ⊢
      intro c hc
      have := haz c hc
      simp only [azC, Bool.and_eq_true, decide_eq_true_eq] at this ⊢
      omega
    have wo := word_of has hne
    rw [haz, Bool.and_eq_true] at wo
    have l10' : ((l.length : Nat) : Int) ≤ 10 := by omega
    refine (show (if (!decide (((l.length : Nat) : Int) ≤ 10)) = true then _ else _) from ?_)
    rw [decide_eq_true l10']
    refine iteF ?_
    refine ⟨.str (S l), rfl, ⟨_, rfl⟩, S l, rfl, rfl, trivial, _, rfl, ?_⟩
    rw [ascii_S, has]
    refine iteT ⟨.str (S l), rfl, ⟨_, rfl⟩, S l, rfl, rfl, trivial, _, rfl, ?_⟩
    refine iteB wo.1 ⟨.str (S l), rfl, ⟨_, rfl⟩, S l, rfl, rfl, trivial, ?_⟩
    rw [wo.2]
    exact q
def spShare : Sp := fun vs H Q _ => ∃ t l, ∃ w : Nat, vs = [.ref t] ∧ H t = some (.tup [.str (S l), .int w]) ∧ wordL l = true ∧ 1 ≤ w ∧ w ≤ 100 ∧ Q (.bl true) H
theorem ok_is_share {f f1 f2 : Addr} {fd fd1 fd2 : FuncData} (F : Fn K mg "is_share" s_is_share ["thing"] f fd) (B : Con mg tw tp tg) (F_is_word : Fn K mg "is_word" s_is_word ["thing"] f1 fd1) (F_is_integer : Fn K mg "is_integer" s_is_integer ["thing"] f2 fd2) : FnOk P w K mg base CX0 2 f fd ["thing"] spShare := by
  have G_is_word : FnOk P w K mg base CX0 1 f1 fd1 ["thing"] spWord := ok_is_word F_is_word B
  have G_is_integer : FnOk P w K mg base CX0 1 f2 fd2 ["thing"] spInteger := ok_is_integer F_is_integer B.toBlt
  refine F.F.ok sc_is_share (fun vs H Q E h => ?_) (fun cdv A outer s H vs Q E hr h => ?_)
  · obtain ⟨t, l, w, rfl, _⟩ := h
    rfl
  · obtain ⟨t, l, w, rfl, ht, hw, w1, w9, q⟩ := h
    refine ⟨_, (pss_cons (ps_if (PW.pt (pw_or (pt_not (pt_val (pe_callB call_isi (by rfl) B.n_isinstance (by decide +kernel) (pa_cons (pv 0) (pa_cons (pe_bltn (v := .ty "tuple") (by rfl) B.n_tuple (by decide +kernel) rfl) pa_nil))))) (pw_or1 (pt_cmpR op_ne (pe_callB call_len_seq (by rfl) B.n_len PySem.boot_len (pa_cons (pv 0) pa_nil)) pe_int (nomark _)))))
      (pss_one (ps_ret pe_bl))
      pss_nil)
      (pss_cons (ps_asg (pv 0) (pg_tup rfl (pgs_cons (pg_name (i := 1) sc_is_share.nd rfl (Or.inl rfl)) (pgs_cons (pg_name (i := 2) sc_is_share.nd rfl (Or.inl rfl)) pgs_nil))))
      (pss_one (ps_ret (pe_and (pe_call G_is_word (hr.mono (by decide)) (by rfl) F_is_word.g F_is_word.F.kp F_is_word.b .nil pass0 (pa_cons (pv 1) pa_nil)) (pe_and (pe_call G_is_integer (hr.mono (by decide)) (by rfl) F_is_integer.g F_is_integer.F.kp F_is_integer.b .nil pass0 (pa_cons (pv 2) pa_nil)) (pe_one (pe_chain op_le op_le pe_int (pv 2) (pe_glob (v := .int 100) rfl B.g_WEIGHT_MOST ⟨_, rfl⟩))))))))), ?_⟩
    refine ⟨_, rfl, .ref t, .ty "tuple", _, _, true, rfl, .ty "tuple", .base (.tup ht), kit_ty (by decide +kernel), _, rfl, iteF ?_⟩
    refine ⟨_, rfl, t, _, rfl, .inr (SqT.of ht), rfl, _, rfl, iteF ?_⟩
    refine ⟨_, rfl, t, _, rfl, SqT.of ht, rfl, _, _, rfl, _, _, rfl, rfl, ?_⟩
    refine ⟨_, rfl, l, rfl, hw, _, rfl, iteT ⟨_, rfl, w, rfl, _, rfl, iteT ⟨_, rfl, _, _, rfl, rfl, _, rfl, ?_⟩⟩⟩
    rw [decide_eq_true (by omega : (1 : Int) ≤ w)]
    exact iteT ⟨_, _, rfl, rfl, bl_t (by omega) q⟩
def spPool : Sp := fun vs H Q _ => ∃ a ts ps, vs = [.ref a] ∧ Pool a ts ps H ∧ ∀ H', Same H H' → Q (.bl true) H'
theorem ok_is_pool {f f1 : Addr} {fd fd1 : FuncData} (F : Fn K mg "is_pool" s_is_pool ["thing"] f fd) (B : Con mg tw tp tg) (F_is_share : Fn K mg "is_share" s_is_share ["thing"] f1 fd1) (G_is_share : FnOk P w K mg base CX0 2 f1 fd1 ["thing"] spShare) : FnOk P w K mg base CX0 3 f fd ["thing"] spPool := by
  refine F.F.ok sc_is_pool (fun vs H Q E h => ?_) (fun cdv A outer s H vs Q E hr h => ?_)
  · obtain ⟨a, ts, ps, rfl, _⟩ := h
    rfl
  · obtain ⟨a, ts, ps, rfl, p, q⟩ := h
    refine ⟨_, (pss_cons (ps_if (PW.pt (pw_or (pt_not (pt_val (pe_callB call_isi (by rfl) B.n_isinstance (by decide +kernel) (pa_cons (pv 0) (pa_cons (pe_bltn (v := .ty "tuple") (by rfl) B.n_tuple (by decide +kernel) rfl) pa_nil))))) (pw_or1 (pt_not (pt_chain op_le op_le pe_int (pe_callB call_len_seq (by rfl) B.n_len PySem.boot_len (pa_cons (pv 0) pa_nil)) (pe_glob (v := .int 8) rfl B.g_POOL_MOST ⟨_, rfl⟩))))))
      (pss_one (ps_ret pe_bl))
      pss_nil)
      (pss_cons (ps_if (pt_not (pt_val (pe_callB (cr_all rfl) (by rfl) B.n_all (by decide +kernel) (pa_cons (pe_lc (own := [("pair", 1)]) rfl sc_is_pool.nd (pi_tup (pv 0)) (blkOk_by (N := N_is_pool) (sc := defScope s_is_pool) (by decide +kernel)) (fun _ _ _ _ _ => (pg_name (i := 1) sc_is_pool.nd rfl (Or.inl rfl))) (fun _ _ _ _ _ => pts_nil) (fun _ _ _ _ _ => (pe_call G_is_share (hr.mono (by decide)) (by rfl) F_is_share.g F_is_share.F.kp F_is_share.b .nil pass0 (pa_cons (pv 1) pa_nil)))) pa_nil))))
      (pss_one (ps_ret pe_bl))
      pss_nil)
      (pss_one (ps_ret (pe_cmpR op_eq (pe_callB cr_lenSetS (by rfl) B.n_len PySem.boot_len (pa_cons (pe_callTy (cr_setS rfl) (by rfl) B.n_set (by decide +kernel) (pa_cons (pe_lc (own := [("pair", 1)]) rfl sc_is_pool.nd (pi_tup (pv 0)) (blkOk_by (N := N_is_pool) (sc := defScope s_is_pool) (by decide +kernel)) (fun _ _ _ _ _ => (pg_name (i := 1) sc_is_pool.nd rfl (Or.inl rfl))) (fun _ _ _ _ _ => pts_nil) (fun _ _ _ _ _ => (pe_ix (ix_tupK K rfl) (pv 1) pe_int (fun _ _ => rfl)))) pa_nil)) pa_nil)) (pe_callB call_len_seq (by rfl) B.n_len PySem.boot_len (pa_cons (pv 0) pa_nil)) (nomark _)))))), ?_⟩
    have ln := p.it.1
    have n1 := p.ok.n1
    have n8 := p.ok.n8
    refine ⟨_, rfl, .ref a, .ty "tuple", _, _, true, rfl, .ty "tuple", .base (.tup p.at_), kit_ty (by decide +kernel), _, rfl, iteF ?_⟩
    refine ⟨_, rfl, a, _, rfl, .inr (SqT.of p.at_), _, _, rfl, rfl, _, rfl, ?_⟩
    rw [List.length_map, decide_eq_true (by omega : (1 : Int) ≤ (ts.length : Int))]
    refine iteT ⟨_, _, rfl, rfl, _, rfl, ?_⟩
    refine (show (if (!decide (((ts.length : Nat) : Int) ≤ 8)) = true then _ else _) from ?_)
    rw [decide_eq_true (by omega : ((ts.length : Nat) : Int) ≤ 8)]
    refine iteF ⟨_, rfl, a, rfl, ⟨_, SqT.of p.at_⟩, fun D hD => ?_⟩
    refine lc_sel (walk_tup (K := K) (a := a) (xs := ts.map V.ref)) (fun _ => true) (fun _ => .bl true) (by rw [List.length_map]; omega) hD (fun H' s => SqT.of (s _ _ p.at_)) ?_ ?_
    · rintro j y H1 H2 k k0 hi s1 ⟨rfl, hy⟩ hk _
      obtain ⟨t, e, rfl, _, he, ht⟩ := (p.it.to s1).get hy
      have hm := List.mem_of_getElem? he
      exact ⟨rfl, _, rfl, t, e.1, e.2, rfl, ht, p.ok.wd e hm, (p.ok.wt e hm).1, (p.ok.wt e hm).2, hk rfl _ (Same.refl _)⟩
    · intro H1 s1 h1
      rw [filt_all, bls_map] at h1
      refine ⟨D, _, rfl, SqL.of h1, _, rfl, ?_⟩
      have eall : ((List.range (ts.map V.ref).length).map fun _ => true).all id = true := by simp
      rw [eall]
      have p1 := p.to s1
      refine iteF ⟨_, rfl, a, rfl, ⟨_, SqT.of p1.at_⟩, fun D2 hD2 => ?_⟩
      refine lc_sel (walk_tup (K := K) (a := a) (xs := ts.map V.ref)) (fun _ => true) (fun i => .str (S (((ps[i]?).map Prod.fst).getD []))) (by rw [List.length_map]; omega) hD2 (fun H' s => SqT.of (s _ _ p1.at_)) ?_ ?_
      · rintro j y H3 H4 k k0 hi s2 ⟨rfl, hy⟩ hk _
        obtain ⟨t, e, rfl, _, he, ht⟩ := (p1.it.to s2).get hy
        have hk := hk rfl _ (Same.refl _)
        rw [he] at hk
        exact ⟨rfl, _, rfl, t, _, _, _, rfl, rfl, SqT.of ht, rfl, hk⟩
      · intro H3 s3 h3
        have el : (List.range (ts.map V.ref).length).map (fun i => V.str (S (((ps[i]?).map Prod.fst).getD []))) = (ps.map fun e => S e.1).map V.str := by
          rw [List.length_map, ln, map_at ps fun o => V.str (S ((o.map Prod.fst).getD [])), List.map_map]
          rfl
        rw [filt_all, el] at h3
        have s13 := s1.trans s3
        refine ⟨D2, _, rfl, SqL.of h3, by rw [List.length_map]; omega, ?_, fun R hR => ⟨R, _, rfl, upd_same, by rw [List.length_map]; omega, ?_⟩⟩
        · have nd := p.ok.nd
          unfold List.Nodup at nd ⊢
          rw [List.pairwise_map] at nd ⊢
          exact nd.imp fun h z => h (S_inj z)
        · have s4 := s13.trans (same_new (o := SetSO P w R (ps.map fun e => S e.1)) hR)
          refine ⟨_, rfl, a, _, rfl, .inr (SqT.of (s4 _ _ p.at_)), rfl, ?_⟩
          refine bl_t ?_ (q _ s4)
          rw [List.length_map, List.length_map, ln]
def spWs : Sp := fun vs H Q _ => ∃ a ts ps, vs = [.ref a] ∧ Pool a ts ps H ∧ ∀ H', Same H H' → Q (.int (tW ps : Nat)) H'
theorem ok_ws {f : Addr} {fd : FuncData} (F : Fn K mg "weight_sum" s_weight_sum ["pool"] f fd) (B : Blt mg) : FnOk P w K mg base CX0 1 f fd ["pool"] spWs := by
  refine F.F.ok sc_weight_sum (fun vs H Q E h => ?_) (fun cdv A outer s H vs Q E hr h => ?_)
  · obtain ⟨a, ts, ps, rfl, _⟩ := h
    rfl
  · obtain ⟨a, ts, ps, rfl, p, q⟩ := h
    refine ⟨_, (pss_one (ps_ret (pe_callB (cr_sum rfl) (by rfl) B.n_sum (by decide +kernel) (pa_cons (pe_lc (own := [("_", 2), ("weight", 1)]) rfl sc_weight_sum.nd (pi_tup (pv 0)) (blkOk_by (N := N_weight_sum) (sc := defScope s_weight_sum) (by decide +kernel)) (fun _ _ _ _ _ => pg_two (i := 2) (j := 1) K rfl sc_weight_sum.nd rfl rfl rfl rfl rfl) (fun _ _ _ _ _ => pts_nil) (fun _ _ _ _ _ => (pv 1))) pa_nil)))), ?_⟩
    refine ⟨_, rfl, a, rfl, ⟨_, SqT.of p.at_⟩, fun D hD => ?_⟩
    have n8 := p.ok.n8
    have ln := p.it.1
    refine lc_sel (walk_tup (K := K) (a := a) (xs := ts.map V.ref)) (fun _ => true) (fun i => .int ((wF ps i : Nat) : Int)) (by rw [List.length_map]; omega) hD (fun H' s => SqT.of (s _ _ p.at_)) ?_ ?_
    · rintro j y H1 H2 k k0 hi s1 ⟨rfl, hy⟩ hk _
      obtain ⟨t, e, rfl, _, he, ht⟩ := (p.it.to s1).get hy
      have hk := hk rfl _ (Same.refl _)
      rw [wF_at he] at hk
      exact ⟨t, _, rfl, SqT.of ht, rfl, _, _, rfl, _, _, rfl, rfl, rfl, _, rfl, hk⟩
    · intro H1 s1 h1
      have e1 : (List.range (ts.map V.ref).length).map (fun i => V.int ((wF ps i : Nat) : Int)) = ((List.range ps.length).map fun i => ((wF ps i : Nat) : Int)).map V.int := by
        rw [List.length_map, ln, List.map_map]
        rfl
      rw [filt_all, e1] at h1
      refine ⟨D, _, rfl, SqL.of h1, ?_⟩
      rw [sum_range]
      exact q _ s1
/-- counts as values -/
def ctV (cs : List Nat) : List V := cs.map fun k => V.int ((k : Nat) : Int)
theorem ctV_len (cs : List Nat) : (ctV cs).length = cs.length := by simp [ctV]
theorem ctV_at {cs : List Nat} {j n : Nat} (h : cs[j]? = some n) : (ctV cs)[j]? = some (.int ((n : Nat) : Int)) := by
  unfold ctV
  rw [List.getElem?_map, h]
  rfl
theorem ctV_int (cs : List Nat) : ctV cs = (cs.map fun k => ((k : Nat) : Int)).map V.int := by
  unfold ctV
  rw [List.map_map]
  rfl
theorem sum_int : ∀ cs : List Nat, (cs.map fun k => ((k : Nat) : Int)).sum = ((cs.sum : Nat) : Int)
  | [] => rfl
  | c :: cs => by
    rw [List.map_cons, List.sum_cons, List.sum_cons, sum_int cs]
    omega
/-- counts stand at c, in a list or a tuple -/
def CtA (H : Hp) (c : Addr) (cs : List Nat) : Prop := H c = some (.lst (ctV cs)) ∨ H c = some (.tup (ctV cs))
theorem CtA.to {H H' : Hp} {c : Addr} {cs : List Nat} (h : CtA H c cs) (s : Same H H') : CtA H' c cs := by
  rcases h with h | h
  · exact .inl (s _ _ h)
  · exact .inr (s _ _ h)
theorem CtA.ix {K : PySem.W.Frag} {H : Hp} {c : Addr} {cs : List Nat} (h : CtA H c cs) {j n : Nat} (hj : cs[j]? = some n) {Q : VK} (q : Q (.int ((n : Nat) : Int)) H) : rIx K (.ref c) (.int ((j : Nat) : Int)) H Q := by
  rcases h with h | h
  · exact .inl ⟨c, _, _, _, rfl, rfl, SqL.of h, atI_nat (ctV_at hj), q⟩
  · exact .inr (.inl ⟨c, _, _, _, rfl, rfl, SqT.of h, atI_nat (ctV_at hj), q⟩)
theorem CtA.sum {K : PySem.W.Frag} {H : Hp} {c : Addr} {cs : List Nat} (h : CtA H c cs) {Q : VK} (q : Q (.int ((cs.sum : Nat) : Int)) H) : rSum K [.ref c] H Q ∨ rSumT K [.ref c] H Q := by
  rw [← sum_int] at q
  rcases h with h | h
  · rw [ctV_int] at h
    exact .inl ⟨c, _, rfl, SqL.of h, q⟩
  · rw [ctV_int] at h
    exact .inr ⟨c, _, rfl, SqT.of h, q⟩
def spLoads : Sp := fun vs H Q _ => ∃ a ts ps c, ∃ cs : List Nat, vs = [.ref a, .ref c] ∧ Pool a ts ps H ∧ H c = some (.tup (ctV cs)) ∧ cs.length = ps.length ∧ ∀ H', Same H H' → Q (.bl true) H'
theorem ok_loads {f f1 : Addr} {fd fd1 : FuncData} (F : Fn K mg "are_loads" s_are_loads ["pool", "thing"] f fd) (B : Blt mg) (F_is_integer : Fn K mg "is_integer" s_is_integer ["thing"] f1 fd1) : FnOk P w K mg base CX0 2 f fd ["pool", "thing"] spLoads := by
  have G_is_integer : FnOk P w K mg base CX0 1 f1 fd1 ["thing"] spInteger := ok_is_integer F_is_integer B
  refine F.F.ok sc_are_loads (fun vs H Q E h => ?_) (fun cdv A outer s H vs Q E hr h => ?_)
  · obtain ⟨a, ts, ps, c, cs, rfl, _⟩ := h
    rfl
  · obtain ⟨a, ts, ps, c, cs, rfl, p, hc, hl, q⟩ := h
    refine ⟨_, (pss_cons (ps_if (PW.pt (pw_or (pt_not (pt_val (pe_callB call_isi (by rfl) B.n_isinstance (by decide +kernel) (pa_cons (pv 1) (pa_cons (pe_bltn (v := .ty "tuple") (by rfl) B.n_tuple (by decide +kernel) rfl) pa_nil))))) (pw_or1 (pt_cmpR op_ne (pe_callB call_len_seq (by rfl) B.n_len PySem.boot_len (pa_cons (pv 1) pa_nil)) (pe_callB call_len_seq (by rfl) B.n_len PySem.boot_len (pa_cons (pv 0) pa_nil)) (nomark _)))))
      (pss_one (ps_ret pe_bl))
      pss_nil)
      (pss_one (ps_ret (pe_callB (cr_all rfl) (by rfl) B.n_all (by decide +kernel) (pa_cons (pe_lc (own := [("load", 2)]) rfl sc_are_loads.nd (pi_tup (pv 1)) (blkOk_by (N := N_are_loads) (sc := defScope s_are_loads) (by decide +kernel)) (fun _ _ _ _ _ => (pg_name (i := 2) sc_are_loads.nd rfl (Or.inl rfl))) (fun _ _ _ _ _ => pts_nil) (fun _ _ _ _ _ => (pe_and (pe_call G_is_integer (hr.mono (by decide)) (by rfl) F_is_integer.g F_is_integer.F.kp F_is_integer.b .nil pass0 (pa_cons (pv 2) pa_nil)) (pe_one (pe_cmpR op_ge (pv 2) pe_int (nomark _)))))) pa_nil))))), ?_⟩
    have n8 := p.ok.n8
    have ln := p.it.1
    refine ⟨_, rfl, .ref c, .ty "tuple", _, _, true, rfl, .ty "tuple", .base (.tup hc), kit_ty (by decide +kernel), _, rfl, iteF ?_⟩
    refine ⟨_, rfl, c, _, rfl, .inr (SqT.of hc), _, rfl, a, _, rfl, .inr (SqT.of p.at_), rfl, _, rfl, ?_⟩
    rw [decide_eq_true (by rw [ctV_len, List.length_map, hl, ln])]
    refine iteF ⟨_, rfl, c, rfl, ⟨_, SqT.of hc⟩, fun D hD => ?_⟩
    refine lc_sel (walk_tup (K := K) (a := c) (xs := ctV cs)) (fun _ => true) (fun _ => .bl true) (by rw [ctV_len]; omega) hD (fun H' s => SqT.of (s _ _ hc)) ?_ ?_
    · rintro j y H1 H2 k k0 hi s1 ⟨rfl, hy⟩ hk _
      have hk := hk rfl _ (Same.refl _)
      unfold ctV at hy
      rw [List.getElem?_map] at hy
      obtain ⟨n, hn, rfl⟩ : ∃ n : Nat, cs[j]? = some n ∧ V.int (n : Int) = y := by
        cases e : cs[j]? with
        | none => rw [e] at hy; cases hy
        | some n => rw [e] at hy; exact ⟨n, rfl, Option.some.inj hy⟩
      refine ⟨rfl, _, rfl, n, rfl, _, rfl, iteT ⟨_, rfl, _, _, rfl, rfl, bl_t (by omega) hk⟩⟩
    · intro H1 s1 h1
      rw [filt_all, bls_map] at h1
      refine ⟨D, _, rfl, SqL.of h1, ?_⟩
      have eall : ((List.range (ctV cs).length).map fun _ => true).all id = true := by simp
      rw [eall]
      exact q _ s1
end
end Ag

end
/-! ## T2 -/
section
set_option linter.all false
set_option maxRecDepth 100000
namespace Ag
open PySem PySem.Spec PyProof.Rows L2
/-- counts by place -/
def kF (cs : List Nat) (i : Nat) : Nat := (cs[i]?).getD 0
theorem kF_at {cs : List Nat} {i n : Nat} (h : cs[i]? = some n) : kF cs i = n := by
  unfold kF
  rw [h]
  rfl
theorem sum_kF (cs : List Nat) : Fair.sumN cs.length (kF cs) = cs.sum := by
  have key : ∀ l : List Nat, Fair.sumN l.reverse.length (kF l.reverse) = l.reverse.sum := by
    intro l
    induction l with
    | nil => rfl
    | cons x l ih =>
      rw [List.reverse_cons, List.length_append, List.sum_append, ← ih]
      show Fair.sumN l.reverse.length (kF (l.reverse ++ [x])) + kF (l.reverse ++ [x]) l.reverse.length = _
      have e1 : kF (l.reverse ++ [x]) l.reverse.length = x := kF_at (by simp)
      have e2 : Fair.sumN l.reverse.length (kF (l.reverse ++ [x])) = Fair.sumN l.reverse.length (kF l.reverse) := Fair.sum_congr fun i hi => by
        unfold kF
        rw [List.getElem?_append_left hi]
      rw [e1, e2]
      simp
  have := key cs.reverse
  rwa [List.reverse_reverse] at this
theorem ceil_neg {a w : Nat} (hw : 1 ≤ w) : -((-((a : Nat) : Int)) / ((w : Nat) : Int)) = (((a + w - 1) / w : Nat) : Int) := by
  generalize hq : (a + w - 1) / w = q
  have h1 := Nat.div_add_mod (a + w - 1) w
  have h2 := Nat.mod_lt (a + w - 1) (show 0 < w by omega)
  rw [hq] at h1
  generalize (a + w - 1) % w = r at h1 h2
  have key : (-((a : Nat) : Int)) / ((w : Nat) : Int) = -((q : Nat) : Int) ∧ (-((a : Nat) : Int)) % ((w : Nat) : Int) = ((w - 1 - r : Nat) : Int) := by
    refine (Int.ediv_emod_unique (by omega)).mpr ⟨?_, by omega, by omega⟩
    rw [Int.mul_neg, ← Int.natCast_mul]
    generalize w * q = z at h1 ⊢
    omega
  rw [key.1]
  omega
/-- the best of the first i -/
def Bst (n : Nat) (w k : Nat → Nat) (t i : Nat) (b d : V) : Prop := (b = .non ∧ d = .non ∧ ∀ j, j < i → ¬ Fair.rdy n w k j t) ∨
  ∃ m : Nat, b = .int (m : Int) ∧ d = .int ((Fair.due n w k m : Nat) : Int) ∧ m < i ∧ Fair.rdy n w k m t ∧ ∀ j, j < i → Fair.rdy n w k j t → Fair.due n w k m < Fair.due n w k j ∨ (Fair.due n w k m = Fair.due n w k j ∧ m ≤ j)
section
variable {P : Program} {w : World} {K : PySem.W.Frag} {mg : Str → Option Value} {base : Heap} {tw tp tg : Tok}
def spAfter : Sp := fun vs H Q _ => ∃ a ts ps c cs, vs = [.ref a, .ref c] ∧ Pool a ts ps H ∧ CtA H c cs ∧ cs.length = ps.length ∧ ∀ (i : Nat) H', Same H H' → Fair.Pick ps.length (wF ps) (kF cs) (cs.sum + 1) i → Q (.int (i : Int)) H'
set_option maxHeartbeats 1000000 in
theorem ok_after {f f1 : Addr} {fd fd1 : FuncData} (F : Fn K mg "turn_after" s_turn_after ["pool", "counts"] f fd) (B : Blt mg) (F_weight_sum : Fn K mg "weight_sum" s_weight_sum ["pool"] f1 fd1) : FnOk P w K mg base CX0 2 f fd ["pool", "counts"] spAfter := by
  have G_weight_sum : FnOk P w K mg base CX0 1 f1 fd1 ["pool"] spWs := ok_ws F_weight_sum B
  refine F.F.ok sc_turn_after (fun vs H Q E h => ?_) (fun cdv A outer s H vs Q E hr h => ?_)
  · obtain ⟨a, ts, ps, c, cs, rfl, _⟩ := h
    rfl
  · obtain ⟨a, ts, ps, c, cs, rfl, p, hc, hl, q⟩ := h
    refine ⟨_, (pss_cons (ps_set (i := 2) sc_turn_after.nd rfl (.inl rfl) (pe_call G_weight_sum (hr.mono (by decide)) (by rfl) F_weight_sum.g F_weight_sum.F.kp F_weight_sum.b .nil pass0 (pa_cons (pv 0) pa_nil)))
      (pss_cons (ps_set (i := 3) sc_turn_after.nd rfl (.inl rfl) (pe_op op_add (pe_callB (cr_sumA rfl) (by rfl) B.n_sum (by decide +kernel) (pa_cons (pv 1) pa_nil)) pe_int))
      (pss_cons (ps_asg (pe_tup (pa_cons pe_non (pa_cons pe_non pa_nil))) (pg_tup rfl (pgs_cons (pg_name (i := 4) sc_turn_after.nd rfl (Or.inl rfl)) (pgs_cons (pg_name (i := 5) sc_turn_after.nd rfl (Or.inl rfl)) pgs_nil))))
      (pss_cons (ps_for PassesOwn.never rfl (pi_enumT (by rfl) B.n_enumerate (pa_cons (pv 0) pa_nil)) (pg_tup rfl (pgs_cons (pg_name (i := 6) sc_turn_after.nd rfl (Or.inl rfl)) (pgs_cons (pg_tup rfl (pgs_cons (pg_name (i := 7) sc_turn_after.nd rfl (Or.inl rfl)) (pgs_cons (pg_name (i := 8) sc_turn_after.nd rfl (Or.inl rfl)) pgs_nil))) pgs_nil)))
      (pss_cons (ps_set (i := 9) sc_turn_after.nd rfl (.inl rfl) (pe_ix ix_seq (pv 1) (pv 6) (fun _ _ => rfl)))
        (pss_cons (ps_set (i := 10) sc_turn_after.nd rfl (.inl rfl) (pe_un un_neg (pe_op op_fdiv (pe_op op_mul (pe_un un_neg (pe_op op_add (pv 9) pe_int)) (pv 2)) (pv 8))))
        (pss_cons (ps_set (i := 11) sc_turn_after.nd rfl (.inl rfl) (pe_cmpR op_gt (pv 3) (pe_op op_fdiv (pe_op op_mul (pv 9) (pv 2)) (pv 8)) (nomark _)))
        (pss_one (ps_if (PW.pt (pw_and (pt_val (pv 11)) (pw_and1 (PW.pt (pw_or (pt_cmpR op_isN (pv 4) pe_non (nomark _)) (pw_or1 (pt_cmpR op_lt (pv 10) (pv 5) (nomark _))))))))
        (pss_one (ps_par (i := 4) (j := 5) (by rfl) sc_turn_after.nd rfl rfl (by decide) rfl rfl (pa_cons (pv 6) (pa_cons (pv 10) pa_nil)) (by rfl)))
        pss_nil))))))
      (pss_one (ps_ret (pv 4))))))), ?_⟩
    refine ⟨_, rfl, a, ts, ps, rfl, p, fun H1 s1 => ?_⟩
    refine ⟨_, rfl, (hc.to s1).sum ⟨_, _, rfl, rfl, ?_⟩⟩
    refine ⟨sz (by show 2 ≤ 16000000; decide), fun T hT => ⟨T, _, rfl, SqT.of upd_same, rfl, _, _, rfl, _, _, rfl, rfl, ?_⟩⟩
    have s2 := s1.trans (same_new (o := .tup [.non, .non]) hT)
    generalize upd H1 T (.tup [.non, .non]) = H2 at s2 ⊢
    have n8 := p.ok.n8
    have ln := p.it.1
    refine ⟨_, rfl, a, _, rfl, SqT.of (s2 _ _ p.at_), ?_⟩
    refine for_it (walk_enumT (K := K) (a := a) (xs := ts.map V.ref)) (fun j σ H' => ∃ (b d : V) (x6 x7 x8 x9 x10 x11 : Option V), σ = [some (.ref a), some (.ref c), some (.int (tW ps : Nat)), some (.int ((cs.sum : Nat) + 1)), some b, some d, x6, x7, x8, x9, x10, x11] ∧ Same H H' ∧ Bst ps.length (wF ps) (kF cs) (cs.sum + 1) j b d) ⟨_, _, none, none, none, none, none, none, rfl, s2, .inl ⟨rfl, rfl, fun j hj => by omega⟩⟩ (fun j σ H' _ z => ?_) ?_ ?_
    · obtain ⟨_, _, _, _, _, _, _, _, _, sm, _⟩ := z
      exact SqT.of (sm _ _ p.at_)
    · rintro j y σ H3 H4 hj ⟨b, d, x6, x7, x8, x9, x10, x11, rfl, s3, hb⟩ ⟨T2, x, rfl, hT2, rfl, hx⟩
      rw [List.length_map, ln] at hj
      have s4 := s3.trans (same_new (o := .tup [.int (j : Nat), x]) hT2)
      have h4 : upd H3 T2 (.tup [.int (j : Nat), x]) T2 = some (.tup [.int (j : Nat), x]) := upd_same
      generalize upd H3 T2 (.tup [.int (j : Nat), x]) = H4 at s4 h4 ⊢
      obtain ⟨t, e, rfl, _, he, ht⟩ := (p.it.to s4).get hx
      have hw := p.ok.wt e (List.mem_of_getElem? he)
      obtain ⟨k, hk⟩ : ∃ k, cs[j]? = some k := ⟨cs[j]'(by omega), List.getElem?_eq_getElem (by omega)⟩
      refine ⟨T2, _, rfl, SqT.of h4, rfl, _, _, rfl, _, _, rfl, ⟨t, _, rfl, SqT.of ht, rfl, _, _, rfl, _, _, rfl, rfl, rfl, ?_⟩⟩
      refine ⟨_, rfl, _, rfl, (hc.to s4).ix hk ?_⟩
      refine ⟨_, rfl, _, _, rfl, rfl, _, rfl, _, rfl, _, _, rfl, rfl, .inr ⟨by omega, by have := tW_le p.ok; omega⟩, _, rfl, _, _, rfl, rfl, ⟨by omega, by omega⟩, _, rfl, ?_⟩
      have hW : tW ps = Fair.tot ps.length (wF ps) := rfl
      have hD : Fair.due ps.length (wF ps) (kF cs) j = ((k + 1) * tW ps + e.2 - 1) / e.2 := by
        unfold Fair.due
        rw [kF_at hk, wF_at he, ← hW]
      have hdue : -(-((k : Int) + 1) * (tW ps : Int) / (e.2 : Int)) = ((Fair.due ps.length (wF ps) (kF cs) j : Nat) : Int) := by
        rw [hD, ← ceil_neg hw.1, Int.neg_mul, Int.natCast_mul]
        rfl
      have hrd : ((cs.sum : Nat) : Int) + 1 > (k : Int) * (tW ps : Int) / (e.2 : Int) ↔ Fair.rdy ps.length (wF ps) (kF cs) j (cs.sum + 1) := by
        unfold Fair.rdy
        rw [kF_at hk, wF_at he, ← hW, ← Int.natCast_mul, ← Int.natCast_ediv]
        omega
      refine ⟨_, rfl, _, rfl, _, rfl, _, _, rfl, rfl, .inr ⟨by omega, by have := tW_le p.ok; omega⟩, _, rfl, _, _, rfl, rfl, ⟨by omega, by omega⟩, _, _, rfl, rfl, ?_⟩
      refine ⟨_, rfl, _, rfl, ?_⟩
      by_cases hr : Fair.rdy ps.length (wF ps) (kF cs) j (cs.sum + 1)
      · refine iteB (decide_eq_true (hrd.mpr hr)) ?_
        rcases hb with ⟨rfl, rfl, hno⟩ | ⟨m, rfl, rfl, hm, hmr, hbest⟩
        · refine ⟨_, rfl, rfl, _, rfl, iteT (iteT ?_)⟩
          refine ⟨_, rfl, _, rfl, _, _, rfl, _, _, _, _, _, _, _, _, rfl, s4, .inr ⟨j, rfl, congrArg V.int hdue, by omega, hr, fun i hi hri => ?_⟩⟩
          by_cases z : i = j
          · subst z
            exact .inr ⟨rfl, Nat.le_refl _⟩
          · exact absurd hri (hno i (by omega))
        · refine ⟨_, rfl, rfl, _, rfl, iteF ⟨_, rfl, _, rfl, _, _, rfl, rfl, _, rfl, ?_⟩⟩
          by_cases hlt : Fair.due ps.length (wF ps) (kF cs) j < Fair.due ps.length (wF ps) (kF cs) m
          · refine iteB (decide_eq_true (show -(-((k : Int) + 1) * (tW ps : Int) / (e.2 : Int)) < _ by rw [hdue]; omega)) ?_
            refine ⟨_, rfl, _, rfl, _, _, rfl, _, _, _, _, _, _, _, _, rfl, s4, .inr ⟨j, rfl, congrArg V.int hdue, by omega, hr, fun i hi hri => ?_⟩⟩
            by_cases z : i = j
            · subst z
              exact .inr ⟨rfl, Nat.le_refl _⟩
            · have := hbest i (by omega) hri
              omega
          · refine iteC (decide_eq_false (show ¬ -(-((k : Int) + 1) * (tW ps : Int) / (e.2 : Int)) < _ by rw [hdue]; omega)) ?_
            refine ⟨_, _, _, _, _, _, _, _, rfl, s4, .inr ⟨m, rfl, rfl, by omega, hmr, fun i hi hri => ?_⟩⟩
            by_cases z : i = j
            · subst z
              omega
            · exact hbest i (by omega) hri
      · refine iteC (decide_eq_false fun z => hr (hrd.mp z)) ?_
        refine ⟨b, d, _, _, _, _, _, _, rfl, s4, ?_⟩
        rcases hb with ⟨rfl, rfl, hno⟩ | ⟨m, rfl, rfl, hm, hmr, hbest⟩
        · refine .inl ⟨rfl, rfl, fun i hi => ?_⟩
          by_cases z : i = j
          · subst z
            exact hr
          · exact hno i (by omega)
        · refine .inr ⟨m, rfl, rfl, by omega, hmr, fun i hi hri => ?_⟩
          by_cases z : i = j
          · subst z
            exact absurd hri hr
          · exact hbest i (by omega) hri
    · rintro σ H3 ⟨b, d, x6, x7, x8, x9, x10, x11, rfl, s3, hb⟩
      rw [List.length_map, ln] at hb
      rcases hb with ⟨rfl, rfl, hno⟩ | ⟨m, rfl, rfl, hm, hr, hbest⟩
      · obtain ⟨i, pk⟩ := Fair.exists_pick (n := ps.length) (w := wF ps) (k := kF cs) (t := cs.sum) p.ok.n1 p.ok.w1 (by rw [← hl, sum_kF])
        exact absurd pk.rd (hno i pk.lt)
      · exact ⟨_, rfl, q m H3 s3 ⟨hm, hr, hbest⟩⟩
end
end Ag

end
/-! ## T3 -/
section
set_option linter.all false
set_option maxRecDepth 100000
namespace Ag
open PySem PySem.Spec PyProof.Rows L2
/-! ### turns in a row -/
def kc (l : List Nat) : Nat → Nat := fun j => l.count j
inductive Tn (n : Nat) (w : Nat → Nat) : List Nat → Prop
  | nil : Tn n w []
  | snoc {l : List Nat} {i : Nat} : Tn n w l → Fair.Pick n w (kc l) (l.length + 1) i → Tn n w (l ++ [i])
theorem kc_snoc (l : List Nat) (i : Nat) : kc (l ++ [i]) = Fair.bump (kc l) i := by
  funext j
  unfold kc Fair.bump
  rw [List.count_append, List.count_singleton]
  by_cases h : j = i
  · subst h
    simp
  · rw [if_neg h]
    have : (i == j) = false := by simpa using fun z : i = j => h z.symm
    simp [this]
theorem Tn.run {n : Nat} {w : Nat → Nat} {l : List Nat} (t : Tn n w l) : Fair.Run n w (kc l) l.length := by
  induction t with
  | nil => exact .zero
  | snoc t p ih =>
    rw [kc_snoc, List.length_append]
    exact ih.step p
theorem Tn.lt {n : Nat} {w : Nat → Nat} {l : List Nat} (t : Tn n w l) : ∀ i ∈ l, i < n := by
  induction t with
  | nil => simp
  | snoc t p ih =>
    intro i hi
    rcases List.mem_append.mp hi with h | h
    · exact ih i h
    · rw [List.mem_singleton.mp h]
      exact p.lt
theorem Tn.uniq {n : Nat} {w : Nat → Nat} {l : List Nat} (t : Tn n w l) : ∀ {l' : List Nat}, Tn n w l' → l.length = l'.length → l = l' := by
  induction t with
  | nil =>
    intro l' _ h
    exact (List.eq_nil_of_length_eq_zero h.symm).symm
  | @snoc l i t p ih =>
    intro l' t' h
    cases t' with
    | nil => simp at h
    | @snoc k j t' p' =>
      simp only [List.length_append, List.length_singleton, Nat.add_right_cancel_iff] at h
      have e := ih t' h
      subst e
      rw [p.uniq n w p']
theorem Tn.take {n : Nat} {w : Nat → Nat} {l : List Nat} (t : Tn n w l) : ∀ m, m ≤ l.length → Tn n w (l.take m) := by
  induction t with
  | nil => intro m _; simpa using Tn.nil
  | @snoc l i t p ih =>
    intro m hm
    by_cases h : m ≤ l.length
    · rw [List.take_append_of_le_length h]
      exact ih m h
    · rw [List.length_append, List.length_singleton] at hm
      rw [List.take_of_length_le (by simp; omega)]
      exact t.snoc p
/-- the counts of a row, by place -/
def csOf (n : Nat) (l : List Nat) : List Nat := (List.range n).map fun j => l.count j
theorem csOf_len (n : Nat) (l : List Nat) : (csOf n l).length = n := by simp [csOf]
theorem csOf_at {n : Nat} {l : List Nat} {j : Nat} (h : j < n) : (csOf n l)[j]? = some (l.count j) := by
  unfold csOf
  rw [List.getElem?_map, List.getElem?_range h]
  rfl
theorem kF_csOf {n : Nat} {w : Nat → Nat} {l : List Nat} (t : Tn n w l) : kF (csOf n l) = kc l := by
  funext j
  by_cases h : j < n
  · exact kF_at (csOf_at h)
  · unfold kF kc
    rw [List.getElem?_eq_none (by rw [csOf_len]; omega)]
    exact (List.count_eq_zero.mpr fun z => h (t.lt j z)).symm
theorem csOf_sum {n : Nat} {w : Nat → Nat} {l : List Nat} (hn : 1 ≤ n) (hw : ∀ i, i < n → 1 ≤ w i) (t : Tn n w l) : (csOf n l).sum = l.length := by
  rw [← sum_kF, csOf_len, kF_csOf t]
  exact (t.run.inv hn hw).sum
theorem csOf_snoc {n : Nat} {l : List Nat} {i : Nat} (hi : i < n) : (ctV (csOf n l)).set i (.int ((l.count i : Nat) + 1)) = ctV (csOf n (l ++ [i])) := by
  refine List.ext_getElem? fun j => ?_
  rw [List.getElem?_set]
  by_cases hj : j < n
  · rw [ctV_at (csOf_at (l := l ++ [i]) hj)]
    by_cases h : i = j
    · subst h
      rw [if_pos rfl, if_pos (by rw [ctV_len, csOf_len]; exact hj)]
      simp [List.count_append]
    · rw [if_neg h, ctV_at (csOf_at hj), List.count_append, List.count_singleton]
      have : (i == j) = false := by simpa using h
      simp [this]
  · rw [if_neg (by omega), List.getElem?_eq_none (by rw [ctV_len, csOf_len]; omega), List.getElem?_eq_none (by rw [ctV_len, csOf_len]; omega)]
theorem rep0 (n : Nat) : (List.replicate n [V.int 0]).flatten = ctV (csOf n []) := by
  refine List.ext_getElem? fun j => ?_
  have e : (List.replicate n [V.int 0]).flatten = List.replicate n (V.int 0) := by
    induction n with
    | zero => rfl
    | succ n ih => rw [List.replicate_succ, List.flatten_cons, ih, List.replicate_succ]; rfl
  rw [e]
  by_cases hj : j < n
  · rw [ctV_at (csOf_at hj), List.getElem?_replicate, if_pos hj]
    rfl
  · rw [List.getElem?_eq_none (by simpa using hj), List.getElem?_eq_none (by rw [ctV_len, csOf_len]; omega)]
theorem ixN_nat {n i : Nat} (h : i < n) : ixN n ((i : Nat) : Int) = some i := by
  unfold ixN
  rw [if_pos (by omega), if_pos (by omega), show ((i : Nat) : Int).toNat = i by simp]
section
variable {P : Program} {w : World} {K : PySem.W.Frag} {mg : Str → Option Value} {base : Heap} {tw tp tg : Tok}
def spFirst : Sp := fun vs H Q _ => ∃ a ts ps, ∃ many : Nat, vs = [.ref a, .int many] ∧ Pool a ts ps H ∧ many ≤ 100000 ∧ ∀ L given H', Same H H' → H' L = some (.lst (ctV given)) → Tn ps.length (wF ps) given → given.length = many → Q (.ref L) H'
set_option maxHeartbeats 1000000 in
theorem ok_first {f f1 : Addr} {fd fd1 : FuncData} (F : Fn K mg "first_turns" s_first_turns ["pool", "many"] f fd) (B : Blt mg) (F_turn_after : Fn K mg "turn_after" s_turn_after ["pool", "counts"] f1 fd1) (G_turn_after : FnOk P w K mg base CX0 2 f1 fd1 ["pool", "counts"] spAfter) : FnOk P w K mg base CX0 3 f fd ["pool", "many"] spFirst := by
  refine F.F.ok sc_first_turns (fun vs H Q E h => ?_) (fun cdv A outer s H vs Q E hr h => ?_)
  · obtain ⟨a, ts, ps, many, rfl, _⟩ := h
    rfl
  · obtain ⟨a, ts, ps, many, rfl, p, hm, q⟩ := h
    refine ⟨_, (pss_cons (ps_set (i := 2) sc_first_turns.nd rfl (.inl rfl) (pe_op op_rep (pe_lst (pa_cons pe_int pa_nil)) (pe_callB call_len_seq (by rfl) B.n_len PySem.boot_len (pa_cons (pv 0) pa_nil))))
      (pss_cons (ps_set (i := 3) sc_first_turns.nd rfl (.inl rfl) (pe_lst pa_nil))
      (pss_cons (ps_for PassesOwn.never rfl (pi_range1 (by rfl) B.n_range (pa_cons (pv 1) pa_nil)) (pg_name (i := 4) sc_first_turns.nd rfl (Or.inl rfl))
      (pss_cons (ps_set (i := 5) sc_first_turns.nd rfl (.inl rfl) (pe_call G_turn_after (hr.mono (by decide)) (by rfl) F_turn_after.g F_turn_after.F.kp F_turn_after.b .nil pass0 (pa_cons (pv 0) (pa_cons (pv 2) pa_nil))))
        (pss_cons (ps_augS (pv 2) (pv 5) get_list pe_int ip_add set_list)
        (pss_one (ps_expr (pe_bm PySem.F.plainAttrs_list PySem.F.slot_list_append PySem.F.type_list_append mt_append (pv 3) (pa_cons (pv 5) pa_nil)))))))
      (pss_one (ps_ret (pv 3)))))), ?_⟩
    have n8 := p.ok.n8
    have ln := p.it.1
    refine ⟨sz (by show 1 ≤ 16000000; decide), fun Z hZ => ?_⟩
    have s1 := same_new (o := .lst [.int 0]) hZ
    have h1 : upd H Z (.lst [.int 0]) Z = some (.lst [.int 0]) := upd_same
    generalize upd H Z (.lst [.int 0]) = H1 at s1 h1 ⊢
    refine ⟨_, rfl, a, _, rfl, .inr (SqT.of (s1 _ _ p.at_)), Z, _, _, rfl, rfl, h1, by rw [List.length_map]; omega, by rw [List.length_map]; omega, ?_, fun C hC => ?_⟩
    · rw [List.length_map, sizeLine_eq]
      simp
      omega
    rw [List.length_map, ln, show ((ps.length : Nat) : Int).toNat = ps.length by simp, rep0]
    have nC : H C = none := s1.free hC
    have s2 := s1.trans (same_new (o := .lst (ctV (csOf ps.length []))) hC)
    have h2 : upd H1 C (.lst (ctV (csOf ps.length []))) C = some (.lst (ctV (csOf ps.length []))) := upd_same
    generalize upd H1 C (.lst (ctV (csOf ps.length []))) = H2 at s2 h2 ⊢
    refine ⟨Nat.zero_le _, fun D hD => ?_⟩
    have nD : H D = none := s2.free hD
    have nCD : C ≠ D := ne_of_none h2 hD
    have s3 := s2.trans (same_new (o := .lst []) hD)
    refine ⟨_, rfl, _, rfl, by omega, by omega, ?_⟩
    refine for_range (lo := 0) (n := ((many : Nat) : Int).toNat) (fun j σ H' => ∃ (l : List Nat) (x4 x5 : Option V), σ = [some (.ref a), some (.int many), some (.ref C), some (.ref D), x4, x5] ∧ Same H H' ∧ H' C = some (.lst (ctV (csOf ps.length l))) ∧ H' D = some (.lst (ctV l)) ∧ Tn ps.length (wF ps) l ∧ l.length = j) ⟨[], none, none, rfl, s3, by rw [upd_ne nCD]; exact h2, upd_same, .nil, rfl⟩ ?_ ?_
    · rintro j σ H4 hj ⟨l, x4, x5, rfl, s4, hc4, hd4, tn, hlen⟩
      refine ⟨_, rfl, _, rfl, a, ts, ps, C, csOf ps.length l, rfl, p.to s4, .inl hc4, csOf_len _ _, fun i H5 s5 pk => ?_⟩
      rw [kF_csOf tn, csOf_sum p.ok.n1 p.ok.w1 tn] at pk
      have hi := pk.lt
      refine ⟨_, rfl, _, rfl, C, _, i, _, rfl, rfl, SqL.of (s5 _ _ hc4), ctV_at (csOf_at hi), _, _, rfl, rfl, C, _, _, i, rfl, rfl, s5 _ _ hc4, ixN_nat (by rw [ctV_len, csOf_len]; exact hi), ?_⟩
      rw [csOf_snoc hi]
      have hd6 : upd H5 C (.lst (ctV (csOf ps.length (l ++ [i])))) D = some (.lst (ctV l)) := by
        rw [upd_ne nCD.symm]
        exact s5 _ _ hd4
      refine ⟨_, rfl, .inl ⟨rfl, _, SqL.of hd6⟩, _, rfl, D, _, _, rfl, rfl, hd6, ?_, ?_⟩
      · rw [ctV_len, sizeLine_eq]
        omega
      · refine ⟨l ++ [i], _, _, rfl, fun b o e => ?_, ?_, ?_, tn.snoc pk, by simp [hlen]⟩
        · rw [upd_ne (ne_of_none e nD), upd_ne (ne_of_none e nC)]
          exact s5 _ _ (s4 _ _ e)
        · rw [upd_ne nCD, upd_same]
        · rw [upd_same]
          unfold ctV
          rw [List.map_append]
          rfl
    · rintro σ H4 ⟨l, x4, x5, rfl, s4, hc4, hd4, tn, hlen⟩
      exact ⟨_, rfl, q D l H4 s4 hd4 tn (by rw [hlen]; simp)⟩
end
end Ag

end
/-! ## T4 -/
section
set_option linter.all false
set_option maxRecDepth 100000
namespace Ag
open PySem PySem.Spec PyProof.Rows L2
theorem count_int (l : List Nat) (j : Nat) : (l.map fun k => ((k : Nat) : Int)).count ((j : Nat) : Int) = l.count j := by
  induction l with
  | nil => rfl
  | cons x l ih =>
    rw [List.map_cons, List.count_cons, List.count_cons, ih]
    have e : (((x : Nat) : Int) == ((j : Nat) : Int)) = (x == j) := by
      rw [Bool.eq_iff_iff, beq_iff_eq, beq_iff_eq]
      omega
    rw [e]
theorem mt_lcountK {X : Cx} (K : PySem.W.Frag) (hK : X.K = K) : MtR X "list.count" (rCntI K) := by
  subst hK
  exact mt_lcount
/-- the counts behind whole rounds and a row of turns -/
def ksOf (ps : List (List Nat × Nat)) (r : Nat) (l : List Nat) : List Nat := (List.range ps.length).map fun j => r * wF ps j + l.count j
theorem ksOf_len (ps : List (List Nat × Nat)) (r : Nat) (l : List Nat) : (ksOf ps r l).length = ps.length := by simp [ksOf]
theorem ksOf_run {ps : List (List Nat × Nat)} {r : Nat} {l : List Nat} (o : PlOk ps) (t : Tn ps.length (wF ps) l) : Fair.Run ps.length (wF ps) (kF (ksOf ps r l)) (l.length + r * tW ps) := by
  have h := t.run.rounds o.n1 o.w1 r
  have e : (fun j => kc l j + if j < ps.length then r * wF ps j else 0) = kF (ksOf ps r l) := by
    funext j
    unfold kF ksOf
    by_cases hj : j < ps.length
    · rw [if_pos hj, List.getElem?_map, List.getElem?_range hj]
      show kc l j + _ = r * wF ps j + l.count j
      unfold kc
      omega
    · rw [if_neg hj, List.getElem?_eq_none (by simp; omega), t.run.out (by omega)]
      rfl
  rw [e] at h
  exact h
theorem kF_ext {a b : List Nat} (hl : a.length = b.length) (h : kF a = kF b) : a = b := by
  refine List.ext_getElem? fun i => ?_
  by_cases hi : i < a.length
  · have := congrFun h i
    rw [kF_at (List.getElem?_eq_getElem hi), kF_at (List.getElem?_eq_getElem (by omega : i < b.length))] at this
    rw [List.getElem?_eq_getElem hi, List.getElem?_eq_getElem (by omega : i < b.length), this]
  · rw [List.getElem?_eq_none (by omega), List.getElem?_eq_none (by omega)]
theorem eqv_ctD (cs : List Nat) : PyData.eqvAll (cs.map fun k => PyData.int ((k : Nat) : Int)) (cs.map fun k => PyData.int ((k : Nat) : Int)) = true := by
  induction cs with
  | nil => simp [PyData.eqvAll]
  | cons c cs ih => simp only [List.map_cons, PyData.eqvAll, PyData.eqv, ih]; simp
theorem dp_ct {K : PySem.W.Frag} {H : Hp} : ∀ cs : List Nat, DpAll K H (ctV cs) (cs.map fun k => PyData.int ((k : Nat) : Int))
  | [] => .nil
  | c :: cs => .cons (.int _) (dp_ct cs)
theorem lay_ct : ∀ cs : List Nat, PyData.canLayAll0 (cs.map fun k => PyData.int ((k : Nat) : Int)) = true ∧ PyData.depthAll (cs.map fun k => PyData.int ((k : Nat) : Int)) = 0
  | [] => by simp [PyData.canLayAll0, PyData.depthAll]
  | c :: cs => by
    obtain ⟨h1, h2⟩ := lay_ct cs
    simp [PyData.canLayAll0, PyData.canLay0, PyData.depthAll, PyData.depth, h1, h2]
theorem shaped_ct (cs : List Nat) : SeqAt.shaped (.tuple (cs.map fun k => PyData.int ((k : Nat) : Int))) = true := by
  obtain ⟨h1, h2⟩ := lay_ct cs
  simp [SeqAt.shaped, PyData.canLay0, PyData.depth, h1, h2]
section
variable {P : Program} {w : World} {K : PySem.W.Frag} {mg : Str → Option Value} {base : Heap} {tw tp tg : Tok}
def spFrom : Sp := fun vs H Q _ => ∃ a ts ps, ∃ many : Nat, vs = [.ref a, .int many] ∧ Pool a ts ps H ∧ ∀ t ks H', Same H H' → H' t = some (.tup (ctV ks)) → ks.length = ps.length → Fair.Run ps.length (wF ps) (kF ks) many → Q (.ref t) H'
set_option maxHeartbeats 1000000 in
theorem ok_from {f f1 f2 : Addr} {fd fd1 fd2 : FuncData} (F : Fn K mg "counts_from_start" s_counts_from_start ["pool", "many"] f fd) (B : Blt mg) (F_weight_sum : Fn K mg "weight_sum" s_weight_sum ["pool"] f1 fd1)
    (F_first_turns : Fn K mg "first_turns" s_first_turns ["pool", "many"] f2 fd2) (G_first_turns : FnOk P w K mg base CX0 3 f2 fd2 ["pool", "many"] spFirst) : FnOk P w K mg base CX0 4 f fd ["pool", "many"] spFrom := by
  have G_weight_sum : FnOk P w K mg base CX0 1 f1 fd1 ["pool"] spWs := ok_ws F_weight_sum B
  refine F.F.ok sc_counts_from_start (fun vs H Q E h => ?_) (fun cdv A outer s H vs Q E hr h => ?_)
  · obtain ⟨a, ts, ps, many, rfl, _⟩ := h
    rfl
  · obtain ⟨a, ts, ps, many, rfl, p, q⟩ := h
    refine ⟨_, (pss_cons (ps_asg (pe_callB call_divmod (by rfl) B.n_divmod (by decide +kernel) (pa_cons (pv 1) (pa_cons (pe_call G_weight_sum (hr.mono (by decide)) (by rfl) F_weight_sum.g F_weight_sum.F.kp F_weight_sum.b .nil pass0 (pa_cons (pv 0) pa_nil)) pa_nil))) (pg_tup rfl (pgs_cons (pg_name (i := 2) sc_counts_from_start.nd rfl (Or.inr rfl)) (pgs_cons (pg_name (i := 3) sc_counts_from_start.nd rfl (Or.inl rfl)) pgs_nil))))
      (pss_cons (ps_set (i := 4) sc_counts_from_start.nd rfl (.inr rfl) (pe_call G_first_turns (hr.mono (by decide)) (by rfl) F_first_turns.g F_first_turns.F.kp F_first_turns.b .nil pass0 (pa_cons (pv 0) (pa_cons (pv 3) pa_nil))))
      (pss_one (ps_ret (pe_callTy call_tuple_of (by rfl) B.n_tuple (by decide +kernel) (pa_cons (pe_lc (own := [("at", 6), ("_", 7), ("weight", 5)]) rfl sc_counts_from_start.nd (pi_enumT (by rfl) B.n_enumerate (pa_cons (pv 0) pa_nil)) (blkOk_by (N := N_counts_from_start) (sc := defScope s_counts_from_start) (by decide +kernel)) (fun _ _ _ _ _ => pg_nest (i := 6) (j := 7) (l := 5) K rfl sc_counts_from_start.nd rfl rfl rfl rfl rfl rfl rfl) (fun _ _ _ _ _ => pts_nil) (fun _ _ _ _ _ => (pe_op op_add (pe_op op_mul (pv 2) (pv 5)) (pe_of_K K (fun K => tBM K "list" (rCntI K) (tVar 4) (tCons (tVar 6) tNil)) rfl (pe_bm PySem.F.plainAttrs_list PySem.F.slot_list_count PySem.F.type_list_count mt_lcount (pv 4) (pa_cons (pv 6) pa_nil)))))) pa_nil)))))), ?_⟩
    have n8 := p.ok.n8
    have ln := p.it.1
    have wp := tW_pos p.ok
    have w8 := tW_le p.ok
    refine ⟨_, rfl, _, rfl, a, ts, ps, rfl, p, fun H1 s1 => ?_⟩
    refine ⟨_, _, rfl, ⟨by omega, by omega⟩, fun T hT => ⟨T, _, rfl, SqT.of upd_same, rfl, _, _, rfl, _, _, rfl, rfl, ?_⟩⟩
    have s2 := s1.trans (same_new (o := .tup [.int ((many : Int) / (tW ps : Nat)), .int ((many : Int) % (tW ps : Nat))]) hT)
    generalize upd H1 T (.tup [.int ((many : Int) / (tW ps : Nat)), .int ((many : Int) % (tW ps : Nat))]) = H2 at s2 ⊢
    have er : ((many : Int) % ((tW ps : Nat) : Int)) = ((many % tW ps : Nat) : Int) := (Int.natCast_emod _ _).symm
    have eq : ((many : Int) / ((tW ps : Nat) : Int)) = ((many / tW ps : Nat) : Int) := (Int.natCast_ediv _ _).symm
    rw [er, eq]
    have dm := Nat.div_add_mod many (tW ps)
    have lt := Nat.mod_lt many (show 0 < tW ps by omega)
    generalize many % tW ps = rest at dm lt ⊢
    generalize many / tW ps = rounds at dm ⊢
    refine ⟨_, rfl, _, rfl, a, ts, ps, rest, rfl, p.to s2, by omega, fun D given H3 s3 hD3 tn hlen => ?_⟩
    have s4 := s2.trans s3
    refine ⟨_, rfl, a, _, rfl, SqT.of (s4 _ _ p.at_), fun E hE => ?_⟩
    refine lc_sel (walk_enumT (K := K) (a := a) (xs := ts.map V.ref)) (fun _ => true) (fun j => .int ((rounds * wF ps j + given.count j : Nat) : Int)) (by rw [List.length_map]; omega) hE (fun H' s => SqT.of (s _ _ (s4 _ _ p.at_))) ?_ ?_
    · rintro j y H5 H6 k k0 hj s5 ⟨T2, x, rfl, hT2, rfl, hx⟩ hk _
      rw [List.length_map, ln] at hj
      have s6 : Same H5 (upd H5 T2 (.tup [.int (j : Nat), x])) := same_new hT2
      have h6 : upd H5 T2 (.tup [.int (j : Nat), x]) T2 = some (.tup [.int (j : Nat), x]) := upd_same
      generalize upd H5 T2 (.tup [.int (j : Nat), x]) = H6 at s6 h6 ⊢
      have s56 := s5.trans s6
      obtain ⟨t, e, rfl, _, he, ht⟩ := ((p.it.to s4).to s56).get hx
      refine ⟨T2, _, rfl, SqT.of h6, rfl, _, _, rfl, _, _, rfl, ⟨t, _, rfl, SqT.of ht, rfl, _, _, rfl, _, _, rfl, rfl, rfl, rfl, ?_⟩⟩
      have hk := hk rfl _ s6
      have hw := p.ok.wt e (List.mem_of_getElem? he)
      rw [wF_at he] at hk
      refine ⟨_, rfl, _, rfl, _, _, rfl, rfl, .inr ⟨by omega, by omega⟩, _, rfl, .inl ⟨rfl, _, SqL.of (s56 _ _ hD3)⟩, _, rfl, D, given.map (fun k => ((k : Nat) : Int)), _, rfl, rfl, SqL.of ((s56 _ _ hD3).trans (by rw [ctV_int])), ?_⟩
      rw [count_int]
      refine ⟨_, _, rfl, rfl, ?_⟩
      have ev : V.int ((rounds : Int) * (e.2 : Nat) + ((given.count j : Nat) : Int)) = .int ((rounds * e.2 + given.count j : Nat) : Int) := by
        rw [Int.natCast_add, Int.natCast_mul]
      exact (show k (V.int ((rounds : Int) * (e.2 : Nat) + ((given.count j : Nat) : Int))) H6 by rw [ev]; exact hk)
    · intro H5 s5 h5
      have e1 : (List.range (ts.map V.ref).length).map (fun j => V.int ((rounds * wF ps j + given.count j : Nat) : Int)) = ctV (ksOf ps rounds given) := by
        unfold ctV ksOf
        rw [List.length_map, ln, List.map_map]
        rfl
      rw [filt_all, e1] at h5
      refine ⟨E, _, rfl, .inl ⟨SqL.of h5, fun t ht => ?_⟩⟩
      refine q t (ksOf ps rounds given) _ (s4.trans (s5.trans (same_new ht))) upd_same (ksOf_len _ _ _) ?_
      have := ksOf_run (r := rounds) p.ok tn
      rw [hlen, show rest + rounds * tW ps = many by rw [Nat.mul_comm]; omega] at this
      exact this
def spCounts : Sp := fun vs H Q _ => ∃ a ts ps c cs, vs = [.ref a, .ref c] ∧ Pool a ts ps H ∧ H c = some (.tup (ctV cs)) ∧ cs.length = ps.length ∧ Fair.Run ps.length (wF ps) (kF cs) cs.sum ∧ ∀ H', Same H H' → Q (.bl true) H'
theorem ok_counts {f f1 f2 : Addr} {fd fd1 fd2 : FuncData} (F : Fn K mg "are_counts" s_are_counts ["pool", "thing"] f fd) (B : Blt mg) (F_are_loads : Fn K mg "are_loads" s_are_loads ["pool", "thing"] f1 fd1) (G_are_loads : FnOk P w K mg base CX0 2 f1 fd1 ["pool", "thing"] spLoads)
    (F_counts_from_start : Fn K mg "counts_from_start" s_counts_from_start ["pool", "many"] f2 fd2) (G_counts_from_start : FnOk P w K mg base CX0 4 f2 fd2 ["pool", "many"] spFrom) : FnOk P w K mg base CX0 5 f fd ["pool", "thing"] spCounts := by
  refine F.F.ok sc_are_counts (fun vs H Q E h => ?_) (fun cdv A outer s H vs Q E hr h => ?_)
  · obtain ⟨a, ts, ps, c, cs, rfl, _⟩ := h
    rfl
  · obtain ⟨a, ts, ps, c, cs, rfl, p, hc, hl, hrun, q⟩ := h
    refine ⟨_, (pss_one (ps_ret (pe_and (pe_call G_are_loads (hr.mono (by decide)) (by rfl) F_are_loads.g F_are_loads.F.kp F_are_loads.b .nil pass0 (pa_cons (pv 0) (pa_cons (pv 1) pa_nil))) (pe_one (pe_cmpR (op_eqD hr.units) (pe_call G_counts_from_start (hr.mono (by decide)) (by rfl) F_counts_from_start.g F_counts_from_start.F.kp F_counts_from_start.b .nil pass0 (pa_cons (pv 0) (pa_cons (pe_callB (cr_sumT rfl) (by rfl) B.n_sum (by decide +kernel) (pa_cons (pv 1) pa_nil)) pa_nil))) (pv 1) (nomark _)))))), ?_⟩
    refine ⟨_, rfl, _, rfl, a, ts, ps, c, cs, rfl, p, hc, hl, fun H1 s1 => ⟨_, rfl, iteT ?_⟩⟩
    refine ⟨_, rfl, _, rfl, c, cs.map (fun k => ((k : Nat) : Int)), rfl, SqT.of ((s1 _ _ hc).trans (by rw [ctV_int])), ?_⟩
    rw [sum_int]
    refine ⟨a, ts, ps, cs.sum, rfl, p.to s1, fun t ks H2 s2 ht hkl hkr => ?_⟩
    have e : ks = cs := kF_ext (hkl.trans hl.symm) (hkr.uniq hrun)
    subst e
    have s12 := s1.trans s2
    refine ⟨_, rfl, .tuple (ks.map fun k => .int ((k : Nat) : Int)), .tuple (ks.map fun k => .int ((k : Nat) : Int)), .tup (SqT.of ht) (dp_ct ks), .tup (SqT.of (s12 _ _ hc)) (dp_ct ks), shaped_ct ks, shaped_ct ks, ?_⟩
    rw [show PyData.eqv (.tuple (ks.map fun k => PyData.int ((k : Nat) : Int))) (.tuple (ks.map fun k => PyData.int ((k : Nat) : Int))) = true by simp only [PyData.eqv]; exact eqv_ctD ks]
    exact q _ s12
def spNext : Sp := fun vs H Q _ => ∃ a ts ps c cs, vs = [.ref a, .ref c] ∧ Pool a ts ps H ∧ H c = some (.tup (ctV cs)) ∧ cs.length = ps.length ∧ Fair.Run ps.length (wF ps) (kF cs) cs.sum ∧ ∀ (i : Nat) H', Same H H' → Fair.Pick ps.length (wF ps) (kF cs) (cs.sum + 1) i → Q (.int (i : Int)) H'
theorem ok_next {f f1 f2 f3 : Addr} {fd fd1 fd2 fd3 : FuncData} (F : Fn K mg "next_turn" s_next_turn ["pool", "counts"] f fd) (B : Con mg tw tp tg) (F_is_pool : Fn K mg "is_pool" s_is_pool ["thing"] f1 fd1) (G_is_pool : FnOk P w K mg base CX0 3 f1 fd1 ["thing"] spPool)
    (F_are_counts : Fn K mg "are_counts" s_are_counts ["pool", "thing"] f2 fd2) (G_are_counts : FnOk P w K mg base CX0 5 f2 fd2 ["pool", "thing"] spCounts) (F_turn_after : Fn K mg "turn_after" s_turn_after ["pool", "counts"] f3 fd3) (G_turn_after : FnOk P w K mg base CX0 2 f3 fd3 ["pool", "counts"] spAfter) : FnOk P w K mg base CX0 6 f fd ["pool", "counts"] spNext := by
  refine F.F.ok sc_next_turn (fun vs H Q E h => ?_) (fun cdv A outer s H vs Q E hr h => ?_)
  · obtain ⟨a, ts, ps, c, cs, rfl, _⟩ := h
    rfl
  · obtain ⟨a, ts, ps, c, cs, rfl, p, hc, hl, hrun, q⟩ := h
    refine ⟨_, (pss_cons (ps_if (pt_not (pt_val (pe_call G_is_pool (hr.mono (by decide)) (by rfl) F_is_pool.g F_is_pool.F.kp F_is_pool.b .nil pass0 (pa_cons (pv 0) pa_nil))))
      (pss_one ps_never)
      pss_nil)
      (pss_cons (ps_if (pt_not (pt_val (pe_call G_are_counts (hr.mono (by decide)) (by rfl) F_are_counts.g F_are_counts.F.kp F_are_counts.b .nil pass0 (pa_cons (pv 0) (pa_cons (pv 1) pa_nil)))))
      (pss_one ps_never)
      pss_nil)
      (pss_one (ps_ret (pe_call G_turn_after (hr.mono (by decide)) (by rfl) F_turn_after.g F_turn_after.F.kp F_turn_after.b .nil pass0 (pa_cons (pv 0) (pa_cons (pv 1) pa_nil))))))), ?_⟩
    refine ⟨_, rfl, a, ts, ps, rfl, p, fun H1 s1 => ⟨_, rfl, iteF ?_⟩⟩
    refine ⟨_, rfl, _, rfl, a, ts, ps, c, cs, rfl, p.to s1, s1 _ _ hc, hl, hrun, fun H2 s2 => ⟨_, rfl, iteF ?_⟩⟩
    have s12 := s1.trans s2
    exact ⟨_, rfl, _, rfl, a, ts, ps, c, cs, rfl, p.to s12, .inr (s12 _ _ hc), hl, fun i H3 s3 pk => q i H3 (s12.trans s3) pk⟩
def spCa : Sp := spFrom
theorem ok_ca {f f1 f2 f3 : Addr} {fd fd1 fd2 fd3 : FuncData} (F : Fn K mg "counts_after" s_counts_after ["pool", "t"] f fd) (B : Con mg tw tp tg) (F_is_pool : Fn K mg "is_pool" s_is_pool ["thing"] f1 fd1) (G_is_pool : FnOk P w K mg base CX0 3 f1 fd1 ["thing"] spPool)
    (F_is_integer : Fn K mg "is_integer" s_is_integer ["thing"] f2 fd2) (G_is_integer : FnOk P w K mg base CX0 1 f2 fd2 ["thing"] spInteger) (F_counts_from_start : Fn K mg "counts_from_start" s_counts_from_start ["pool", "many"] f3 fd3) (G_counts_from_start : FnOk P w K mg base CX0 4 f3 fd3 ["pool", "many"] spFrom) : FnOk P w K mg base CX0 5 f fd ["pool", "t"] spFrom := by
  refine F.F.ok sc_counts_after (fun vs H Q E h => ?_) (fun cdv A outer s H vs Q E hr h => ?_)
  · obtain ⟨a, ts, ps, t, rfl, _⟩ := h
    rfl
  · obtain ⟨a, ts, ps, t, rfl, p, q⟩ := h
    refine ⟨_, (pss_cons (ps_if (pt_not (pt_val (pe_call G_is_pool (hr.mono (by decide)) (by rfl) F_is_pool.g F_is_pool.F.kp F_is_pool.b .nil pass0 (pa_cons (pv 0) pa_nil))))
      (pss_one ps_never)
      pss_nil)
      (pss_cons (ps_if (PW.pt (pw_or (pt_not (pt_val (pe_call G_is_integer (hr.mono (by decide)) (by rfl) F_is_integer.g F_is_integer.F.kp F_is_integer.b .nil pass0 (pa_cons (pv 1) pa_nil)))) (pw_or1 (pt_cmpR op_lt (pv 1) pe_int (nomark _)))))
      (pss_one ps_never)
      pss_nil)
      (pss_one (ps_ret (pe_call G_counts_from_start (hr.mono (by decide)) (by rfl) F_counts_from_start.g F_counts_from_start.F.kp F_counts_from_start.b .nil pass0 (pa_cons (pv 0) (pa_cons (pv 1) pa_nil))))))), ?_⟩
    refine ⟨_, rfl, a, ts, ps, rfl, p, fun H1 s1 => ⟨_, rfl, iteF ?_⟩⟩
    refine ⟨_, rfl, t, rfl, _, rfl, iteF ⟨_, rfl, _, _, rfl, rfl, _, rfl, ?_⟩⟩
    rw [decide_eq_false (by omega : ¬ ((t : Int) < 0))]
    exact iteF ⟨_, rfl, _, rfl, a, ts, ps, t, rfl, p.to s1, fun t' ks H2 s2 h1 h2 h3 => q t' ks H2 (s1.trans s2) h1 h2 h3⟩
end
end Ag

end
/-! ## A1 -/
section
set_option linter.all false
set_option maxRecDepth 100000
namespace Ag
open PySem PySem.Spec PyProof.Rows L2
open SX (S S_len S_cat S_inj)
/-! ### what is asked of the parts of a pool -/
def isIntB : PyData → Bool
  | .int _ => true
  | _ => false
def wholeB (lo hi : Int) : PyData → Bool
  | .int i => decide (lo ≤ i) && decide (i ≤ hi)
  | _ => false
def wordB : PyData → Bool
  | .str x => wordL x.cps.toList
  | _ => false
def asInt : PyData → Int
  | .int i => i
  | _ => 0
def shareB : PyData → Bool
  | .tuple [l, w] => wordB l && wholeB 1 100 w
  | _ => false
/-- a share's label -/
def labD : PyData → Str
  | .tuple [.str x, _] => x
  | _ => Str.empty
def poolB : PyData → Bool
  | .tuple xs => ((decide (1 ≤ xs.length) && decide (xs.length ≤ 8)) && xs.all shareB) && decide ((xs.map labD).Nodup)
  | _ => false
/-- a share at hand -/
theorem share_of {p c : Addr} {H : Hp} {v : V} {d : PyData} (h : Dg p c H v d) (e : shareB d = true) : ∃ t x w, v = .ref t ∧ H t = some (.tup [.str x, .int w]) ∧ labD d = x := by
  cases h with
  | tup a b =>
    rename_i t xs ds
    cases b with
    | nil => simp [shareB] at e
    | cons h1 b =>
      cases b with
      | nil => simp [shareB] at e
      | cons h2 b =>
        cases b with
        | cons h3 b => simp [shareB] at e
        | nil =>
          simp only [shareB, Bool.and_eq_true] at e
          cases h1 with
          | str x =>
            cases h2 with
            | int w => exact ⟨t, x, w, rfl, a.2.2, rfl⟩
            | _ => simp [wholeB] at e
          | _ => simp [wordB] at e
  | _ => simp [shareB] at e
section
variable {P : Program} {w : World} {K : PySem.W.Frag} {mg : Str → Option Value} {base : Heap} {tw tp tg : Tok}
def spIntG : Sp := fun vs H Q _ => ∃ p c v d, vs = [v] ∧ Dg p c H v d ∧ Q (.bl (isIntB d)) H
theorem ok_intG {f : Addr} {fd : FuncData} (F : Fn K mg "is_integer" s_is_integer ["thing"] f fd) (B : Con mg tw tp tg) : FnOk P w K mg base CX0 1 f fd ["thing"] spIntG := by
  refine F.F.ok sc_is_integer (fun vs H Q E h => ?_) (fun cdv A outer s H vs Q E hr h => ?_)
  · obtain ⟨p, c, x, d, rfl, _⟩ := h
    rfl
  · obtain ⟨p, c, x, d, rfl, hd, q⟩ := h
    refine ⟨_, (pss_one (ps_ret (pe_and (pe_callB call_isi (by rfl) B.n_isinstance (by decide +kernel) (pa_cons (pv 0) (pa_cons (pe_bltn (v := .ty "int") (by rfl) B.n_int (by decide +kernel) rfl) pa_nil))) (pe_one (pe_not (pe_callB call_isi (by rfl) B.n_isinstance (by decide +kernel) (pa_cons (pv 0) (pa_cons (pe_bltn (v := .ty "bool") (by rfl) B.n_bool (by decide +kernel) rfl) pa_nil)))))))), ?_⟩
    refine ⟨x, rfl, x, .ty "int", _, _, _, rfl, .ty "int", hd.tyx, isi_I d, _, rfl, ite2 (fun h => ?_) (fun h => ?_)⟩
    · refine ⟨_, rfl, x, .ty "bool", _, _, _, rfl, .ty "bool", hd.tyx, isi_B d, _, rfl, ?_⟩
      cases d <;> first | exact q | exact absurd h (by simp [isI])
    · cases d <;> first | exact q | exact absurd rfl h
def spWordG : Sp := fun vs H Q _ => ∃ p c v d q n b, vs = [v] ∧ Dg p c H v d ∧ Gd q d n b ∧ Q (.bl (wordB d)) H
theorem ok_wordG {f : Addr} {fd : FuncData} (F : Fn K mg "is_word" s_is_word ["thing"] f fd) (B : Con mg tw tp tg) : FnOk P w K mg base CX0 1 f fd ["thing"] spWordG := by
  refine F.F.ok sc_is_word (fun vs H Q E h => ?_) (fun cdv A outer s H vs Q E hr h => ?_)
  · obtain ⟨p, c, x, d, _, _, _, rfl, _⟩ := h
    rfl
  · obtain ⟨p, c, x, d, qq, n, b, rfl, hd, hg, q⟩ := h
    refine ⟨_, (pss_cons (ps_if (PW.pt (pw_or (pt_not (pt_val (pe_callB call_isi (by rfl) B.n_isinstance (by decide +kernel) (pa_cons (pv 0) (pa_cons (pe_bltn (v := .ty "str") (by rfl) B.n_str (by decide +kernel) rfl) pa_nil))))) (pw_or1 (pt_not (pt_chain op_le op_le pe_int (pe_callB call_len_str (by rfl) B.n_len PySem.boot_len (pa_cons (pv 0) pa_nil)) (pe_glob (v := .int 10) rfl B.g_WORD_MOST ⟨_, rfl⟩))))))
      (pss_one (ps_ret pe_bl))
      pss_nil)
      (pss_one (ps_ret (pe_and (pe_m0 PySem.F.slot_str_isascii PySem.F.type_str_isascii mt_isascii (pv 0)) (pe_and (pe_m0 PySem.F.slot_str_isalpha PySem.F.type_str_isalpha mt_isalpha (pv 0)) (pe_one (pe_m0 PySem.F.slot_str_islower PySem.F.type_str_islower mt_islower (pv 0)))))))), ?_⟩
    refine ⟨_, rfl, x, .ty "str", _, _, _, rfl, .ty "str", hd.tyx, isi_S d, _, rfl, ?_⟩
    cases hd with
    | str x =>
      obtain ⟨h1, h2⟩ := hg.strlen
      have hx : x = S x.cps.toList := rfl
      generalize x.cps.toList = l at h1 h2 hx q
      subst hx
      refine iteF ?_
      refine ⟨.str (S l), rfl, S l, rfl, sz (by rw [S_len]; omega), _, _, rfl, rfl, _, rfl, ?_⟩
      rw [S_len]
      have q : Q (.bl (wordL l)) H := q
      unfold wordL at q
      have e1 : decide ((1 : Int) ≤ (l.length : Int)) = decide (1 ≤ l.length) := by
        rw [Bool.eq_iff_iff, decide_eq_true_eq, decide_eq_true_eq]
        omega
      have e2 : decide ((l.length : Int) ≤ 10) = decide (l.length ≤ 10) := by
        rw [Bool.eq_iff_iff, decide_eq_true_eq, decide_eq_true_eq]
        omega
      rw [e1]
      cases h3 : decide (1 ≤ l.length) with
      | false =>
        rw [h3, Bool.false_and, Bool.false_and] at q
        exact iteF ⟨_, rfl, iteT q⟩
      | true =>
        rw [h3, Bool.true_and] at q
        refine iteT ?_
        refine ⟨_, _, rfl, rfl, _, rfl, ?_⟩
        rw [e2]
        cases h4 : decide (l.length ≤ 10) with
        | false =>
          rw [h4, Bool.false_and] at q
          exact iteT q
        | true =>
          rw [h4, Bool.true_and] at q
          refine iteF ?_
          have hne : l ≠ [] := by
            rintro rfl
            exact absurd h3 (by decide)
          rw [← word_of h1 hne] at q
          refine ⟨.str (S l), rfl, ⟨_, rfl⟩, S l, rfl, rfl, trivial, _, rfl, ?_⟩
          rw [ascii_S, h1]
          refine iteT ?_
          refine ⟨.str (S l), rfl, ⟨_, rfl⟩, S l, rfl, rfl, trivial, _, rfl, ?_⟩
          refine ite2 (fun h5 => ?_) (fun h5 => ?_)
          · rw [h5, Bool.true_and] at q
            exact ⟨.str (S l), rfl, ⟨_, rfl⟩, S l, rfl, rfl, trivial, q⟩
          · rw [Bool.eq_false_iff.mpr h5, Bool.false_and] at q
            exact q
    | _ => exact iteT (iteT q)
def spShareG : Sp := fun vs H Q _ => ∃ p c v d q n b, vs = [v] ∧ Dg p c H v d ∧ Gd q d n b ∧ Q (.bl (shareB d)) H
theorem ok_shareG {f f1 f2 : Addr} {fd fd1 fd2 : FuncData} (F : Fn K mg "is_share" s_is_share ["thing"] f fd) (B : Con mg tw tp tg) (F_is_word : Fn K mg "is_word" s_is_word ["thing"] f1 fd1) (F_is_integer : Fn K mg "is_integer" s_is_integer ["thing"] f2 fd2) : FnOk P w K mg base CX0 2 f fd ["thing"] spShareG := by
  have G_is_word : FnOk P w K mg base CX0 1 f1 fd1 ["thing"] spWordG := ok_wordG F_is_word B
  have G_is_integer : FnOk P w K mg base CX0 1 f2 fd2 ["thing"] spIntG := ok_intG F_is_integer B
  refine F.F.ok sc_is_share (fun vs H Q E h => ?_) (fun cdv A outer s H vs Q E hr h => ?_)
  · obtain ⟨p, c, v, d, _, _, _, rfl, _⟩ := h
    rfl
  · obtain ⟨p, c, v, d, qq, n, b, rfl, hd, hg, q⟩ := h
    refine ⟨_, (pss_cons (ps_if (PW.pt (pw_or (pt_not (pt_val (pe_callB call_isi (by rfl) B.n_isinstance (by decide +kernel) (pa_cons (pv 0) (pa_cons (pe_bltn (v := .ty "tuple") (by rfl) B.n_tuple (by decide +kernel) rfl) pa_nil))))) (pw_or1 (pt_cmpR op_ne (pe_callB call_len_seq (by rfl) B.n_len PySem.boot_len (pa_cons (pv 0) pa_nil)) pe_int (nomark _)))))
      (pss_one (ps_ret pe_bl))
      pss_nil)
      (pss_cons (ps_asg (pv 0) (pg_tup rfl (pgs_cons (pg_name (i := 1) sc_is_share.nd rfl (Or.inl rfl)) (pgs_cons (pg_name (i := 2) sc_is_share.nd rfl (Or.inl rfl)) pgs_nil))))
      (pss_one (ps_ret (pe_and (pe_call G_is_word (hr.mono (by decide)) (by rfl) F_is_word.g F_is_word.F.kp F_is_word.b .nil pass0 (pa_cons (pv 1) pa_nil)) (pe_and (pe_call G_is_integer (hr.mono (by decide)) (by rfl) F_is_integer.g F_is_integer.F.kp F_is_integer.b .nil pass0 (pa_cons (pv 2) pa_nil)) (pe_one (pe_chain op_le op_le pe_int (pv 2) (pe_glob (v := .int 100) rfl B.g_WEIGHT_MOST ⟨_, rfl⟩))))))))), ?_⟩
    refine ⟨v, rfl, v, .ty "tuple", _, _, _, rfl, .ty "tuple", hd.tyx, isi_T d, _, rfl, ?_⟩
    cases hd with
    | tup a da =>
      rename_i t xs ds
      refine iteF ?_
      refine ⟨_, rfl, t, _, rfl, .inr (SqT.of a.2.2), rfl, _, rfl, ?_⟩
      have hl := da.len
      by_cases h2 : xs.length = 2
      · rw [h2, show decide (V.int ((2 : Nat) : Int) = V.int 2) = true from decide_eq_true rfl]
        refine iteF ?_
        cases da with
        | nil => cases h2
        | @cons v1 vs1 e1 ds1 d1 da =>
          cases da with
          | nil => cases h2
          | @cons v2 vs2 e2 ds2 d2 da =>
            cases da with
            | cons d3 da => simp at h2
            | nil =>
              obtain ⟨hg2, _⟩ := hg.untup
              obtain ⟨g1, hg2⟩ := hg2.hd
              obtain ⟨g2, _⟩ := hg2.hd
              refine ⟨_, rfl, t, _, rfl, SqT.of a.2.2, rfl, _, _, rfl, _, _, rfl, rfl, ?_⟩
              have q : Q (.bl (wordB e1 && wholeB 1 100 e2)) H := q
              refine ⟨_, rfl, p, c, v1, e1, _, _, _, rfl, d1, g1, _, rfl, ?_⟩
              cases hw : wordB e1 with
              | false =>
                rw [hw, Bool.false_and] at q
                exact iteF q
              | true =>
                rw [hw, Bool.true_and] at q
                refine iteT ⟨_, rfl, p, c, v2, e2, rfl, d2, _, rfl, ?_⟩
                cases d2 with
                | int i =>
                  refine iteT ⟨_, rfl, _, _, rfl, rfl, _, rfl, ?_⟩
                  have q : Q (.bl (decide ((1 : Int) ≤ i) && decide (i ≤ 100))) H := q
                  refine ite2 (fun h1 => ?_) (fun h1 => ?_)
                  · rw [h1, Bool.true_and] at q
                    exact ⟨_, _, rfl, rfl, q⟩
                  · rw [Bool.eq_false_iff.mpr h1, Bool.false_and] at q
                    exact q
                | _ => exact iteF q
      · rw [show decide (V.int ((xs.length : Nat) : Int) = V.int 2) = false from decide_eq_false fun z => h2 (by have := V.int.inj z; omega)]
        refine iteT ?_
        have e : shareB (.tuple ds) = false := by
          match ds, hl with
          | [], _ => rfl
          | [_], _ => rfl
          | [_, _], hl => exact absurd hl h2
          | _ :: _ :: _ :: _, _ => rfl
        rw [e] at q
        exact q
    | _ => exact iteT (iteT q)
def spPoolG : Sp := fun vs H Q _ => ∃ p c v d q n b, vs = [v] ∧ Dg p c H v d ∧ Gd q d n b ∧ ∀ H', Same H H' → Q (.bl (poolB d)) H'
theorem labs_map (ds : List PyData) : (List.range ds.length).map (fun i => V.str (labD ((ds[i]?).getD .none))) = (ds.map labD).map V.str := by
  rw [map_at ds fun o => V.str (labD (o.getD .none)), List.map_map]
  rfl
theorem ok_poolG {f f1 : Addr} {fd fd1 : FuncData} (F : Fn K mg "is_pool" s_is_pool ["thing"] f fd) (B : Con mg tw tp tg) (F_is_share : Fn K mg "is_share" s_is_share ["thing"] f1 fd1) (G_is_share : FnOk P w K mg base CX0 2 f1 fd1 ["thing"] spShareG) : FnOk P w K mg base CX0 3 f fd ["thing"] spPoolG := by
  refine F.F.ok sc_is_pool (fun vs H Q E h => ?_) (fun cdv A outer s H vs Q E hr h => ?_)
  · obtain ⟨p, c, v, d, _, _, _, rfl, _⟩ := h
    rfl
  · obtain ⟨p, c, v, d, qq, n, b, rfl, hd, hg, q⟩ := h
    refine ⟨_, (pss_cons (ps_if (PW.pt (pw_or (pt_not (pt_val (pe_callB call_isi (by rfl) B.n_isinstance (by decide +kernel) (pa_cons (pv 0) (pa_cons (pe_bltn (v := .ty "tuple") (by rfl) B.n_tuple (by decide +kernel) rfl) pa_nil))))) (pw_or1 (pt_not (pt_chain op_le op_le pe_int (pe_callB call_len_seq (by rfl) B.n_len PySem.boot_len (pa_cons (pv 0) pa_nil)) (pe_glob (v := .int 8) rfl B.g_POOL_MOST ⟨_, rfl⟩))))))
      (pss_one (ps_ret pe_bl))
      pss_nil)
      (pss_cons (ps_if (pt_not (pt_val (pe_callB (cr_all rfl) (by rfl) B.n_all (by decide +kernel) (pa_cons (pe_lc (own := [("pair", 1)]) rfl sc_is_pool.nd (pi_tup (pv 0)) (blkOk_by (N := N_is_pool) (sc := defScope s_is_pool) (by decide +kernel)) (fun _ _ _ _ _ => (pg_name (i := 1) sc_is_pool.nd rfl (Or.inl rfl))) (fun _ _ _ _ _ => pts_nil) (fun _ _ _ _ _ => (pe_call G_is_share (hr.mono (by decide)) (by rfl) F_is_share.g F_is_share.F.kp F_is_share.b .nil pass0 (pa_cons (pv 1) pa_nil)))) pa_nil))))
      (pss_one (ps_ret pe_bl))
      pss_nil)
      (pss_one (ps_ret (pe_cmpR op_eq (pe_callB cr_lenSetD (by rfl) B.n_len PySem.boot_len (pa_cons (pe_callTy (cr_setD rfl) (by rfl) B.n_set (by decide +kernel) (pa_cons (pe_lc (own := [("pair", 1)]) rfl sc_is_pool.nd (pi_tup (pv 0)) (blkOk_by (N := N_is_pool) (sc := defScope s_is_pool) (by decide +kernel)) (fun _ _ _ _ _ => (pg_name (i := 1) sc_is_pool.nd rfl (Or.inl rfl))) (fun _ _ _ _ _ => pts_nil) (fun _ _ _ _ _ => (pe_ix (ix_tupK K rfl) (pv 1) pe_int (fun _ _ => rfl)))) pa_nil)) pa_nil)) (pe_callB call_len_seq (by rfl) B.n_len PySem.boot_len (pa_cons (pv 0) pa_nil)) (nomark _)))))), ?_⟩
    refine ⟨v, rfl, v, .ty "tuple", _, _, _, rfl, .ty "tuple", hd.tyx, isi_T d, _, rfl, ?_⟩
    cases hd with
    | tup a da =>
      rename_i t xs ds
      have hl := da.len
      obtain ⟨hg2, l60⟩ := hg.untup
      have q : ∀ H', Same H H' → Q (.bl (((decide (1 ≤ ds.length) && decide (ds.length ≤ 8)) && ds.all shareB) && decide ((ds.map labD).Nodup))) H' := q
      refine iteF ⟨_, rfl, t, _, rfl, .inr (SqT.of a.2.2), _, _, rfl, rfl, _, rfl, ?_⟩
      rw [hl]
      by_cases h1 : ¬ 1 ≤ ds.length
      · rw [decide_eq_false h1, Bool.false_and, Bool.false_and, Bool.false_and] at q
        rw [decide_eq_false (by omega : ¬ (1 : Int) ≤ (ds.length : Int))]
        exact iteF ⟨_, rfl, iteT (q _ (Same.refl _))⟩
      have h1 := Decidable.not_not.mp h1
      rw [decide_eq_true (by omega : (1 : Int) ≤ (ds.length : Int))]
      refine iteT ⟨_, _, rfl, rfl, _, rfl, ?_⟩
      by_cases h8 : ¬ ds.length ≤ 8
      · rw [decide_eq_true h1, decide_eq_false h8, Bool.and_false, Bool.false_and, Bool.false_and] at q
        refine (show (if (!decide (((ds.length : Nat) : Int) ≤ 8)) = true then _ else _) from ?_)
        rw [decide_eq_false (by omega : ¬ ((ds.length : Nat) : Int) ≤ 8)]
        exact iteT (q _ (Same.refl _))
      have h8 := Decidable.not_not.mp h8
      refine (show (if (!decide (((ds.length : Nat) : Int) ≤ 8)) = true then _ else _) from ?_)
      rw [decide_eq_true (by omega : ((ds.length : Nat) : Int) ≤ 8)]
      rw [decide_eq_true h1, decide_eq_true h8, Bool.true_and, Bool.true_and] at q
      refine iteF ⟨_, rfl, t, rfl, ⟨_, SqT.of a.2.2⟩, fun D hD => ?_⟩
      refine lc_sel (walk_tup (K := K) (a := t) (xs := xs)) (fun _ => true) (fun i => .bl (shareB ((ds[i]?).getD .none))) (by omega) hD (fun H' s => SqT.of (s _ _ a.2.2)) ?_ ?_
      · rintro j y H1 H2 k k0 hi s1 ⟨rfl, hy⟩ hk _
        obtain ⟨d', hd', dd⟩ := da.at_ hy
        have hk := hk rfl _ (Same.refl _)
        rw [hd'] at hk
        exact ⟨rfl, _, rfl, p, c, y, d', _, _, _, rfl, dd.to (Kp.same s1), hg2.mem d' (List.mem_of_getElem? hd'), hk⟩
      · intro H1 s1 h1'
        rw [filt_all, bls_map] at h1'
        refine ⟨D, _, rfl, SqL.of h1', _, rfl, ?_⟩
        have eall : ((List.range xs.length).map fun i => shareB ((ds[i]?).getD .none)).all id = ds.all shareB := by
          rw [hl, map_at ds fun o => shareB (o.getD .none)]
          simp [List.all_map]
        rw [eall]
        cases hall : ds.all shareB with
        | false =>
          rw [hall, Bool.false_and] at q
          exact iteT (q _ s1)
        | true =>
          rw [hall, Bool.true_and] at q
          refine iteF ⟨_, rfl, t, rfl, ⟨_, SqT.of (s1 _ _ a.2.2)⟩, fun D2 hD2 => ?_⟩
          refine lc_sel (walk_tup (K := K) (a := t) (xs := xs)) (fun _ => true) (fun i => .str (labD ((ds[i]?).getD .none))) (by omega) hD2 (fun H' s => SqT.of (s _ _ (s1 _ _ a.2.2))) ?_ ?_
          · rintro j y H3 H4 k k0 hi s2 ⟨rfl, hy⟩ hk _
            obtain ⟨d', hd', dd⟩ := da.at_ hy
            have hk := hk rfl _ (Same.refl _)
            rw [hd'] at hk
            obtain ⟨t', x, w', rfl, ht', ex⟩ := share_of (dd.to (Kp.same (s1.trans s2))) (List.all_eq_true.mp hall d' (List.mem_of_getElem? hd'))
            have hk : k (V.str (labD d')) _ := hk
            rw [ex] at hk
            exact ⟨rfl, _, rfl, t', _, _, _, rfl, rfl, SqT.of ht', rfl, hk⟩
          · intro H3 s3 h3
            rw [filt_all, hl, labs_map] at h3
            have s13 := s1.trans s3
            refine ⟨D2, _, rfl, SqL.of h3, by rw [List.length_map]; omega, fun R hR => ⟨R, _, rfl, upd_same, by rw [List.length_map]; omega, ?_⟩⟩
            have s4 := s13.trans (same_new (o := SetDO P w R (ds.map labD)) hR)
            refine ⟨_, rfl, t, _, rfl, .inr (SqT.of (s4 _ _ a.2.2)), rfl, ?_⟩
            have full := dnT_full (ds.map labD) _ (Nat.le_refl _)
            rw [List.take_length] at full
            have eb : decide (V.int (dnT (ds.map labD) (ds.map labD).length : Nat) = V.int (xs.length : Nat)) = decide ((ds.map labD).Nodup) := by
              rw [Bool.eq_iff_iff, decide_eq_true_eq, decide_eq_true_eq, ← full, hl]
              rw [List.length_map]
              exact ⟨fun z => by have := V.int.inj z; omega, fun z => by rw [z]⟩
            exact (show Q (.bl (decide (V.int (dnT (ds.map labD) (ds.map labD).length : Nat) = V.int (xs.length : Nat)))) _ by rw [eb]; exact q _ s4)
    | _ => exact iteT (iteT (q _ (Same.refl _)))
end
end Ag

end
/-! ## T5 -/
section
set_option linter.all false
set_option maxRecDepth 100000
set_option maxHeartbeats 4000000
namespace Ag
open PySem PySem.Spec PyProof.Rows L2
open SX (S S_len S_cat S_inj)
/-! ### the deck of draws -/
def kC : Key := Sum.inr (Str.ofString "left")
def kM : Key := Sum.inr (Str.ofString "mixed")
def kT : Key := Sum.inr (Str.ofString "draws")
def dkL (c : Addr) (m t : Int) : List (Key × V) := [(kC, .ref c), (kM, .int m), (kT, .int t)]
theorem nCM : ¬ kC = kM := by decide +kernel
theorem nCT : ¬ kC = kT := by decide +kernel
theorem nMT : ¬ kM = kT := by decide +kernel
section
variable {c : Addr} {m t u : Int}
theorem v_C : valV (dkL c m t) kC = some (.ref c) := valV_pos rfl
theorem v_M : valV (dkL c m t) kM = some (.int m) := (valV_neg nCM).trans (valV_pos rfl)
theorem v_T : valV (dkL c m t) kT = some (.int t) := (valV_neg nCT).trans ((valV_neg nMT).trans (valV_pos rfl))
theorem put_T : putK (dkL c m t) kT (.int u) = dkL c m u := by
  unfold putK dkL
  simp [nCT, nMT]
theorem merge_d : mergeK [] (dkL c m t) = dkL c m t := by
  unfold mergeK dkL putK
  simp [nCM, nCT, nMT]
end
/-- a deck stands at p, its cells at c -/
def Dk (p c : Addr) (H : Hp) : Prop := ∃ (m t : Int) (cs : List Int), H p = some (.dK (dkL c m t)) ∧ H c = some (.lst (cs.map V.int)) ∧ cs.length ≤ 63
/-- all but the deck is as it was, and the deck is one -/
def Gx (p c : Addr) (H H' : Hp) : Prop := (∀ b o, b ≠ p → b ≠ c → H b = some o → H' b = some o) ∧ Dk p c H'
theorem Gx.refl {p c : Addr} {H : Hp} (d : Dk p c H) : Gx p c H H := ⟨fun _ _ _ _ e => e, d⟩
theorem Gx.trans {p c : Addr} {H H1 H2 : Hp} (a : Gx p c H H1) (b : Gx p c H1 H2) : Gx p c H H2 := ⟨fun x o h1 h2 e => b.1 x o h1 h2 (a.1 x o h1 h2 e), b.2⟩
theorem Dk.same {p c : Addr} {H H' : Hp} (d : Dk p c H) (s : Same H H') : Dk p c H' := by
  obtain ⟨m, t, cs, h1, h2, h3⟩ := d
  exact ⟨m, t, cs, s _ _ h1, s _ _ h2, h3⟩
theorem Gx.same {p c : Addr} {H H' : Hp} (d : Dk p c H) (s : Same H H') : Gx p c H H' := ⟨fun b o _ _ e => s b o e, d.same s⟩
theorem Dk.ne {p c q : Addr} {H : Hp} (d : Dk p c H) (h : H q = none) : q ≠ p ∧ q ≠ c := by
  obtain ⟨m, t, cs, h1, h2, _⟩ := d
  exact ⟨(ne_of_none h1 h).symm, (ne_of_none h2 h).symm⟩
theorem Gx.free {p c q : Addr} {H H' : Hp} (g : Gx p c H H') (d : Dk p c H) (h : H' q = none) : H q = none := by
  cases e : H q with
  | none => rfl
  | some o =>
    have n := g.2.ne h
    have := g.1 q o n.1 n.2 e
    rw [h] at this
    cases this
theorem At.gx {p c a : Addr} {H H' : Hp} {o : HO} (h : At p c H a o) (g : Gx p c H H') : At p c H' a o := ⟨h.1, h.2.1, g.1 a o h.1 h.2.1 h.2.2⟩
theorem At.new {p c a : Addr} {H : Hp} {o : HO} (d : Dk p c H) (h : H a = none) : At p c (upd H a o) a o := ⟨(d.ne h).1, (d.ne h).2, upd_same⟩
theorem Gx.new {p c a : Addr} {H : Hp} {o : HO} (d : Dk p c H) (h : H a = none) : Gx p c H (upd H a o) := Gx.same d (same_new h)
/-- a list's own change -/
theorem Gx.put {p c a : Addr} {H H' : Hp} {o : HO} (g : Gx p c H H') (d : Dk p c H) (h : H a = none) (n : a ≠ p ∧ a ≠ c) : Gx p c H (upd H' a o) := by
  refine ⟨fun b u h1 h2 e => ?_, ?_⟩
  · rw [upd_ne (ne_of_none e h)]
    exact g.1 b u h1 h2 e
  · obtain ⟨m, t, cs, h1, h2, h3⟩ := g.2
    exact ⟨m, t, cs, by rw [upd_ne n.1.symm]; exact h1, by rw [upd_ne n.2.symm]; exact h2, h3⟩
theorem cutV63 {ns : List Int} (h : ns.length ≤ 63) : cutV (ns.map V.int) none (some 63) = ns.map V.int := by
  unfold cutV
  rw [HT.sIx_none, show HT.sIx (ns.map V.int).length (ns.map V.int).length (some 63) = min 63 (ns.map V.int).length from HT.sIx_nat _ _ 63, List.drop_zero, List.take_of_length_le]
  rw [List.length_map]
  omega
section
variable {P : Program} {w : World} {K : PySem.W.Frag} {mg : Str → Option Value} {base : Heap} 
def spDeck (K : PySem.W.Frag) : Sp := fun vs H Q _ => ∃ (a : Addr) (ns : List Int), vs = [.ref a] ∧ SqL K H a (ns.map V.int) ∧ ns.length ≤ 63 ∧ ∀ p c H', H p = none → H c = none → Same H H' → Dk p c H' → Q (.ref p) H'
theorem ints_all {ns : List Int} {xs : List V} (hl : xs.length = ns.length) (h : ∀ (i : Nat) (y : V), xs[i]? = some y → ∃ z, ns[i]? = some z ∧ y = V.int z) : xs = ns.map V.int := by
  refine List.ext_getElem? fun i => ?_
  rw [List.getElem?_map]
  cases e : xs[i]? with
  | none =>
    have h1 := List.getElem?_eq_none_iff.mp e
    have h2 : ns[i]? = none := List.getElem?_eq_none_iff.mpr (by omega)
    rw [h2]
    rfl
  | some y =>
    obtain ⟨z, hz, rfl⟩ := h i y e
    rw [hz]
    rfl
theorem int_at {ns : List Int} {i : Nat} {x : V} (h : (ns.map V.int)[i]? = some x) : ∃ z, ns[i]? = some z ∧ x = V.int z := by
  rw [List.getElem?_map] at h
  cases e : ns[i]? with
  | none => rw [e] at h; cases h
  | some z =>
    rw [e] at h
    exact ⟨z, rfl, (Option.some.inj h).symm⟩
theorem ok_deck {f : Addr} {fd : FuncData} (F : Fn K mg "_law_dealt" s__law_dealt ["_law_script"] f fd) (B : Blt mg) : FnOk P w K mg base CX0 1 f fd ["_law_script"] (spDeck K) := by
  refine F.F.ok sc__law_dealt (fun vs H Q E h => ?_) (fun cdv A outer s H vs Q E hr h => ?_)
  · obtain ⟨a, ns, rfl, _⟩ := h
    rfl
  · obtain ⟨a, ns, rfl, hS, hlen, q⟩ := h
    refine ⟨_, (pss_cons (ps_set (i := 1) sc__law_dealt.nd rfl (.inl rfl) pe_int)
      (pss_cons (ps_for PassesOwn.never rfl (pi_list (pe_slice sl_list (pv 0) po_none (po_some pe_int))) (pg_name (i := 2) sc__law_dealt.nd rfl (Or.inl rfl))
      (pss_one (ps_set (i := 1) sc__law_dealt.nd rfl (.inl rfl) (pe_op op_mod (pe_callTy call_int1 (by rfl) B.n_int (by decide +kernel) (pa_cons (pe_op op_add (pe_op op_add (pe_op op_mul (pv 1) pe_int) (pe_op op_mod (pe_callTy call_int1 (by rfl) B.n_int (by decide +kernel) (pa_cons (pv 2) pa_nil)) pe_int)) pe_int) pa_nil)) pe_int))))
      (pss_one (ps_ret (pe_disp (pps_cons pe_str (pe_revL (pe_callTy call_list_of (by rfl) B.n_list (by decide +kernel) (pa_cons (pe_slice sl_list (pv 0) po_none (po_some pe_int)) pa_nil))) (pps_cons pe_str (pv 1) (pps_cons pe_str pe_int pps_nil))) (by rfl) (by rfl) (fun z => by cases z) (by decide)))))), ?_⟩
    have c63 := cutV63 hlen
    -- the mixed number
    refine ⟨_, rfl, 63, rfl, a, _, rfl, hS, fun u hu => ?_⟩
    rw [c63]
    refine ⟨u, rfl, ⟨_, SqL.of upd_same⟩, ?_⟩
    refine for_list (K := K) (a := u) (xs := ns.map V.int) (fun i σ H2 => ∃ (m : Int) (x : Option V), σ = [some (.ref a), some (.int m), x] ∧ Same H H2 ∧ H2 u = some (.lst (ns.map V.int))) ⟨_, none, rfl, same_new hu, upd_same⟩ (fun i σ H2 _ z => ?_) ?_ ?_
    · obtain ⟨_, _, _, _, e⟩ := z
      exact SqL.of e
    · rintro i x σ H2 hx ⟨m, y, rfl, sm, e⟩
      obtain ⟨z, _, rfl⟩ := int_at hx
      refine ⟨_, rfl, _, _, rfl, rfl, .inr ⟨by decide, by decide⟩, ?_⟩
      refine ⟨_, rfl, .inl ⟨z, rfl, _, _, rfl, rfl, (by show (0 : Int) < 2147483563; decide), _, _, rfl, rfl, _, _, rfl, rfl, .inl ⟨_, rfl, _, _, rfl, rfl, (by show (0 : Int) < 2147483629; decide), ?_⟩⟩⟩
      exact ⟨_, _, rfl, sm, e⟩
    · rintro σ H2 ⟨m, x, rfl, sm, e⟩
      -- the dict
      intro p hp
      have nHp : H p = none := sm.free hp
      have sm2 : Same H (upd H2 p (.dK [])) := sm.trans (same_new hp)
      refine ⟨_, rfl, 63, rfl, a, _, rfl, sm2.seq hS, fun v hv => ?_⟩
      rw [c63]
      have npv : p ≠ v := fun z => by rw [← z, upd_same] at hv; cases hv
      have sm3 := sm2.trans (same_new (o := .lst (ns.map V.int)) hv)
      have p3 : upd (upd H2 p (.dK [])) v (.lst (ns.map V.int)) p = some (.dK []) := by rw [upd_ne npv, upd_same]
      refine ⟨v, _, rfl, .inl (SqL.of upd_same), fun D hD => ?_⟩
      generalize upd (upd H2 p (.dK [])) v (.lst (ns.map V.int)) = H3 at sm3 p3 hD ⊢
      have nDp : p ≠ D := ne_of_none p3 hD
      refine ⟨D, _, rfl, SqL.of upd_same, fun R hR => ?_⟩
      have sm4 := sm3.trans (same_new (o := .lst (ns.map V.int)) hD)
      have p4 : upd H3 D (.lst (ns.map V.int)) p = some (.dK []) := by rw [upd_ne nDp]; exact p3
      generalize upd H3 D (.lst (ns.map V.int)) = H4 at sm4 p4 hR ⊢
      have hRp : p ≠ R := ne_of_none p4 hR
      refine ⟨_, rfl, ?_⟩
      refine ⟨by rw [upd_ne hRp]; exact p4, dkL R m 0, rfl, by show 3 ≤ 15; decide, ?_⟩
      rw [merge_d]
      have nR : H R = none := sm4.free hR
      refine q p R _ nHp nR (fun b o e => ?_) ⟨m, 0, ns.reverse, upd_same, ?_, by rw [List.length_reverse]; exact hlen⟩
      · rw [upd_ne (ne_of_none e nHp), upd_ne (ne_of_none e nR)]
        exact sm4 b o e
      · rw [upd_ne hRp.symm, upd_same, List.map_reverse]
end
theorem dpIntsG {K : PySem.W.Frag} {H : Hp} : ∀ cs : List Int, DpAll K H (cs.map V.int) (cs.map PyData.int)
  | [] => .nil
  | c :: cs => .cons (.int c) (dpIntsG cs)
theorem lay_ints : ∀ cs : List Int, PyData.canLayAll0 (cs.map PyData.int) = true
  | [] => by simp [PyData.canLayAll0]
  | c :: cs => by simp [PyData.canLayAll0, PyData.canLay0, lay_ints cs]
theorem depth_ints : ∀ cs : List Int, PyData.depthAll (cs.map PyData.int) = 0
  | [] => by simp [PyData.depthAll]
  | c :: cs => by simp [PyData.depthAll, PyData.depth, depth_ints cs]
theorem shaped_ints (cs : List Int) : SeqAt.shaped (.list (cs.map PyData.int)) = true := by
  simp [SeqAt.shaped, PyData.canLay0, PyData.depth, lay_ints, depth_ints]
theorem dget {H : Hp} {a : Addr} {kvs : List (Key × V)} {k : Key} {v : V} (e : H a = some (.dK kvs)) (h : valV kvs k = some v) : DGet H a (kV k) (some v) := h ▸ DGet.k e
theorem ne_nil_ints (cs : List Int) : (!PyData.eqv (.list (cs.map PyData.int)) (.list [])) = decide (cs ≠ []) := by
  cases cs <;> simp [PyData.eqv, PyData.eqvAll]
section
variable {P : Program} {w : World} {K : PySem.W.Frag} {mg : Str → Option Value} {base : Heap} 
def spDraw : Sp := fun vs H Q _ => ∃ (p c : Addr) (n : Int), vs = [.ref p, .int n] ∧ Dk p c H ∧ 1 ≤ n ∧ n ≤ 1000000000 ∧ ∀ (r : Nat) H', (r : Int) < n → Gx p c H H' → Q (.int (r : Int)) H'
theorem nat_mod {x n : Int} (h : 1 ≤ n) : ∃ r : Nat, x % n = (r : Int) ∧ (r : Int) < n := by
  refine ⟨(x % n).toNat, ?_, ?_⟩
  · have := Int.emod_nonneg x (by omega : n ≠ 0)
    omega
  · have h1 := Int.emod_nonneg x (by omega : n ≠ 0)
    have h2 := Int.emod_lt_of_pos x (by omega : 0 < n)
    omega
theorem ok_draw {f : Addr} {fd : FuncData} (F : Fn K mg "_law_draw" s__law_draw ["_law_deck", "_law_many"] f fd) (B : Blt mg) : FnOk P w K mg base CX0 1 f fd ["_law_deck", "_law_many"] spDraw := by
  refine F.F.ok sc__law_draw (fun vs H Q E h => ?_) (fun cdv A outer s H vs Q E hr h => ?_)
  · obtain ⟨p, c, n, rfl, _⟩ := h
    rfl
  · obtain ⟨p, c, n, rfl, dk, n1, n2, q⟩ := h
    have hu := hu_of hr
    refine ⟨_, (pss_cons (ps_dput hu (pv 0) pe_str (pe_op op_add (pe_dget hu (pv 0) pe_str (fun _ _ => rfl)) pe_int) rfl)
      (pss_cons (ps_set (i := 2) sc__law_draw.nd rfl (.inl rfl) (pe_op op_add (pe_dget hu (pv 0) pe_str (fun _ _ => rfl)) (pe_op op_mul pe_int (pe_dget hu (pv 0) pe_str (fun _ _ => rfl)))))
      (C8.pss_cut (ps_if (pt_cmpR (op_neD hr.units) (pe_dget hu (pv 0) pe_str (fun _ _ => rfl)) (pe_lst pa_nil) (nomark _))
      (pss_cons (ps_set (i := 3) sc__law_draw.nd rfl (.inl rfl) (pe_bm0 PySem.F.plainAttrs_list PySem.F.slot_list_pop PySem.F.type_list_pop mt_pop (pe_dget hu (pv 0) pe_str (fun _ _ => rfl))))
        (pss_cons (ps_if (pt_cmpR op_ge (pv 3) (pe_op op_pow pe_int pe_int) (nomark _))
        (pss_cons (ps_expr (pe_bm PySem.F.plainAttrs_list PySem.F.slot_list_append PySem.F.type_list_append mt_append (pe_dget hu (pv 0) pe_str (fun _ _ => rfl)) (pa_cons (pe_op op_fdiv (pv 3) (pe_callB (call_max2 rfl) (by rfl) B.n_max (by decide +kernel) (pa_cons pe_int (pa_cons (pv 1) pa_nil)))) pa_nil)))
          (pss_one (ps_ret (pe_op op_mod (pe_callTy call_int1 (by rfl) B.n_int (by decide +kernel) (pa_cons (pv 3) pa_nil)) (pv 1)))))
        pss_nil)
        (pss_one (ps_set (i := 2) sc__law_draw.nd rfl (.inl rfl) (pe_op op_add (pv 2) (pe_op op_mod (pe_callTy call_int1 (by rfl) B.n_int (by decide +kernel) (pa_cons (pv 3) pa_nil)) pe_int))))))
      pss_nil)
      (pss_cons (ps_set (i := 2) sc__law_draw.nd rfl (.inl rfl) (pe_op op_mod (pe_callTy call_int1 (by rfl) B.n_int (by decide +kernel) (pa_cons (pe_op op_add (pe_op op_mul (pv 2) pe_int) pe_int) pa_nil)) pe_int))
      (pss_cons (ps_set (i := 2) sc__law_draw.nd rfl (.inl rfl) (pe_op op_mod (pe_callTy call_int1 (by rfl) B.n_int (by decide +kernel) (pa_cons (pe_op op_add (pe_op op_add (pe_op op_mul (pv 2) (pv 2)) (pe_op op_mul pe_int (pe_dget hu (pv 0) pe_str (fun _ _ => rfl)))) pe_int) pa_nil)) pe_int))
      (pss_one (ps_ret (pe_op op_mod (pe_callTy call_int1 (by rfl) B.n_int (by decide +kernel) (pa_cons (pe_op op_fdiv (pe_op op_mod (pe_callTy call_int1 (by rfl) B.n_int (by decide +kernel) (pa_cons (pe_op op_mul (pv 2) pe_int) pa_nil)) pe_int) pe_int) pa_nil)) (pv 1))))))))), ?_⟩
    obtain ⟨m, t, cs, h1, h2, h3⟩ := id dk
    have fin : ∀ (x : Int) (H2 : Hp), Gx p c H H2 → Q (.int (x % n)) H2 := by
      intro x H2 g
      obtain ⟨r, er, hr'⟩ := nat_mod (x := x) n1
      rw [er]
      exact q r H2 hr' g
    have npc : p ≠ c := ne_of h1 h2 (by intro z; cases z)
    -- turn
    refine ⟨_, rfl, p, _, rfl, dget (k := kT) h1 v_T, _, _, rfl, rfl, _, rfl, p, _, rfl, DPut.k (k := kT) h1 (by rw [sizeLine_eq]; show 3 < _; decide), ?_⟩
    rw [put_T]
    have g1 : Gx p c H (upd H p (.dK (dkL c m (t + 1)))) := ⟨fun b o b1 _ e => by rw [upd_ne b1]; exact e, ⟨m, t + 1, cs, upd_same, by rw [upd_ne npc.symm]; exact h2, h3⟩⟩
    generalize upd H p (.dK (dkL c m (t + 1))) = H1 at g1
    obtain ⟨m1, t1, cs1, k1, k2, k3⟩ := g1.2
    -- the figure
    refine ⟨_, rfl, p, _, rfl, dget (k := kM) k1 v_M, _, rfl, p, _, rfl, dget (k := kT) k1 v_T, _, _, rfl, rfl, .inl ⟨by decide, by decide⟩, _, _, rfl, rfl, ?_⟩
    refine ⟨fun σ H' => ∃ (fig : Int) (x3 : Option V), σ = [some (.ref p), some (.int n), some (.int fig), x3] ∧ Gx p c H H', ?_, ?_⟩
    · refine ⟨_, rfl, p, _, rfl, dget (k := kC) k1 v_C, Nat.zero_le _, fun z hz => ?_⟩
      have dk1 : Dk p c H1 := g1.2
      have nz := dk1.ne hz
      have k1' : upd H1 z (.lst []) p = some (.dK (dkL c m1 t1)) := by rw [upd_ne nz.1.symm]; exact k1
      have k2' : upd H1 z (.lst []) c = some (.lst (cs1.map V.int)) := by rw [upd_ne nz.2.symm]; exact k2
      have g2 : Gx p c H (upd H1 z (.lst [])) := g1.trans (Gx.new dk1 hz)
      refine ⟨.list (cs1.map .int), .list [], .lst (SqL.of k2') (dpIntsG cs1), .lst (SqL.of upd_same) .nil, shaped_ints cs1, shaped_ints [], _, rfl, ?_⟩
      rw [ne_nil_ints]
      refine ite2 (fun h => ?_) (fun h => ?_)
      · have hne : cs1 ≠ [] := of_decide_eq_true h
        obtain ⟨ini, cell, rfl⟩ : ∃ ini cell, cs1 = ini ++ [cell] := ⟨_, _, (List.dropLast_concat_getLast hne).symm⟩
        refine ⟨_, rfl, p, _, rfl, dget (k := kC) k1' v_C, .inl ⟨rfl, _, SqL.of k2'⟩, c, _, .int cell, rfl, rfl, k2', by simp, ?_⟩
        have ed : ((ini ++ [cell]).map V.int).dropLast = ini.map V.int := by simp
        rw [ed]
        rw [List.length_append, List.length_singleton] at k3
        have k1'' : upd (upd H1 z (.lst [])) c (.lst (ini.map V.int)) p = some (.dK (dkL c m1 t1)) := by rw [upd_ne npc]; exact k1'
        have putc : ∀ (xs : List Int) (H2 : Hp), (∀ b, b ≠ c → H2 b = upd H1 z (.lst []) b) → xs.length ≤ 63 → Gx p c H (upd H2 c (.lst (xs.map V.int))) := by
          intro xs H2 hb hx
          refine ⟨fun b o b1 b2 e => ?_, ⟨m1, t1, xs, ?_, upd_same, hx⟩⟩
          · rw [upd_ne b2, hb b b2]
            exact g2.1 b o b1 b2 e
          · rw [upd_ne npc, hb p npc]
            exact k1'
        refine ⟨_, rfl, _, _, rfl, rfl, ⟨by decide, by decide, by decide⟩, _, _, rfl, rfl, _, rfl, ?_⟩
        refine ite2 (fun h => ?_) (fun h => ?_)
        · refine ⟨_, rfl, p, _, rfl, dget (k := kC) k1'' v_C, .inl ⟨rfl, _, SqL.of upd_same⟩, _, rfl, _, rfl, 2, n, rfl, _, _, rfl, rfl, ?_, c, _, _, rfl, rfl, upd_same, ?_, ?_⟩
          · show (0 : Int) < (if n > 2 then n else 2) ∧ (if n > 2 then n else 2) < 1073741824
            split <;> omega
          · rw [List.length_map, sizeLine_eq]; omega
          refine ⟨_, rfl, .inl ⟨_, rfl, _, rfl, _, _, rfl, rfl, (by show (0 : Int) < n; omega), ?_⟩⟩
          refine fin cell _ ?_
          have e2 : ini.map V.int ++ [V.int (cell / (if n > 2 then n else 2))] = (ini ++ [cell / (if n > 2 then n else 2)]).map V.int := by simp
          show Gx p c H (upd _ c (.lst (ini.map V.int ++ [V.int (cell / (if n > 2 then n else 2))])))
          rw [e2]
          exact putc _ _ (fun b hb => by rw [upd_ne hb]) (by simp; omega)
        · refine ⟨_, rfl, _, rfl, .inl ⟨_, rfl, _, _, rfl, rfl, (by show (0 : Int) < 2147483563; decide), _, _, rfl, rfl, _, _, rfl, putc _ _ (fun b hb => rfl) (by omega)⟩⟩
      · exact ⟨_, _, rfl, g2⟩
    · rintro σ H2 ⟨fig, x3, rfl, g2⟩
      obtain ⟨m2, t2, cs2, j1, j2, j3⟩ := g2.2
      refine ⟨_, rfl, _, _, rfl, rfl, .inr ⟨by decide, by decide⟩, _, _, rfl, rfl, .inl ⟨_, rfl, _, _, rfl, rfl, (by show (0 : Int) < 2147483587; decide), ?_⟩⟩
      have b1 := Int.emod_nonneg (fig * 48271 + 17) (by decide : (2147483587 : Int) ≠ 0)
      have b2 := Int.emod_lt_of_pos (fig * 48271 + 17) (by decide : (0 : Int) < 2147483587)
      generalize (fig * 48271 + 17) % 2147483587 = f1 at b1 b2
      refine ⟨_, rfl, _, rfl, _, _, rfl, rfl, .inl ⟨by omega, by omega⟩, _, rfl, p, _, rfl, dget (k := kT) j1 v_T, _, _, rfl, rfl, .inl ⟨by decide, by decide⟩, _, _, rfl, rfl, _, _, rfl, rfl, .inl ⟨_, rfl, _, _, rfl, rfl, (by show (0 : Int) < 2147483647; decide), ?_⟩⟩
      refine ⟨_, rfl, _, _, rfl, rfl, .inr ⟨by decide, by decide⟩, .inl ⟨_, rfl, _, _, rfl, rfl, (by show (0 : Int) < 2147483629; decide), _, _, rfl, rfl, ⟨by decide, by decide⟩, .inl ⟨_, rfl, _, rfl, _, _, rfl, rfl, (by show (0 : Int) < n; omega), ?_⟩⟩⟩
      exact fin _ H2 g2
/-- _law_pick: any item of a list that the deck is not, any sign of a text -/
def spPick : Sp := fun vs H Q _ => ∃ (p c : Addr) (v : V), vs = [.ref p, v] ∧ Dk p c H ∧
  ((∃ (a : Addr) (xs : List V), v = .ref a ∧ At p c H a (.lst xs) ∧ 1 ≤ xs.length ∧ xs.length ≤ 100000 ∧ ∀ (r : Nat) x H', xs[r]? = some x → Gx p c H H' → Q x H') ∨
   ∃ z : List Nat, v = .str (S z) ∧ 1 ≤ z.length ∧ z.length ≤ 1000 ∧ ∀ (r : Nat) d H', z[r]? = some d → Gx p c H H' → Q (.str (S [d])) H')
theorem ok_pick {f f1 : Addr} {fd fd1 : FuncData} (F : Fn K mg "_law_pick" s__law_pick ["_law_deck", "_law_some"] f fd) (B : Blt mg) (F__law_draw : Fn K mg "_law_draw" s__law_draw ["_law_deck", "_law_many"] f1 fd1) :
    FnOk P w K mg base CX0 2 f fd ["_law_deck", "_law_some"] spPick := by
  have G__law_draw : FnOk P w K mg base CX0 1 f1 fd1 ["_law_deck", "_law_many"] spDraw := ok_draw F__law_draw B
  refine F.F.ok sc__law_pick (fun vs H Q E h => ?_) (fun cdv A outer s H vs Q E hr h => ?_)
  · obtain ⟨p, c, v, rfl, _⟩ := h
    rfl
  · obtain ⟨p, c, v, rfl, dk, h⟩ := h
    refine ⟨_, (pss_one (ps_ret (pe_ix ix_seq (pv 1) (pe_call G__law_draw (hr.mono (by decide)) (by rfl) F__law_draw.g F__law_draw.F.kp F__law_draw.b .nil pass0 (pa_cons (pv 0) (pa_cons (pe_callB call_len (by rfl) B.n_len PySem.boot_len (pa_cons (pv 1) pa_nil)) pa_nil))) (fun _ _ => rfl)))), ?_⟩
    rcases h with ⟨a, xs, rfl, ha, hl1, hl2, q⟩ | ⟨z, rfl, hl1, hl2, q⟩
    · refine ⟨_, rfl, _, rfl, _, rfl, .ref a, xs.length, rfl, .inl ⟨xs, SqL.of ha.2.2, rfl⟩, p, c, _, rfl, dk, by omega, by omega, fun r H' hr' g => ?_⟩
      have hlt : r < xs.length := by omega
      exact .inl ⟨a, xs, _, _, rfl, rfl, SqL.of (ha.gx g).2.2, atI_nat (List.getElem?_eq_getElem hlt), q r _ H' (List.getElem?_eq_getElem hlt) g⟩
    · refine ⟨_, rfl, _, rfl, _, rfl, .str (S z), z.length, rfl, ⟨sz (by rw [S_len]; omega), by rw [S_len]⟩, p, c, _, rfl, dk, by omega, by omega, fun r H' hr' g => ?_⟩
      have hlt : r < z.length := by omega
      have hz : (S z).cps.toList[r]? = some z[r] := List.getElem?_eq_getElem hlt
      exact .inr (.inr ⟨S z, _, _, rfl, rfl, sz (by rw [S_len]; omega), atI_nat hz, q r _ H' (List.getElem?_eq_getElem hlt) g⟩)
end
end Ag

end
/-! ## TupRep -/
section
set_option linter.all false
set_option maxRecDepth 100000
set_option maxHeartbeats 4000000
namespace Ag
open PySem PySem.Spec PyProof.Rows L2
theorem tuple_mul0 (l : Addr) (items : Array Value) (n : Nat) (dd : Option Addr) (sl : Array (Option Value)) (x : Int) (u : Tok) (c0 : (decide (x < -(2 ^ 63)) || decide (x ≥ 2 ^ 63)) = false) (c1 : (items.isEmpty || x == 1) = false) (c2 : (decide (x ≤ 0) || items.isEmpty) = true) :
    Meets (Builtin.«tuple.__mul__» ⟨[.ref l, .int x u], []⟩) (fun _ R s => s.heap.get? l = some { cls := .type "tuple", dict := dd, data := .seq items n, slots := sl } ∧
      R (.ok (.ret (Value.ref s.heap.objs.size))) { s with heap := s.heap.push { cls := Value.type "tuple", data := Data.seq #[] }, toks := s.toks }) :=
  .of_wp fun prog w A R s h => by
    obtain ⟨hp, g, d, tk, os⟩ := s
    obtain ⟨hl, h⟩ := h
    have f1 := AutoSeq1.idx_int
    wp_walk using wpAny_loadPart' hl
    repeat (first
      | (refine wpAny_ite_false (decide_eq_false (by rw [c0]; exact Bool.false_ne_true)) ?_; wp_walk using wpAny_loadPart' hl)
      | (refine wpAny_ite_false (decide_eq_false (by rw [c1]; exact Bool.false_ne_true)) ?_; wp_walk using wpAny_loadPart' hl)
      | (refine wpAny_ite_true (decide_eq_true c2) ?_; wp_walk using wpAny_loadPart' hl))
    exact ⟨_, rfl, h⟩
theorem tuple_mul1 (l : Addr) (items : Array Value) (n : Nat) (dd : Option Addr) (sl : Array (Option Value)) (x : Int) (u : Tok) (c0 : (decide (x < -(2 ^ 63)) || decide (x ≥ 2 ^ 63)) = false) (c1 : (items.isEmpty || x == 1) = true) :
    Meets (Builtin.«tuple.__mul__» ⟨[.ref l, .int x u], []⟩) (fun _ R s => s.heap.get? l = some { cls := .type "tuple", dict := dd, data := .seq items n, slots := sl } ∧
      R (.ok (.ret (Value.ref l))) s) :=
  .of_wp fun prog w A R s h => by
    obtain ⟨hp, g, d, tk, os⟩ := s
    obtain ⟨hl, h⟩ := h
    have f1 := AutoSeq1.idx_int
    wp_walk using wpAny_loadPart' hl
    repeat (first
      | (refine wpAny_ite_false (decide_eq_false (by rw [c0]; exact Bool.false_ne_true)) ?_; wp_walk using wpAny_loadPart' hl)
      | (refine wpAny_ite_true (decide_eq_true c1) ?_; wp_walk using wpAny_loadPart' hl))
    exact ⟨_, rfl, h⟩
def rRepA (K : PySem.W.Frag) : R2 := fun x y H Q => ∃ (l : Addr) (k : Nat) (xs : List V), x = .ref l ∧ y = .int (k : Int) ∧ H l = some (.tup xs) ∧ xs ≠ [] ∧ xs.length * k ≤ 1000000 ∧ k ≤ 1000000 ∧ ∀ r H', Same H H' → H' r = some (.tup (List.replicate k xs).flatten) → Q (.ref r) H'
section
variable {X : Cx}
theorem op_repA : OpR X (binaryOp .Mult) (rRepA X.K) := by
  intro pins s σ H x y v u Q I rx ry h
  obtain ⟨l, k, xs, rfl, rfl, hT0, hne, hm0, hk, q⟩ := h
  have hT : SqT X.K H l xs := SqT.of hT0
  cases rx
  obtain ⟨t, rfl⟩ := ry
  obtain ⟨its, r, ⟨⟨cls, dd, data, sl⟩, ho, hc, n, hd⟩, hs⟩ := I.tuple hT
  simp only at hc hd
  subst hc hd
  have hle : its.length = xs.length := r.length.symm
  have hn : its ≠ [] := fun e => hne (by
    rw [e] at hle
    exact List.eq_nil_of_length_eq_zero hle.symm)
  have hi : its.toArray.isEmpty = false := by
    cases its with
    | nil => exact absurd rfl hn
    | cons a b => rfl
  have hsz0 : its.toArray.size = xs.length := by rw [List.size_toArray, hle]
  have hm : ((its.toArray.size : Nat) : Int) * (k : Int) ≤ 1000000 := by
    rw [hsz0]
    have : ((xs.length * k : Nat) : Int) ≤ 1000000 := by omega
    rwa [Int.natCast_mul] at this
  have flen : (List.replicate k its).flatten.length ≤ sizeLine := by
    rw [PyProof.Rows.lm_len_rep_flat, hle, sizeLine_eq, Nat.mul_comm]
    omega
  have c0 : (decide ((k : Int) < -(2 ^ 63)) || decide ((k : Int) ≥ 2 ^ 63)) = false := by
    rw [decide_eq_false (by omega), decide_eq_false (by omega)] <;> rfl
  have c4 : Builtin.Tuple.tupleTooMany (((its.toArray.size : Nat) : Int) * (k : Int)) = false := by
    unfold Builtin.Tuple.tupleTooMany
    rw [sizeLine_eq]
    exact decide_eq_false (by omega)
  refine wpAny_binaryOp_repeat_ref (T := "tuple") (U := "int") (by decide) ⟨_, ho, rfl⟩ (fun s' => typeIs_int s' (k : Int) t) noFill_tuple_mul F.fills_int_mul F.slot_int_rmul repeat_tuple F.slot_int_index.lookup
    (call_meets F.slot_int_rmul (typeIs_int s (k : Int) t) F.entry_int_rmul (F.args_int_rmul_2 _ _) (int_rmul_tuple (k : Int) t l its.toArray n dd sl)
      ⟨ho, rfl, ⟨_, ho, rfl⟩, ?_⟩)
  by_cases h0 : k = 0
  · subst h0
    refine call_meets F.slot_tuple_mul ⟨_, ho, rfl⟩ F.entry_tuple_mul (F.args_tuple_mul_2 _ _) (tuple_mul0 l its.toArray n dd sl _ t c0 (by rw [hi]; rfl) rfl) ⟨ho, ?_⟩
    have fr := I.hok.fresh (Nat.le_refl s.heap.objs.size)
    refine ⟨.ref s.heap.objs.size, _, I.laid (t' := s.toks) (o := .tup []) (fun b ob q => Heap.get?_push_of_some _ q) (Nat.le_refl _) ?_, rfl, q _ _ (same_new fr) upd_same⟩
    exact ⟨Nat.zero_le _, _, .nil, IsTup.new _ _⟩
  · by_cases h1 : k = 1
    · subst h1
      refine call_meets F.slot_tuple_mul ⟨_, ho, rfl⟩ F.entry_tuple_mul (F.args_tuple_mul_2 _ _) (tuple_mul1 l its.toArray n dd sl _ t c0 (by rw [hi]; rfl)) ⟨ho, ?_⟩
      exact ⟨.ref l, H, I, rfl, q l H (Same.refl H) (by rw [hT0]; simp)⟩
    · have c1 : (its.toArray.isEmpty || (k : Int) == 1) = false := by
        rw [hi, Bool.false_or]
        exact beq_eq_false_iff_ne.mpr (by omega)
      have c2 : (decide ((k : Int) ≤ 0) || its.toArray.isEmpty) = false := by
        rw [hi, Bool.or_false]
        exact decide_eq_false (by omega)
      refine call_meets F.slot_tuple_mul ⟨_, ho, rfl⟩ F.entry_tuple_mul (F.args_tuple_mul_2 _ _) (tuple_mulW l its.toArray n dd sl (k : Int) t c0 c1 c2 (by omega) c4 (by rw [size_rep, List.size_toArray]; exact flen)) ⟨ho, ?_⟩
      rw [size_rep]
      have fr := I.hok.fresh (Nat.le_refl s.heap.objs.size)
      refine ⟨.ref s.heap.objs.size, _, I.laid (t' := s.toks) (o := .tup (List.replicate k xs).flatten) (fun b ob q => Heap.get?_push_of_some _ q) (Nat.le_refl _) ?_, rfl, q _ _ (same_new fr) upd_same⟩
      exact ⟨by rw [PyProof.Rows.lm_len_rep_flat, sizeLine_eq, Nat.mul_comm]; omega, _, r.rep k, IsTup.new _ _⟩
end
end Ag

end
/-! ## A2 -/
section
set_option linter.all false
set_option maxRecDepth 100000
set_option maxHeartbeats 4000000
namespace Ag
open PySem PySem.Spec PyProof.Rows L2
open SX (S S_len S_cat S_inj)
theorem shaped_const {α : Type} (l : List α) : SeqAt.shaped (.list (l.map fun _ => PyData.int 1)) = true := by
  have : (l.map fun _ => PyData.int 1) = (l.map fun _ => (1 : Int)).map PyData.int := by rw [List.map_map]; rfl
  rw [this]
  exact shaped_ints _
theorem azS : (Str.ofString "abcdefghijklmnopqrstuvwxyz").cps.toList = (List.range 26).map (· + 97) := by decide +kernel
theorem mem_az {c : Nat} : decide (c ∈ (Str.ofString "abcdefghijklmnopqrstuvwxyz").cps.toList) = azC c := by
  rw [azS, Bool.eq_iff_iff, decide_eq_true_eq]
  unfold azC
  simp
  constructor
  · rintro ⟨a, h, rfl⟩
    omega
  · intro h
    exact ⟨c - 97, by omega, by omega⟩
theorem map_const {α : Type} (l : List α) : (l.map fun _ => (1 : Int)).map V.int = l.map fun _ => V.int 1 := by rw [List.map_map]; rfl
section
variable {P : Program} {w : World} {K : PySem.W.Frag} {mg : Str → Option Value} {base : Heap} 
def spWhole : Sp := fun vs H Q _ => ∃ p c v d lo hi, vs = [v, .int lo, .int hi] ∧ Dg p c H v d ∧ Q (.bl (wholeB lo hi d)) H
theorem ok_whole {f : Addr} {fd : FuncData} (F : Fn K mg "_law_is_whole" s__law_is_whole ["_law_thing", "_law_low", "_law_high"] f fd) (B : Blt mg) : FnOk P w K mg base CX0 1 f fd ["_law_thing", "_law_low", "_law_high"] spWhole := by
  refine F.F.ok sc__law_is_whole (fun vs H Q E h => ?_) (fun cdv A outer s H vs Q E hr h => ?_)
  · obtain ⟨p, c, x, d, lo, hi, rfl, _⟩ := h
    rfl
  · obtain ⟨p, c, x, d, lo, hi, rfl, hd, q⟩ := h
    refine ⟨_, (pss_one (ps_ret (pe_and (pe_callB call_isi (by rfl) B.n_isinstance (by decide +kernel) (pa_cons (pv 0) (pa_cons (pe_bltn (v := .ty "int") (by rfl) B.n_int (by decide +kernel) rfl) pa_nil))) (pe_and (pe_not (pe_callB call_isi (by rfl) B.n_isinstance (by decide +kernel) (pa_cons (pv 0) (pa_cons (pe_bltn (v := .ty "bool") (by rfl) B.n_bool (by decide +kernel) rfl) pa_nil)))) (pe_one (pe_chain op_le op_le (pv 1) (pv 0) (pv 2))))))), ?_⟩
    refine ⟨x, rfl, x, .ty "int", _, _, _, rfl, .ty "int", hd.tyx, isi_I d, _, rfl, ite2 (fun h => ?_) (fun h => ?_)⟩
    · refine ⟨_, rfl, x, .ty "bool", _, _, _, rfl, .ty "bool", hd.tyx, isi_B d, _, rfl, _, rfl, ?_⟩
      cases hd with
      | int i =>
        refine iteT ⟨_, rfl, _, rfl, _, _, rfl, rfl, _, rfl, ?_⟩
        simp only [wholeB] at q
        refine ite2 (fun h1 => ?_) (fun h1 => ?_)
        · rw [h1, Bool.true_and] at q
          exact ⟨_, rfl, _, _, rfl, rfl, q⟩
        · rw [Bool.eq_false_iff.mpr h1, Bool.false_and] at q
          exact q
      | bl b => exact iteF q
      | _ => exact absurd h (by simp [isI])
    · cases d <;> first | exact q | exact absurd rfl h
def spLWord : Sp := fun vs H Q _ => ∃ p c v d q n b, vs = [v] ∧ Dg p c H v d ∧ Gd q d n b ∧ ∀ H', Same H H' → Q (.bl (wordB d)) H'
theorem ok_lword {f : Addr} {fd : FuncData} (F : Fn K mg "_law_is_word" s__law_is_word ["_law_thing"] f fd) (B : Blt mg) : FnOk P w K mg base CX0 1 f fd ["_law_thing"] spLWord := by
  refine F.F.ok sc__law_is_word (fun vs H Q E h => ?_) (fun cdv A outer s H vs Q E hr h => ?_)
  · obtain ⟨p, c, x, d, _, _, _, rfl, _⟩ := h
    rfl
  · obtain ⟨p, c, x, d, qq, n, b, rfl, hd, hg, q⟩ := h
    refine ⟨_, (pss_cons (ps_if (PW.pt (pw_or (pt_not (pt_val (pe_callB call_isi (by rfl) B.n_isinstance (by decide +kernel) (pa_cons (pv 0) (pa_cons (pe_bltn (v := .ty "str") (by rfl) B.n_str (by decide +kernel) rfl) pa_nil))))) (pw_or1 (pt_not (pt_chain op_le op_le pe_int (pe_callB call_len_str (by rfl) B.n_len PySem.boot_len (pa_cons (pv 0) pa_nil)) pe_int)))))
      (pss_one (ps_ret pe_bl))
      pss_nil)
      (pss_one (ps_ret (pe_cmpR (op_eqD hr.units) (pe_lc (own := [("_law_sign", 1)]) rfl sc__law_is_word.nd (pi_str (pv 0)) (blkOk_by (N := N__law_is_word) (sc := defScope s__law_is_word) (by decide +kernel)) (fun _ _ _ _ _ => (pg_name (i := 1) sc__law_is_word.nd rfl (Or.inl rfl))) (fun _ _ _ _ _ => (pts_one (pt_cmpR op_notIn_sign (pv 1) pe_str rfl))) (fun _ _ _ _ _ => pe_int)) (pe_lst pa_nil) (nomark _))))), ?_⟩
    refine ⟨_, rfl, x, .ty "str", _, _, _, rfl, .ty "str", hd.tyx, isi_S d, _, rfl, ?_⟩
    cases hd with
    | str x =>
      obtain ⟨h1, h2⟩ := hg.strlen
      have hx : x = S x.cps.toList := rfl
      generalize x.cps.toList = l at h1 h2 hx q
      subst hx
      refine iteF ?_
      refine ⟨.str (S l), rfl, S l, rfl, sz (by rw [S_len]; omega), _, _, rfl, rfl, _, rfl, ?_⟩
      rw [S_len]
      have q : ∀ H', Same H H' → Q (.bl (wordL l)) H' := q
      unfold wordL at q
      have e1 : decide ((1 : Int) ≤ (l.length : Int)) = decide (1 ≤ l.length) := by
        rw [Bool.eq_iff_iff, decide_eq_true_eq, decide_eq_true_eq]
        omega
      have e2 : decide ((l.length : Int) ≤ 10) = decide (l.length ≤ 10) := by
        rw [Bool.eq_iff_iff, decide_eq_true_eq, decide_eq_true_eq]
        omega
      rw [e1]
      cases h3 : decide (1 ≤ l.length) with
      | false =>
        rw [h3, Bool.false_and, Bool.false_and] at q
        exact iteF ⟨_, rfl, iteT (q _ (Same.refl _))⟩
      | true =>
        rw [h3, Bool.true_and] at q
        refine iteT ?_
        refine ⟨_, _, rfl, rfl, _, rfl, ?_⟩
        rw [e2]
        cases h4 : decide (l.length ≤ 10) with
        | false =>
          rw [h4, Bool.false_and] at q
          exact iteT (q _ (Same.refl _))
        | true =>
          rw [h4, Bool.true_and] at q
          refine iteF ?_
          have hzs : (S l).cps.size = l.length := by simp
          refine ⟨_, rfl, S l, rfl, fun D hD => ?_⟩
          refine lc_sel (walk_str (z := S l)) (fun i => !azC (l.getD i 0)) (fun _ => .int 1) (by rw [hzs]; omega) hD (fun _ _ => trivial) ?_ ?_
          · rintro i y H1 H2 k k0 hi s1 ⟨rfl, c', hc, rfl⟩ hk hk0
            have hc' : l[i]? = some c' := by simpa using hc
            rw [List.getD_eq_getElem?_getD, hc'] at hk hk0
            refine ⟨rfl, _, rfl, c', _, rfl, rfl, _, rfl, ?_⟩
            rw [mem_az]
            cases ha : azC c' with
            | false => exact iteT (hk (by show (!azC c') = true; rw [ha]; rfl) _ (Same.refl _))
            | true => exact iteF (hk0 (by show (!azC c') = false; rw [ha]; rfl) _ (Same.refl _))
          · intro H1 s1 h1
            rw [hzs] at h1
            refine ⟨Nat.zero_le _, fun t ht => ?_⟩
            have nD := ne_of_none h1 ht
            refine ⟨.list (((List.range l.length).filter fun i => !azC (l.getD i 0)).map fun _ => .int 1), .list [], .lst (SqL.of (by rw [upd_ne nD]; exact h1)) (dp_const _), .lst (SqL.of upd_same) .nil, shaped_const _, shaped_ints [], ?_⟩
            rw [eqv_map_nil, none_at l azC 0]
            exact q _ (s1.trans (same_new ht))
    | _ => exact iteT (iteT (q _ (Same.refl _)))
def spLPool : Sp := fun vs H Q _ => ∃ p c v d q n b, vs = [v] ∧ Dg p c H v d ∧ Gd q d n b ∧ ∀ H', Same H H' → Q (.bl (poolB d)) H'
theorem ok_lpool {f f1 f2 : Addr} {fd fd1 fd2 : FuncData} (F : Fn K mg "_law_is_pool" s__law_is_pool ["_law_thing"] f fd) (B : Blt mg) (F__law_is_word : Fn K mg "_law_is_word" s__law_is_word ["_law_thing"] f1 fd1) (G__law_is_word : FnOk P w K mg base CX0 1 f1 fd1 ["_law_thing"] spLWord)
    (F__law_is_whole : Fn K mg "_law_is_whole" s__law_is_whole ["_law_thing", "_law_low", "_law_high"] f2 fd2) (G__law_is_whole : FnOk P w K mg base CX0 1 f2 fd2 ["_law_thing", "_law_low", "_law_high"] spWhole) : FnOk P w K mg base CX0 2 f fd ["_law_thing"] spLPool := by
  refine F.F.ok sc__law_is_pool (fun vs H Q E h => ?_) (fun cdv A outer s H vs Q E hr h => ?_)
  · obtain ⟨p, c, v, d, _, _, _, rfl, _⟩ := h
    rfl
  · obtain ⟨p, c, v, d, qq, n, b, rfl, hd, hg, q⟩ := h
    refine ⟨_, (pss_cons (ps_if (PW.pt (pw_or (pt_not (pt_val (pe_callB call_isi (by rfl) B.n_isinstance (by decide +kernel) (pa_cons (pv 0) (pa_cons (pe_bltn (v := .ty "tuple") (by rfl) B.n_tuple (by decide +kernel) rfl) pa_nil))))) (pw_or1 (pt_not (pt_chain op_le op_le pe_int (pe_callB call_len_seq (by rfl) B.n_len PySem.boot_len (pa_cons (pv 0) pa_nil)) pe_int)))))
      (pss_one (ps_ret pe_bl))
      pss_nil)
      (pss_cons (ps_for PassesOwn.never rfl (pi_tup (pv 0)) (pg_name (i := 1) sc__law_is_pool.nd rfl (Or.inl rfl))
      (pss_one (ps_if (PW.pt (pw_or (pt_not (pt_val (pe_callB call_isi (by rfl) B.n_isinstance (by decide +kernel) (pa_cons (pv 1) (pa_cons (pe_bltn (v := .ty "tuple") (by rfl) B.n_tuple (by decide +kernel) rfl) pa_nil))))) (pw_or (pt_cmpR op_ne (pe_callB call_len_seq (by rfl) B.n_len PySem.boot_len (pa_cons (pv 1) pa_nil)) pe_int (nomark _)) (pw_or (pt_not (pt_val (pe_call G__law_is_word (hr.mono (by decide)) (by rfl) F__law_is_word.g F__law_is_word.F.kp F__law_is_word.b .nil pass0 (pa_cons (pe_ix ix_tup (pv 1) pe_int (fun _ _ => rfl)) pa_nil)))) (pw_or1 (pt_not (pt_val (pe_call G__law_is_whole (hr.mono (by decide)) (by rfl) F__law_is_whole.g F__law_is_whole.F.kp F__law_is_whole.b .nil pass0 (pa_cons (pe_ix ix_tup (pv 1) pe_int (fun _ _ => rfl)) (pa_cons pe_int (pa_cons pe_int pa_nil)))))))))))
        (pss_one (ps_ret pe_bl))
        pss_nil)))
      (pss_one (ps_ret (pe_cmpR op_eq (pe_callB cr_lenSetD (by rfl) B.n_len PySem.boot_len (pa_cons (pe_callTy (cr_setD rfl) (by rfl) B.n_set (by decide +kernel) (pa_cons (pe_lc (own := [("_law_pair", 1)]) rfl sc__law_is_pool.nd (pi_tup (pv 0)) (blkOk_by (N := N__law_is_pool) (sc := defScope s__law_is_pool) (by decide +kernel)) (fun _ _ _ _ _ => (pg_name (i := 1) sc__law_is_pool.nd rfl (Or.inl rfl))) (fun _ _ _ _ _ => pts_nil) (fun _ _ _ _ _ => (pe_ix (ix_tupK K rfl) (pv 1) pe_int (fun _ _ => rfl)))) pa_nil)) pa_nil)) (pe_callB call_len_seq (by rfl) B.n_len PySem.boot_len (pa_cons (pv 0) pa_nil)) (nomark _)))))), ?_⟩
    refine ⟨v, rfl, v, .ty "tuple", _, _, _, rfl, .ty "tuple", hd.tyx, isi_T d, _, rfl, ?_⟩
    cases hd with
    | tup a da =>
      rename_i t xs ds
      have hl := da.len
      obtain ⟨hg2, l60⟩ := hg.untup
      have q : ∀ H', Same H H' → Q (.bl (((decide (1 ≤ ds.length) && decide (ds.length ≤ 8)) && ds.all shareB) && decide ((ds.map labD).Nodup))) H' := q
      refine iteF ⟨_, rfl, t, _, rfl, .inr (SqT.of a.2.2), _, _, rfl, rfl, _, rfl, ?_⟩
      rw [hl]
      by_cases h1 : ¬ 1 ≤ ds.length
      · rw [decide_eq_false h1, Bool.false_and, Bool.false_and, Bool.false_and] at q
        rw [decide_eq_false (by omega : ¬ (1 : Int) ≤ (ds.length : Int))]
        exact iteF ⟨_, rfl, iteT (q _ (Same.refl _))⟩
      have h1 := Decidable.not_not.mp h1
      rw [decide_eq_true (by omega : (1 : Int) ≤ (ds.length : Int))]
      refine iteT ⟨_, _, rfl, rfl, _, rfl, ?_⟩
      by_cases h8 : ¬ ds.length ≤ 8
      · rw [decide_eq_true h1, decide_eq_false h8, Bool.and_false, Bool.false_and, Bool.false_and] at q
        refine (show (if (!decide (((ds.length : Nat) : Int) ≤ 8)) = true then _ else _) from ?_)
        rw [decide_eq_false (by omega : ¬ ((ds.length : Nat) : Int) ≤ 8)]
        exact iteT (q _ (Same.refl _))
      have h8 := Decidable.not_not.mp h8
      refine (show (if (!decide (((ds.length : Nat) : Int) ≤ 8)) = true then _ else _) from ?_)
      rw [decide_eq_true (by omega : ((ds.length : Nat) : Int) ≤ 8)]
      rw [decide_eq_true h1, decide_eq_true h8, Bool.true_and, Bool.true_and] at q
      refine iteF ⟨_, rfl, t, rfl, ⟨_, SqT.of a.2.2⟩, ?_⟩
      refine for_it (walk_tup (K := K) (a := t) (xs := xs)) (fun j σ H' => ∃ x1 : Option V, σ = [some (.ref t), x1] ∧ Same H H' ∧ (ds.take j).all shareB = true) ⟨_, rfl, Same.refl _, rfl⟩ (fun j σ H' _ z => ?_) ?_ ?_
      · obtain ⟨_, _, sm, _⟩ := z
        exact SqT.of (sm _ _ a.2.2)
      · rintro j y σ H3 H4 hj ⟨x1, rfl, s1, al⟩ ⟨rfl, hy⟩
        obtain ⟨d', hd', dd⟩ := da.at_ hy
        have gd := hg2.mem d' (List.mem_of_getElem? hd')
        have dd := dd.to (Kp.same s1)
        have bad : shareB d' = false → ∀ H', Same H H' → Q (.bl false) H' := by
          intro e H' s
          have : ds.all shareB = false := by
            rw [Bool.eq_false_iff]
            intro z
            rw [List.all_eq_true.mp z d' (List.mem_of_getElem? hd')] at e
            cases e
          rw [this, Bool.false_and] at q
          exact q _ s
        have good : shareB d' = true → (ds.take (j + 1)).all shareB = true := by
          intro e
          rw [List.take_add_one, hd', List.all_append, al]
          simp [e]
        refine ⟨_, rfl, y, .ty "tuple", _, _, _, rfl, .ty "tuple", dd.tyx, isi_T d', _, rfl, ?_⟩
        cases dd with
        | tup a2 da2 =>
          rename_i t2 xs2 ds2
          have hl2 := da2.len
          refine iteF ⟨_, rfl, t2, _, rfl, .inr (SqT.of a2.2.2), rfl, _, rfl, ?_⟩
          by_cases h2 : xs2.length = 2
          · rw [h2, show decide (V.int ((2 : Nat) : Int) = V.int 2) = true from decide_eq_true rfl]
            refine iteF ?_
            cases da2 with
            | nil => cases h2
            | @cons v1 vs1 e1 ds1 d1 da2 =>
              cases da2 with
              | nil => cases h2
              | @cons v2 vs2 e2 ds2 d2 da2 =>
                cases da2 with
                | cons d3 da2 => simp at h2
                | nil =>
                  obtain ⟨gd2, _⟩ := gd.untup
                  obtain ⟨g1, gd2⟩ := gd2.hd
                  obtain ⟨g2, _⟩ := gd2.hd
                  refine ⟨_, rfl, t2, _, _, _, rfl, rfl, SqT.of a2.2.2, atI_nat (j := 0) rfl, p, c, v1, e1, _, _, _, rfl, d1, g1, fun H5 s5 => ⟨_, rfl, ?_⟩⟩
                  have s15 := s1.trans s5
                  cases hw : wordB e1 with
                  | false => exact iteT (bad (by show (wordB e1 && _) = false; rw [hw]; rfl) _ s15)
                  | true =>
                    refine iteF ⟨_, rfl, t2, _, _, _, rfl, rfl, SqT.of (s5 _ _ a2.2.2), atI_nat (j := 1) rfl, p, c, v2, e2, _, _, rfl, d2.to (Kp.same s5), _, rfl, ?_⟩
                    cases hz : wholeB 1 100 e2 with
                    | false => exact iteT (bad (by show (wordB e1 && wholeB 1 100 e2) = false; rw [hz, Bool.and_false]) _ s15)
                    | true => exact iteF ⟨_, rfl, s15, good (by show (wordB e1 && wholeB 1 100 e2) = true; rw [hw, hz]; rfl)⟩
          · rw [show decide (V.int ((xs2.length : Nat) : Int) = V.int 2) = false from decide_eq_false fun z => h2 (by have := V.int.inj z; omega)]
            refine iteT (bad ?_ _ s1)
            match ds2, hl2 with
            | [], _ => rfl
            | [_], _ => rfl
            | [_, _], hl2 => exact absurd hl2 h2
            | _ :: _ :: _ :: _, _ => rfl
        | _ => exact iteT (bad rfl _ s1)
      · rintro σ H1 ⟨x1, rfl, s1, hall⟩
        rw [hl, List.take_length] at hall
        rw [hall, Bool.true_and] at q
        refine ⟨_, rfl, t, rfl, ⟨_, SqT.of (s1 _ _ a.2.2)⟩, fun D2 hD2 => ?_⟩
        refine lc_sel (walk_tup (K := K) (a := t) (xs := xs)) (fun _ => true) (fun i => .str (labD ((ds[i]?).getD .none))) (by omega) hD2 (fun H' s => SqT.of (s _ _ (s1 _ _ a.2.2))) ?_ ?_
        · rintro j y H3 H4 k k0 hi s2 ⟨rfl, hy⟩ hk _
          obtain ⟨d', hd', dd⟩ := da.at_ hy
          have hk := hk rfl _ (Same.refl _)
          rw [hd'] at hk
          obtain ⟨t', x, w', rfl, ht', ex⟩ := share_of (dd.to (Kp.same (s1.trans s2))) (List.all_eq_true.mp hall d' (List.mem_of_getElem? hd'))
          have hk : k (V.str (labD d')) _ := hk
          rw [ex] at hk
          exact ⟨rfl, _, rfl, t', _, _, _, rfl, rfl, SqT.of ht', rfl, hk⟩
        · intro H3 s3 h3
          rw [filt_all, hl, labs_map] at h3
          have s13 := s1.trans s3
          refine ⟨D2, _, rfl, SqL.of h3, by rw [List.length_map]; omega, fun R hR => ⟨R, _, rfl, upd_same, by rw [List.length_map]; omega, ?_⟩⟩
          have s4 := s13.trans (same_new (o := SetDO P w R (ds.map labD)) hR)
          refine ⟨_, rfl, t, _, rfl, .inr (SqT.of (s4 _ _ a.2.2)), rfl, ?_⟩
          have full := dnT_full (ds.map labD) _ (Nat.le_refl _)
          rw [List.take_length] at full
          have eb : decide (V.int (dnT (ds.map labD) (ds.map labD).length : Nat) = V.int (xs.length : Nat)) = decide ((ds.map labD).Nodup) := by
            rw [Bool.eq_iff_iff, decide_eq_true_eq, decide_eq_true_eq, ← full, hl]
            rw [List.length_map]
            exact ⟨fun z => by have := V.int.inj z; omega, fun z => by rw [z]⟩
          exact (show Q (.bl (decide (V.int (dnT (ds.map labD) (ds.map labD).length : Nat) = V.int (xs.length : Nat)))) _ by rw [eb]; exact q _ s4)
    | _ => exact iteT (iteT (q _ (Same.refl _)))
end
end Ag

end
/-! ## A3 -/
section
set_option linter.all false
set_option maxRecDepth 100000
namespace Ag
open PySem PySem.Spec PyProof.Rows L2
open SX (S S_len S_cat S_inj)
theorem ix_lstK {X : Cx} (K : PySem.W.Frag) (hK : X.K = K) : IxR X (rIxL K) := by
  subst hK
  exact ix_list
theorem u10 {k : Nat} {A : Around} (hr : Room k A) : A.units + 10 < cLine := Nat.lt_of_le_of_lt (Nat.add_le_add_left (by decide : 10 ≤ 64) _) hr.units
theorem pick_rounds {n : Nat} {w : Nat → Nat} (hw : ∀ i, i < n → 1 ≤ w i) {k : Nat → Nat} {i m : Nat} (p : Fair.Pick n w k m i) : ∀ q, Fair.Pick n w (fun j => k j + q * w j) (m + q * Fair.tot n w) i
  | 0 => Fair.pick_congr (k := k) (fun j _ => by simp) (by simpa using p)
  | q + 1 => by
    have h := (Fair.pick_round hw).mp (pick_rounds hw p q)
    have e : m + q * Fair.tot n w + Fair.tot n w = m + (q + 1) * Fair.tot n w := by rw [Nat.add_mul, Nat.one_mul]; omega
    rw [e] at h
    exact Fair.pick_congr (fun j _ => by show k j + q * w j + w j = k j + (q + 1) * w j; rw [Nat.add_mul, Nat.one_mul]; omega) h
/-- the weights in a row -/
def wts (ps : List (List Nat × Nat)) : List Nat := (List.range ps.length).map (wF ps)
theorem wts_len (ps : List (List Nat × Nat)) : (wts ps).length = ps.length := by simp [wts]
theorem wts_at {ps : List (List Nat × Nat)} {j : Nat} (h : j < ps.length) : (wts ps)[j]? = some (wF ps j) := by
  unfold wts
  rw [List.getElem?_map, List.getElem?_range h]
  rfl
theorem wts_sum (ps : List (List Nat × Nat)) : ((wts ps).map fun k => ((k : Nat) : Int)).sum = ((tW ps : Nat) : Int) := by
  unfold wts
  rw [List.map_map]
  exact sum_range (wF ps) ps.length
theorem due_int {k w W d : Nat} (hw : 1 ≤ w) (hd : d = ((k + 1) * W + w - 1) / w) : (((k : Int) + 1) * (W : Int) + (w : Int) - 1) / (w : Int) = (d : Int) := by
  have hm : (((k + 1) * W : Nat) : Int) = ((k : Int) + 1) * (W : Nat) := by
    rw [Int.natCast_mul]
    rfl
  rw [hd, Int.natCast_ediv, ← hm]
  congr 1
  omega
/-- the state of the loop over the turns of a round -/
def AtI (H : Hp) (a : Addr) (ps : List (List Nat × Nat)) (WL C : Addr) (t ro re : Nat) (j : Nat) (σ : L2.St) (H' : Hp) : Prop :=
  ∃ (l : List Nat) (at_ : V) (x8 x9 x10 x11 x12 x13 x14 x15 x16 : Option V), σ = [some (.ref a), some (.int t), some (.ref WL), some (.int (tW ps : Nat)), some (.int ro), some (.int re), some (.ref C), some at_, x8, x9, x10, x11, x12, x13, x14, x15, x16] ∧
  Same H H' ∧ H' WL = some (.lst (ctV (wts ps))) ∧ H' C = some (.lst (ctV (csOf ps.length l))) ∧ Tn ps.length (wF ps) l ∧ ((j = 0 ∧ l = [] ∧ at_ = .non) ∨ (l.length + 1 = j ∧ ∃ i : Nat, at_ = .int i ∧ Fair.Pick ps.length (wF ps) (kc l) j i))
section
variable {P : Program} {w : World} {K : PySem.W.Frag} {mg : Str → Option Value} {base : Heap}
def spAtTime : Sp := fun vs H Q _ => ∃ a ts ps, ∃ t : Nat, vs = [.ref a, .int t] ∧ Pool a ts ps H ∧ ∀ T Z ks (i : Nat) H', Same H H' → H T = none → H Z = none → H' T = some (.tup [.ref Z, .int i]) → H' Z = some (.tup (ctV ks)) → ks.length = ps.length → Fair.Run ps.length (wF ps) (kF ks) t → Fair.Pick ps.length (wF ps) (kF ks) (t + 1) i → Q (.ref T) H'
set_option maxHeartbeats 2000000 in
theorem ok_attime {f : Addr} {fd : FuncData} (F : Fn K mg "_law_at_time" s__law_at_time ["_law_pool_here", "_law_t"] f fd) (B : Blt mg) : FnOk P w K mg base CX0 1 f fd ["_law_pool_here", "_law_t"] spAtTime := by
  refine F.F.ok sc__law_at_time (fun vs H Q E h => ?_) (fun cdv A outer s H vs Q E hr h => ?_)
  · obtain ⟨a, ts, ps, t, rfl, _⟩ := h
    rfl
  · obtain ⟨a, ts, ps, t, rfl, p, q⟩ := h
    refine ⟨_, (pss_cons (ps_set (i := 2) sc__law_at_time.nd rfl (.inr rfl) (pe_lc (own := [("_law_label", 12), ("_law_weight", 11)]) rfl sc__law_at_time.nd (pi_tup (pv 0)) (blkOk_by (N := N__law_at_time) (sc := defScope s__law_at_time) (by decide +kernel)) (fun _ _ _ _ _ => pg_two (i := 12) (j := 11) K rfl sc__law_at_time.nd rfl rfl rfl rfl rfl) (fun _ _ _ _ _ => pts_nil) (fun _ _ _ _ _ => (pv 11))))
      (pss_cons (ps_set (i := 3) sc__law_at_time.nd rfl (.inr rfl) (pe_callB (cr_sum rfl) (by rfl) B.n_sum (by decide +kernel) (pa_cons (pv 2) pa_nil)))
      (pss_cons (ps_asg (pe_tup (pa_cons (pe_op op_fdiv (pv 1) (pv 3)) (pa_cons (pe_op op_mod (pe_callTy call_int1 (by rfl) B.n_int (by decide +kernel) (pa_cons (pv 1) pa_nil)) (pv 3)) (pa_cons (pe_op op_rep (pe_lst (pa_cons pe_int pa_nil)) (pe_callB call_len_seq (by rfl) B.n_len PySem.boot_len (pa_cons (pv 0) pa_nil))) (pa_cons pe_non pa_nil))))) (pg_tup rfl (pgs_cons (pg_name (i := 4) sc__law_at_time.nd rfl (Or.inr rfl)) (pgs_cons (pg_name (i := 5) sc__law_at_time.nd rfl (Or.inl rfl)) (pgs_cons (pg_name (i := 6) sc__law_at_time.nd rfl (Or.inr rfl)) (pgs_cons (pg_name (i := 7) sc__law_at_time.nd rfl (Or.inl rfl)) pgs_nil))))))
      (pss_cons (ps_for PassesOwn.never rfl (pi_range2 (by rfl) B.n_range (pa_cons pe_int (pa_cons (pe_op op_add (pv 5) pe_int) pa_nil))) (pg_name (i := 8) sc__law_at_time.nd rfl (Or.inr rfl))
      (C8.pss_cut (ps_if (pt_cmpR op_notN (pv 7) pe_non (nomark _))
        (pss_one (ps_asg (pe_op op_add (pe_ix ix_list (pv 6) (pv 7) (fun _ _ => rfl)) pe_int) (pg_sub (pv 6) (pv 7) set_list)))
        pss_nil)
        (pss_cons (ps_setLc (i := 9) (own := [("_law_k", 14), ("_law_w", 13)]) rfl sc__law_at_time.nd rfl rfl (sw_true rfl rfl rfl (by decide +kernel)) (pi_zip (by rfl) B.n_zip (pa_cons (pv 6) (pa_cons (pv 2) pa_nil))) (blkOk_by (N := N__law_at_time) (sc := defScope s__law_at_time) (by decide +kernel)) (fun _ _ _ _ _ => pg_two (i := 14) (j := 13) K rfl sc__law_at_time.nd rfl rfl rfl rfl rfl) (fun _ _ _ _ _ => pts_nil) (fun _ _ _ _ _ => (pe_op op_fdiv (pe_op op_sub (pe_op op_add (pe_op op_mul (pe_op op_add (pv 14) pe_int) (pv 3)) (pv 13)) pe_int) (pv 13))))
        (pss_cons (ps_setLc (i := 10) (own := [("_law_i", 16), ("_law_due", 15)]) rfl sc__law_at_time.nd rfl rfl (sw_true rfl rfl rfl (by decide +kernel)) (pi_enum (by rfl) B.n_enumerate (pa_cons (pv 9) pa_nil)) (blkOk_by (N := N__law_at_time) (sc := defScope s__law_at_time) (by decide +kernel)) (fun _ _ _ _ _ => pg_two (i := 16) (j := 15) K rfl sc__law_at_time.nd rfl rfl rfl rfl rfl) (fun _ _ _ _ _ => (pts_one (pt_cmpR op_gt (pv 8) (pe_op op_fdiv (pe_op op_mul (pe_ix (ix_lstK K rfl) (pv 6) (pv 16) (fun _ _ => rfl)) (pv 3)) (pe_ix (ix_lstK K rfl) (pv 2) (pv 16) (fun _ _ => rfl))) (nomark _)))) (fun _ _ _ _ _ => (pe_tup (pa_cons (pv 15) (pa_cons (pv 16) pa_nil)))))
        (pss_one (ps_set (i := 7) sc__law_at_time.nd rfl (.inl rfl) (pe_ix ix_tup (pe_callB (cr_minP rfl (u10 hr)) (by rfl) B.n_min (by decide +kernel) (pa_cons (pv 10) pa_nil)) pe_int (fun _ _ => rfl))))))))
      (pss_one (ps_ret (pe_tup (pa_cons (pe_callTy call_tuple_of (by rfl) B.n_tuple (by decide +kernel) (pa_cons (pe_lc (own := [("_law_k", 14), ("_law_w", 13)]) rfl sc__law_at_time.nd (pi_zip (by rfl) B.n_zip (pa_cons (pv 6) (pa_cons (pv 2) pa_nil))) (blkOk_by (N := N__law_at_time) (sc := defScope s__law_at_time) (by decide +kernel)) (fun _ _ _ _ _ => pg_two (i := 14) (j := 13) K rfl sc__law_at_time.nd rfl rfl rfl rfl rfl) (fun _ _ _ _ _ => pts_nil) (fun _ _ _ _ _ => (pe_op op_add (pv 14) (pe_op op_mul (pv 4) (pv 13))))) pa_nil)) (pa_cons (pv 7) pa_nil))))))))), ?_⟩
    have n8 := p.ok.n8
    have n1 := p.ok.n1
    have ln := p.it.1
    have W8 := tW_le p.ok
    have W1 := tW_pos p.ok
    have tl : (ts.map V.ref).length = ps.length := by rw [List.length_map, ln]
    refine ⟨_, rfl, a, rfl, ⟨_, SqT.of p.at_⟩, fun WL hWL => ?_⟩
    refine lc_sel (walk_tup (K := K) (a := a) (xs := ts.map V.ref)) (fun _ => true) (fun i => .int ((wF ps i : Nat) : Int)) (by rw [List.length_map]; omega) hWL (fun H' s => SqT.of (s _ _ p.at_)) ?_ ?_
    · rintro j y H1 H2 k k0 hi s1 ⟨rfl, hy⟩ hk _
      obtain ⟨t, e, rfl, _, he, ht⟩ := (p.it.to s1).get hy
      have hk := hk rfl _ (Same.refl _)
      rw [wF_at he] at hk
      exact ⟨t, _, rfl, SqT.of ht, rfl, _, _, rfl, _, _, rfl, rfl, rfl, _, rfl, hk⟩
    · intro H1 s1 h1
      have e1 : (List.range (ts.map V.ref).length).map (fun i => V.int ((wF ps i : Nat) : Int)) = ctV (wts ps) := by
        unfold ctV wts
        rw [tl, List.map_map]
        rfl
      rw [filt_all, e1] at h1
      refine ⟨_, rfl, WL, (wts ps).map (fun k => ((k : Nat) : Int)), rfl, SqL.of (h1.trans (by rw [ctV_int])), ?_⟩
      rw [wts_sum]
      refine ⟨_, rfl, _, rfl, _, _, rfl, rfl, ⟨by omega, by omega⟩, _, rfl, .inl ⟨_, rfl, _, rfl, _, _, rfl, rfl, (by show (0 : Int) < (tW ps : Int); omega), ?_⟩⟩
      refine ⟨sz (by show 1 ≤ 16000000; decide), fun Z hZ => ?_⟩
      have s2 := s1.trans (same_new (o := .lst [.int 0]) hZ)
      have h2 := (same_new (o := .lst [.int 0]) hZ) _ _ h1
      have z2 : upd H1 Z (.lst [.int 0]) Z = some (.lst [.int 0]) := upd_same
      generalize upd H1 Z (.lst [.int 0]) = H2 at s2 h2 z2 ⊢
      refine ⟨_, rfl, a, _, rfl, .inr (SqT.of (s2 _ _ p.at_)), Z, _, _, rfl, rfl, z2, by omega, by omega, ?_, fun C hC => ?_⟩
      · rw [tl, sizeLine_eq]
        simp
        omega
      rw [tl, show ((ps.length : Nat) : Int).toNat = ps.length by simp, rep0]
      have nC : H C = none := s2.free hC
      have s3 := s2.trans (same_new (o := .lst (ctV (csOf ps.length []))) hC)
      have h3 := (same_new (o := .lst (ctV (csOf ps.length []))) hC) _ _ h2
      have c3 : upd H2 C (.lst (ctV (csOf ps.length []))) C = some (.lst (ctV (csOf ps.length []))) := upd_same
      generalize upd H2 C (.lst (ctV (csOf ps.length []))) = H3 at s3 h3 c3 ⊢
      have nWC : WL ≠ C := ne_of_none h2 hC
      refine ⟨sz (by show 4 ≤ 16000000; decide), fun T hT => ⟨T, _, rfl, SqT.of upd_same, rfl, _, _, rfl, _, _, rfl, _, _, rfl, _, _, rfl, rfl, ?_⟩⟩
      have s4 := s3.trans (same_new (o := .tup [.int ((t : Int) / (tW ps : Nat)), .int ((t : Int) % (tW ps : Nat)), .ref C, .non]) hT)
      have h4 := (same_new (o := .tup [.int ((t : Int) / (tW ps : Nat)), .int ((t : Int) % (tW ps : Nat)), .ref C, .non]) hT) _ _ h3
      have c4 := (same_new (o := .tup [.int ((t : Int) / (tW ps : Nat)), .int ((t : Int) % (tW ps : Nat)), .ref C, .non]) hT) _ _ c3
      have dm := Nat.div_add_mod t (tW ps)
      have lt := Nat.mod_lt t (show 0 < tW ps by omega)
      have ere : (((t % tW ps : Nat) : Int) + 2 - 1).toNat = t % tW ps + 1 := by omega
      refine ⟨_, rfl, _, _, rfl, rfl, 1, ((t % tW ps : Nat) : Int) + 2, rfl, ⟨by decide, by decide, by omega, by omega⟩, ?_⟩
      refine for_range (lo := 1) (n := (((t % tW ps : Nat) : Int) + 2 - 1).toNat) (AtI H a ps WL C t (t / tW ps) (t % tW ps)) ⟨[], .non, _, _, _, _, _, _, _, _, _, rfl, s4, h4, c4, .nil, .inl ⟨rfl, rfl, rfl⟩⟩ ?_ ?_
      · rintro j σ H5 hj ⟨l0, at0, x8, x9, x10, x11, x12, x13, x14, x15, x16, rfl, s5, hW5, hC5, tn0, alt⟩
        have hj : j < t % tW ps + 1 := by omega
        refine ⟨fun σ H' => ∃ (l : List Nat) (at_ : V), σ = [some (.ref a), some (.int t), some (.ref WL), some (.int (tW ps : Nat)), some (.int ((t / tW ps : Nat) : Int)), some (.int ((t % tW ps : Nat) : Int)), some (.ref C), some at_, some (.int (1 + (j : Int))), x9, x10, x11, x12, x13, x14, x15, x16] ∧
          Same H H' ∧ H' WL = some (.lst (ctV (wts ps))) ∧ H' C = some (.lst (ctV (csOf ps.length l))) ∧ Tn ps.length (wF ps) l ∧ l.length = j, ?_, ?_⟩
        · rcases alt with ⟨rfl, rfl, rfl⟩ | ⟨hlen, i, rfl, pk⟩
          · exact ⟨_, rfl, rfl, _, rfl, iteF ⟨[], .non, rfl, s5, hW5, hC5, .nil, rfl⟩⟩
          · refine ⟨_, rfl, rfl, _, rfl, iteT ?_⟩
            have hi := pk.lt
            refine ⟨_, rfl, _, rfl, C, _, _, _, rfl, rfl, SqL.of hC5, atI_nat (ctV_at (csOf_at hi)), _, _, rfl, rfl, _, rfl, _, rfl, C, _, _, i, rfl, rfl, hC5, ixN_nat (by rw [ctV_len, csOf_len]; exact hi), ?_⟩
            rw [csOf_snoc hi]
            subst hlen
            refine ⟨l0 ++ [i], .int i, rfl, fun b o e => ?_, ?_, upd_same, tn0.snoc pk, by simp⟩
            · rw [upd_ne (ne_of_none e nC)]
              exact s5 _ _ e
            · rw [upd_ne nWC]
              exact hW5
        · rintro σ H6 ⟨l, at_, rfl, s6, hW6, hC6, tn, hlen⟩
          have cnt : ∀ {i : Nat} {x : V}, (ctV (csOf ps.length l))[i]? = some x → i < ps.length → x = .int ((kc l i : Nat) : Int) := fun hx hi => by
            rw [ctV_at (csOf_at hi)] at hx
            exact (Option.some.inj hx).symm
          have wgt : ∀ {i : Nat} {x : V}, (ctV (wts ps))[i]? = some x → i < ps.length → x = .int ((wF ps i : Nat) : Int) := fun hx hi => by
            rw [ctV_at (wts_at hi)] at hx
            exact (Option.some.inj hx).symm
          refine ⟨_, rfl, _, rfl, C, WL, _, _, rfl, SqL.of hC6, SqL.of hW6, fun D hD => ?_⟩
          refine lc_sel (walk_zip (K := K) (a := C) (b := WL) (xs := ctV (csOf ps.length l)) (ys := ctV (wts ps)) (n := ps.length) (by rw [ctV_len, ctV_len, csOf_len, wts_len]; omega)) (fun _ => true) (fun i => .int ((Fair.due ps.length (wF ps) (kc l) i : Nat) : Int)) (by omega) hD (fun H' s => ⟨SqL.of (s _ _ hC6), SqL.of (s _ _ hW6)⟩) ?_ ?_
          · rintro i y H7 H8 k k0 hi s7 ⟨T, x, z, rfl, hT, rfl, hx, hz⟩ hk _
            obtain rfl := cnt hx hi
            obtain rfl := wgt hz hi
            have hk := hk rfl _ (same_new (o := .tup [.int ((kc l i : Nat) : Int), .int ((wF ps i : Nat) : Int)]) hT)
            have w1 := p.ok.w1 i hi
            have w9 := p.ok.w9 i hi
            rw [← due_int w1 (show Fair.due ps.length (wF ps) (kc l) i = ((kc l i + 1) * tW ps + wF ps i - 1) / wF ps i from rfl)] at hk
            exact ⟨T, _, rfl, SqT.of upd_same, rfl, _, _, rfl, _, _, rfl, rfl, rfl, _, rfl, _, _, rfl, rfl, _, rfl, _, _, rfl, rfl, .inr ⟨by omega, by omega⟩, _, rfl, _, _, rfl, rfl, _, _, rfl, rfl, _, rfl, _, _, rfl, rfl, ⟨by omega, by omega⟩, hk⟩
          · intro H7 s7 h7
            rw [filt_all] at h7
            have hC7 := s7 _ _ hC6
            have hW7 := s7 _ _ hW6
            have s67 := s6.trans s7
            refine ⟨_, rfl, D, _, rfl, SqL.of h7, fun D2 hD2 => ?_⟩
            have nD2 : H D2 = none := s67.free hD2
            have h7l : ((List.range ps.length).map fun i => V.int ((Fair.due ps.length (wF ps) (kc l) i : Nat) : Int)).length = ps.length := by simp
            have g2 : ∀ (H' : Hp) (o : HO), Same H7 H' → Same H7 (upd H' D2 o) := fun H' o r b u e => by rw [upd_ne (ne_of_none e hD2)]; exact r b u e
            refine lc_it (walk_enum (K := K) (a := D) (xs := (List.range ps.length).map fun i => V.int ((Fair.due ps.length (wF ps) (kc l) i : Nat) : Int))) (fun i H' => Same H7 H' ∧ ∃ ks : List (Addr × (Int × Int)), H' D2 = some (.lst (ks.map fun z => V.ref z.1)) ∧ ks.length ≤ i ∧
              (∀ z ∈ ks, z.1 ≠ D2 ∧ H' z.1 = some (.tup [.int z.2.1, .int z.2.2]) ∧ ∃ m, m < ps.length ∧ Fair.rdy ps.length (wF ps) (kc l) m (j + 1) ∧ z.2 = (((Fair.due ps.length (wF ps) (kc l) m : Nat) : Int), (m : Int))) ∧
              ∀ m, m < i → m < ps.length → Fair.rdy ps.length (wF ps) (kc l) m (j + 1) → ∃ z ∈ ks, z.2 = (((Fair.due ps.length (wF ps) (kc l) m : Nat) : Int), (m : Int)))
              ⟨g2 _ _ (Same.refl _), [], upd_same, Nat.le_refl _, (fun z hz => by cases hz), fun m hm => absurd hm (Nat.not_lt_zero _)⟩ (fun i H' _ z => SqL.of (z.1 _ _ h7)) ?_ ?_
            · rintro i y H8 H9 hi ⟨s8, ks, hks, kl, k1, k2⟩ ⟨T, x, z, rfl, hT, rfl, hx, hz⟩
              rw [h7l] at hi
              obtain rfl := Option.some.inj hx
              have hz : ((List.range ps.length).map fun i => V.int ((Fair.due ps.length (wF ps) (kc l) i : Nat) : Int))[i]? = some z := hz
              rw [List.getElem?_map, List.getElem?_range hi] at hz
              obtain rfl := Option.some.inj hz
              have w1 := p.ok.w1 i hi
              have w9 := p.ok.w9 i hi
              have s9 := s8.trans (same_new (o := .tup [.int (i : Nat), .int ((Fair.due ps.length (wF ps) (kc l) i : Nat) : Int)]) hT)
              have hT9 : upd H8 T (.tup [.int (i : Nat), .int ((Fair.due ps.length (wF ps) (kc l) i : Nat) : Int)]) T = some (.tup [.int (i : Nat), .int ((Fair.due ps.length (wF ps) (kc l) i : Nat) : Int)]) := upd_same
              have hks9 := same_new (o := .tup [.int (i : Nat), .int ((Fair.due ps.length (wF ps) (kc l) i : Nat) : Int)]) hT _ _ hks
              have k19 : ∀ z ∈ ks, z.1 ≠ D2 ∧ upd H8 T (.tup [.int (i : Nat), .int ((Fair.due ps.length (wF ps) (kc l) i : Nat) : Int)]) z.1 = some (.tup [.int z.2.1, .int z.2.2]) ∧ ∃ m, m < ps.length ∧ Fair.rdy ps.length (wF ps) (kc l) m (j + 1) ∧ z.2 = (((Fair.due ps.length (wF ps) (kc l) m : Nat) : Int), (m : Int)) := fun z hz => by
                obtain ⟨a1, a2, a3⟩ := k1 z hz
                exact ⟨a1, same_new hT _ _ a2, a3⟩
              clear k1 hks
              generalize upd H8 T (.tup [.int (i : Nat), .int ((Fair.due ps.length (wF ps) (kc l) i : Nat) : Int)]) = H9 at s9 hT9 hks9 k19 ⊢
              have hrd : ((1 : Int) + (j : Int)) > ((kc l i : Nat) : Int) * (tW ps : Int) / ((wF ps i : Nat) : Int) ↔ Fair.rdy ps.length (wF ps) (kc l) i (j + 1) := by
                unfold Fair.rdy
                rw [← Int.natCast_mul, ← Int.natCast_ediv]
                show _ ↔ kc l i * tW ps / wF ps i < j + 1
                omega
              refine ⟨T, _, rfl, SqT.of hT9, rfl, _, _, rfl, _, _, rfl, rfl, rfl, _, rfl, _, rfl, _, rfl, C, _, _, _, rfl, rfl, SqL.of (s9 _ _ hC7), atI_nat (ctV_at (csOf_at hi)), _, rfl, _, _, rfl, rfl, .inr ⟨by omega, by omega⟩, _, rfl, _, rfl, WL, _, _, _, rfl, rfl, SqL.of (s9 _ _ hW7), atI_nat (ctV_at (wts_at hi)), _, _, rfl, rfl, ⟨by omega, by omega⟩, _, _, rfl, rfl, _, rfl, ?_⟩
              refine ite2 (fun hr => ?_) (fun hr => ?_)
              · have hr := hrd.mp (of_decide_eq_true hr)
                refine ⟨_, rfl, _, rfl, sz (by show 2 ≤ 16000000; decide), fun T3 hT3 => ?_⟩
                have nT3 : D2 ≠ T3 := ne_of_none hks9 hT3
                have sA := s9.trans (same_new (o := .tup [.int ((Fair.due ps.length (wF ps) (kc l) i : Nat) : Int), .int (i : Nat)]) hT3)
                refine ⟨_, by rw [upd_ne nT3]; exact hks9, by rw [List.length_map, sizeLine_eq]; omega, g2 _ _ sA, ks ++ [(T3, (((Fair.due ps.length (wF ps) (kc l) i : Nat) : Int), (i : Int)))], by rw [upd_same, List.map_append]; rfl, by simp; omega, fun z hz => ?_, fun m hm hm2 hr2 => ?_⟩
                · rcases List.mem_append.mp hz with hz | hz
                  · obtain ⟨a1, a2, a3⟩ := k19 z hz
                    exact ⟨a1, by rw [upd_ne a1]; exact same_new hT3 _ _ a2, a3⟩
                  · rw [List.mem_singleton.mp hz]
                    exact ⟨nT3.symm, by rw [upd_ne nT3.symm, upd_same], i, hi, hr, rfl⟩
                · by_cases e : m = i
                  · subst e
                    exact ⟨_, List.mem_append_right _ (List.mem_singleton.mpr rfl), rfl⟩
                  · obtain ⟨z, hz, ez⟩ := k2 m (by omega) hm2 hr2
                    exact ⟨z, List.mem_append_left _ hz, ez⟩
              · have hr : ¬ Fair.rdy ps.length (wF ps) (kc l) i (j + 1) := fun q => hr (decide_eq_true (hrd.mpr q))
                refine ⟨s9, ks, hks9, by omega, k19, fun m hm hm2 hr2 => ?_⟩
                by_cases e : m = i
                · subst e
                  exact absurd hr2 hr
                · exact k2 m (by omega) hm2 hr2
            · rintro H8 ⟨s8, ks, hks, kl, k1, k2⟩
              rw [h7l] at k2
              have inv := tn.run.inv p.ok.n1 p.ok.w1
              obtain ⟨i0, pk⟩ := Fair.exists_pick p.ok.n1 p.ok.w1 inv.sum
              rw [hlen] at pk
              obtain ⟨z0, hz0, ez0⟩ := k2 i0 pk.lt pk.lt pk.rd
              refine ⟨_, rfl, D2, ks, rfl, SqL.of hks, List.ne_nil_of_mem hz0, fun z hz => (k1 z hz).2.1, fun z hz hmin => ?_⟩
              obtain ⟨_, hzt, m, hm, hr, ez⟩ := k1 z hz
              have em : m = i0 := by
                have h1 := hmin z0 hz0
                rw [ez0, ez] at h1
                have h2 := pk.least m hm hr
                unfold plt at h1
                simp only at h1
                omega
              subst em
              refine ⟨z.1, _, _, _, rfl, rfl, SqT.of hzt, atI_nat (j := 1) rfl, ?_⟩
              rw [ez]
              have s78 := s7.trans s8
              exact ⟨l, .int (m : Int), _, _, _, _, _, _, _, _, _, rfl, s6.trans s78, s78 _ _ hW6, s78 _ _ hC6, tn, .inr ⟨by omega, m, rfl, pk⟩⟩
      · rintro σ H5 ⟨l, at_, x8, x9, x10, x11, x12, x13, x14, x15, x16, rfl, s5, hW5, hC5, tn, alt⟩
        obtain ⟨hlen, i, rfl, pk⟩ : l.length + 1 = t % tW ps + 1 ∧ ∃ i : Nat, at_ = .int i ∧ Fair.Pick ps.length (wF ps) (kc l) (t % tW ps + 1) i := by
          rw [ere] at alt
          rcases alt with ⟨z, _⟩ | ⟨h1, h2⟩
          · exact absurd z (by omega)
          · exact ⟨h1, h2⟩
        have hlen : l.length = t % tW ps := by omega
        refine ⟨_, rfl, _, rfl, C, WL, _, _, rfl, SqL.of hC5, SqL.of hW5, fun D hD => ?_⟩
        refine lc_sel (walk_zip (K := K) (a := C) (b := WL) (xs := ctV (csOf ps.length l)) (ys := ctV (wts ps)) (n := ps.length) (by rw [ctV_len, ctV_len, csOf_len, wts_len]; omega)) (fun _ => true) (fun i => .int ((t / tW ps * wF ps i + l.count i : Nat) : Int)) (by omega) hD (fun H' s => ⟨SqL.of (s _ _ hC5), SqL.of (s _ _ hW5)⟩) ?_ ?_
        · rintro i y H7 H8 k k0 hi s7 ⟨T, x, z, rfl, hT, rfl, hx, hz⟩ hk _
          have hx : (ctV (csOf ps.length l))[i]? = some x := hx
          have hz : (ctV (wts ps))[i]? = some z := hz
          rw [ctV_at (csOf_at hi)] at hx
          rw [ctV_at (wts_at hi)] at hz
          obtain rfl := Option.some.inj hx
          obtain rfl := Option.some.inj hz
          have hk := hk rfl _ (same_new (o := .tup [.int ((l.count i : Nat) : Int), .int ((wF ps i : Nat) : Int)]) hT)
          have w1 := p.ok.w1 i hi
          have w9 := p.ok.w9 i hi
          have ev : ((t / tW ps * wF ps i + l.count i : Nat) : Int) = ((l.count i : Nat) : Int) + ((t / tW ps : Nat) : Int) * ((wF ps i : Nat) : Int) := by
            rw [Int.natCast_add, Int.natCast_mul, Int.add_comm]
          rw [ev] at hk
          exact ⟨T, _, rfl, SqT.of upd_same, rfl, _, _, rfl, _, _, rfl, rfl, rfl, _, rfl, _, rfl, _, rfl, _, _, rfl, rfl, .inr ⟨by omega, by omega⟩, _, _, rfl, rfl, hk⟩
        · intro H7 s7 h7
          have el : (List.range ps.length).map (fun i => V.int ((t / tW ps * wF ps i + l.count i : Nat) : Int)) = ctV (ksOf ps (t / tW ps) l) := by
            unfold ctV ksOf
            rw [List.map_map]
            rfl
          rw [filt_all, el] at h7
          have s57 := s5.trans s7
          refine ⟨D, _, rfl, .inl ⟨SqL.of h7, fun Z2 hZ2 => ?_⟩⟩
          have s8 := s57.trans (same_new (o := .tup (ctV (ksOf ps (t / tW ps) l))) hZ2)
          have hZ8 : upd H7 Z2 (.tup (ctV (ksOf ps (t / tW ps) l))) Z2 = some (.tup (ctV (ksOf ps (t / tW ps) l))) := upd_same
          have nZ := s57.free hZ2
          generalize upd H7 Z2 (.tup (ctV (ksOf ps (t / tW ps) l))) = H8 at s8 hZ8 ⊢
          refine ⟨_, rfl, sz (by show 2 ≤ 16000000; decide), fun T2 hT2 => ?_⟩
          have run := ksOf_run (r := t / tW ps) p.ok tn
          have et : l.length + t / tW ps * tW ps = t := by rw [hlen, Nat.mul_comm]; omega
          rw [et] at run
          have pk2 := pick_rounds p.ok.w1 pk (t / tW ps)
          have ep : t % tW ps + 1 + t / tW ps * Fair.tot ps.length (wF ps) = t + 1 := by
            show t % tW ps + 1 + t / tW ps * tW ps = t + 1
            rw [Nat.mul_comm]
            omega
          rw [ep] at pk2
          refine q T2 Z2 (ksOf ps (t / tW ps) l) i _ (s8.trans (same_new hT2)) (s8.free hT2) nZ upd_same (same_new hT2 _ _ hZ8) (ksOf_len _ _ _) run (Fair.pick_congr (fun m hm => ?_) pk2)
          show kc l m + t / tW ps * wF ps m = kF (ksOf ps (t / tW ps) l) m
          have : (ksOf ps (t / tW ps) l)[m]? = some (t / tW ps * wF ps m + l.count m) := by
            unfold ksOf
            rw [List.getElem?_map, List.getElem?_range hm]
            rfl
          rw [kF_at this]
          exact Nat.add_comm _ _
end
end Ag

end
/-! ## A5 -/
section
set_option linter.all false
set_option maxRecDepth 100000
set_option maxHeartbeats 4000000
namespace Ag
open PySem PySem.Spec PyProof.Rows L2
open SX (S S_len S_cat S_inj)
/-! ### an own exception class whose __init__ keeps one thing -/
abbrev s_BC : Stmt := inClass (top 8) 0
abbrev N_BC : List Str := ["self", "thing"]
theorem sc_BC : FnScope N_BC ["self", "thing"] (defScope s_BC) := ⟨rfl, rfl, rfl, by decide +kernel, rfl, by decide +kernel, by decide +kernel⟩
structure ExcI (K : PySem.W.Frag) (mg : Str → Option Value) (x qual : Str) (st : Stmt) (C fI : Addr) (fd : FuncData) : Prop where
  E : OexE K C
  X : XfC K C
  no : PySem.W.findIn K (.ref C) "thing" = some none
  i : PySem.W.findIn K (.ref C) "__init__" = some (some (.ref fI)) ∧ PySem.W.typeIn K (.ref fI) = some (.type "function")
  F : Fun K "__init__" qual st fI fd
  b : Binds K fd ["self", "thing"] []
  g : mg x = some (.ref C)
  ex : PySem.W.exmOne K (.ref C) (.ref C) = some true
def spIni (K : PySem.W.Frag) : Sp := fun vs H Q _ => ∃ (a C : Addr) (y : V), vs = [.ref a, y] ∧ OexE K C ∧ PySem.W.findIn K (.ref C) "thing" = some none ∧ H a = some (exo a C none) ∧ ∀ dx, H dx = none → dx ≠ a → Q .non (upd (upd H dx (exd dx [("thing", y)])) a (exo a C (some dx)))
/-! ### counts, of any data -/
abbrev ctD (cs : List Nat) : List PyData := cs.map fun k => PyData.int ((k : Nat) : Int)
def nonnegB : PyData → Bool
  | .int i => decide (0 ≤ i)
  | _ => false
def loadsB (n : Nat) : PyData → Bool
  | .tuple xs => decide (xs.length = n) && xs.all nonnegB
  | _ => false
theorem loads_ct (cs : List Nat) : loadsB cs.length (.tuple (ctD cs)) = true := by
  simp [loadsB, List.all_map, nonnegB]
theorem nats_of_D {p c : Addr} {H : Hp} : ∀ {vs : List V} {ds : List PyData}, DgA p c H vs ds → ds.all nonnegB = true → ∃ cs : List Nat, ds = ctD cs ∧ vs = ctV cs
  | [], [], _, _ => ⟨[], rfl, rfl⟩
  | v :: vs, d :: ds, .cons h t, e => by
    rw [List.all_cons, Bool.and_eq_true] at e
    obtain ⟨cs, rfl, rfl⟩ := nats_of_D t e.2
    cases h with
    | int i =>
      have h0 : 0 ≤ i := of_decide_eq_true e.1
      obtain ⟨n, rfl⟩ := Int.eq_ofNat_of_zero_le h0
      exact ⟨n :: cs, rfl, rfl⟩
    | _ => exact absurd e.1 (by simp [nonnegB])
theorem eqv_ct : ∀ a b : List Nat, PyData.eqvAll (ctD a) (ctD b) = decide (a = b)
  | [], [] => by simp [PyData.eqvAll]
  | [], _ :: _ => by simp [PyData.eqvAll]
  | _ :: _, [] => by simp [PyData.eqvAll]
  | x :: a, y :: b => by
    show PyData.eqvAll (PyData.int (x : Int) :: ctD a) (PyData.int (y : Int) :: ctD b) = _
    simp only [PyData.eqvAll, PyData.eqv, eqv_ct a b]
    rw [Bool.eq_iff_iff]
    simp
    omega
/-- counts after some number of turns -/
def Right (ps : List (List Nat × Nat)) (d : PyData) : Prop := ∃ cs : List Nat, d = .tuple (ctD cs) ∧ cs.length = ps.length ∧ Fair.Run ps.length (wF ps) (kF cs) cs.sum
section
variable {P : Program} {w : World} {K : PySem.W.Frag} {mg : Str → Option Value} {base : Heap} {tw tp tg : Tok}
theorem ok_ini {f : Addr} {fd : FuncData} (F : Fun K "__init__" "BadCounts.__init__" s_BC f fd) : FnOk P w K mg base CX0 1 f fd ["self", "thing"] (spIni K) := by
  refine F.ok sc_BC (fun vs H Q E h => ?_) (fun cdv A outer s H vs Q E hr h => ?_)
  · obtain ⟨a, C, y, rfl, _⟩ := h
    rfl
  · obtain ⟨a, C, y, rfl, T, hno, ea, q⟩ := h
    refine ⟨_, pss_one (psE_ost (pv 0) (pv 1)), ?_⟩
    exact ⟨_, rfl, _, rfl, a, C, rfl, T, hno, ea, q⟩
def spLoadsG : Sp := fun vs H Q _ => ∃ p c a ts ps v d, vs = [.ref a, v] ∧ Pool a ts ps H ∧ Dg p c H v d ∧ ∀ H', Same H H' → Q (.bl (loadsB ps.length d)) H'
theorem ok_loadsG {f f1 : Addr} {fd fd1 : FuncData} (F : Fn K mg "are_loads" s_are_loads ["pool", "thing"] f fd) (B : Con mg tw tp tg) (F_is_integer : Fn K mg "is_integer" s_is_integer ["thing"] f1 fd1) : FnOk P w K mg base CX0 2 f fd ["pool", "thing"] spLoadsG := by
  have G_is_integer : FnOk P w K mg base CX0 1 f1 fd1 ["thing"] spIntG := ok_intG F_is_integer B
  refine F.F.ok sc_are_loads (fun vs H Q E h => ?_) (fun cdv A outer s H vs Q E hr h => ?_)
  · obtain ⟨p, c, a, ts, ps, v, d, rfl, _⟩ := h
    rfl
  · obtain ⟨p, c, a, ts, ps, v, d, rfl, pl, hd, q⟩ := h
    refine ⟨_, (pss_cons (ps_if (PW.pt (pw_or (pt_not (pt_val (pe_callB call_isi (by rfl) B.n_isinstance (by decide +kernel) (pa_cons (pv 1) (pa_cons (pe_bltn (v := .ty "tuple") (by rfl) B.n_tuple (by decide +kernel) rfl) pa_nil))))) (pw_or1 (pt_cmpR op_ne (pe_callB call_len_seq (by rfl) B.n_len PySem.boot_len (pa_cons (pv 1) pa_nil)) (pe_callB call_len_seq (by rfl) B.n_len PySem.boot_len (pa_cons (pv 0) pa_nil)) (nomark _)))))
      (pss_one (ps_ret pe_bl))
      pss_nil)
      (pss_one (ps_ret (pe_callB (cr_all rfl) (by rfl) B.n_all (by decide +kernel) (pa_cons (pe_lc (own := [("load", 2)]) rfl sc_are_loads.nd (pi_tup (pv 1)) (blkOk_by (N := N_are_loads) (sc := defScope s_are_loads) (by decide +kernel)) (fun _ _ _ _ _ => (pg_name (i := 2) sc_are_loads.nd rfl (Or.inl rfl))) (fun _ _ _ _ _ => pts_nil) (fun _ _ _ _ _ => (pe_and (pe_call G_is_integer (hr.mono (by decide)) (by rfl) F_is_integer.g F_is_integer.F.kp F_is_integer.b .nil pass0 (pa_cons (pv 2) pa_nil)) (pe_one (pe_cmpR op_ge (pv 2) pe_int (nomark _)))))) pa_nil))))), ?_⟩
    have n8 := pl.ok.n8
    have ln := pl.it.1
    refine ⟨v, rfl, v, .ty "tuple", _, _, _, rfl, .ty "tuple", hd.tyx, isi_T d, _, rfl, ?_⟩
    cases hd with
    | tup at_ da =>
      rename_i t xs ds
      have hl := da.len
      refine iteF ⟨_, rfl, t, _, rfl, .inr (SqT.of at_.2.2), _, rfl, a, _, rfl, .inr (SqT.of pl.at_), rfl, _, rfl, ?_⟩
      have q : ∀ H', Same H H' → Q (.bl (decide (ds.length = ps.length) && ds.all nonnegB)) H' := q
      by_cases e : ds.length = ps.length
      · rw [decide_eq_true e, Bool.true_and] at q
        rw [decide_eq_true (by rw [List.length_map, hl, ln, e])]
        refine iteF ⟨_, rfl, t, rfl, ⟨_, SqT.of at_.2.2⟩, fun D hD => ?_⟩
        refine lc_sel (walk_tup (K := K) (a := t) (xs := xs)) (fun _ => true) (fun i => .bl (nonnegB ((ds[i]?).getD .none))) (by omega) hD (fun H' s => SqT.of (s _ _ at_.2.2)) ?_ ?_
        · rintro j y H1 H2 k k0 hi s1 ⟨rfl, hy⟩ hk _
          obtain ⟨d', hd', dd⟩ := da.at_ hy
          have hk := hk rfl _ (Same.refl _)
          rw [hd'] at hk
          have dd := dd.to (Kp.same s1)
          refine ⟨rfl, _, rfl, p, c, y, d', rfl, dd, _, rfl, ?_⟩
          cases dd with
          | int i => exact iteT ⟨_, rfl, _, _, rfl, rfl, hk⟩
          | _ => exact iteF hk
        · intro H1 s1 h1
          rw [filt_all, bls_map] at h1
          refine ⟨D, _, rfl, SqL.of h1, ?_⟩
          have eall : ((List.range xs.length).map fun i => nonnegB ((ds[i]?).getD .none)).all id = ds.all nonnegB := by
            rw [hl, map_at ds fun o => nonnegB (o.getD .none)]
            simp [List.all_map]
          rw [eall]
          exact q _ s1
      · rw [decide_eq_false e, Bool.false_and] at q
        rw [decide_eq_false (fun z => e (by have := V.int.inj z; rw [List.length_map, hl, ln] at this; omega))]
        exact iteT (q _ (Same.refl _))
    | _ => exact iteT (iteT (q _ (Same.refl _)))
def spCountsG : Sp := fun vs H Q _ => ∃ p c a ts ps v d, vs = [.ref a, v] ∧ Pool a ts ps H ∧ Dg p c H v d ∧ ∀ (b : Bool) H', Same H H' → (b = true ↔ Right ps d) → Q (.bl b) H'
theorem ok_countsG {f f1 f2 : Addr} {fd fd1 fd2 : FuncData} (F : Fn K mg "are_counts" s_are_counts ["pool", "thing"] f fd) (B : Blt mg) (F_are_loads : Fn K mg "are_loads" s_are_loads ["pool", "thing"] f1 fd1) (G_are_loads : FnOk P w K mg base CX0 2 f1 fd1 ["pool", "thing"] spLoadsG)
    (F_counts_from_start : Fn K mg "counts_from_start" s_counts_from_start ["pool", "many"] f2 fd2) (G_counts_from_start : FnOk P w K mg base CX0 4 f2 fd2 ["pool", "many"] spFrom) : FnOk P w K mg base CX0 5 f fd ["pool", "thing"] spCountsG := by
  refine F.F.ok sc_are_counts (fun vs H Q E h => ?_) (fun cdv A outer s H vs Q E hr h => ?_)
  · obtain ⟨p, c, a, ts, ps, v, d, rfl, _⟩ := h
    rfl
  · obtain ⟨p, c, a, ts, ps, v, d, rfl, pl, hd, q⟩ := h
    refine ⟨_, (pss_one (ps_ret (pe_and (pe_call G_are_loads (hr.mono (by decide)) (by rfl) F_are_loads.g F_are_loads.F.kp F_are_loads.b .nil pass0 (pa_cons (pv 0) (pa_cons (pv 1) pa_nil))) (pe_one (pe_cmpR (op_eqD hr.units) (pe_call G_counts_from_start (hr.mono (by decide)) (by rfl) F_counts_from_start.g F_counts_from_start.F.kp F_counts_from_start.b .nil pass0 (pa_cons (pv 0) (pa_cons (pe_callB (cr_sumT rfl) (by rfl) B.n_sum (by decide +kernel) (pa_cons (pv 1) pa_nil)) pa_nil))) (pv 1) (nomark _)))))), ?_⟩
    refine ⟨_, rfl, _, rfl, p, c, a, ts, ps, v, d, rfl, pl, hd, fun H1 s1 => ⟨_, rfl, ?_⟩⟩
    cases hb : loadsB ps.length d with
    | false =>
      refine iteF (q false _ s1 ⟨fun z => (by cases z), fun z => ?_⟩)
      obtain ⟨cs, rfl, hl, _⟩ := z
      rw [← hl, loads_ct] at hb
      cases hb
    | true =>
      refine iteT ?_
      cases hd with
      | tup at_ da =>
        rename_i t xs ds
        simp only [loadsB, Bool.and_eq_true, decide_eq_true_eq] at hb
        obtain ⟨cs, rfl, rfl⟩ := nats_of_D da hb.2
        have hl : cs.length = ps.length := by rw [← hb.1]; simp
        have hc := at_.2.2
        refine ⟨_, rfl, _, rfl, t, cs.map (fun k => ((k : Nat) : Int)), rfl, SqT.of ((s1 _ _ hc).trans (by rw [ctV_int])), ?_⟩
        rw [sum_int]
        refine ⟨a, ts, ps, cs.sum, rfl, pl.to s1, fun t2 ks H2 s2 ht hkl hkr => ?_⟩
        have s12 := s1.trans s2
        refine ⟨_, rfl, .tuple (ctD ks), .tuple (ctD cs), .tup (SqT.of ht) (dp_ct ks), .tup (SqT.of (s12 _ _ hc)) (dp_ct cs), shaped_ct ks, shaped_ct cs, ?_⟩
        rw [show PyData.eqv (.tuple (ctD ks)) (.tuple (ctD cs)) = decide (ks = cs) by simp only [PyData.eqv]; exact eqv_ct ks cs]
        refine q _ _ s12 ⟨fun z => ?_, fun z => ?_⟩
        · have e := of_decide_eq_true z
          subst e
          exact ⟨ks, rfl, hl, hkr⟩
        · obtain ⟨cs', e, hl', hr'⟩ := z
          have e2 : ∀ a b : List Nat, ctD a = ctD b → a = b := fun a b h => by
            have := eqv_ct a b
            rw [h, eqv_ct b b, decide_eq_true rfl] at this
            exact of_decide_eq_true this.symm
          have e3 : cs = cs' := e2 _ _ (by injection e)
          subst e3
          exact decide_eq_true (kF_ext (hkl.trans hl.symm) (hkr.uniq hr'))
      | _ => simp [loadsB] at hb
def spNextG (C : Addr) : Sp := fun vs H Q E => ∃ p c a ts ps v d, vs = [.ref a, v] ∧ Pool a ts ps H ∧ Dg p c H v d ∧
  (∀ cs, d = .tuple (ctD cs) → cs.length = ps.length → Fair.Run ps.length (wF ps) (kF cs) cs.sum → ∀ (i : Nat) H', Same H H' → Fair.Pick ps.length (wF ps) (kF cs) (cs.sum + 1) i → Q (.int (i : Int)) H') ∧
  (¬ Right ps d → ∀ dx H', Same H H' → H dx = none → H' dx = some (.xd [("thing", v)]) → E (.ref C) (some dx) H')
theorem ok_nextG {f f1 f2 f3 fI C : Addr} {fd fd1 fd2 fd3 fdI : FuncData} (F : Fn K mg "next_turn" s_next_turn ["pool", "counts"] f fd) (B : Con mg tw tp tg) (F_is_pool : Fn K mg "is_pool" s_is_pool ["thing"] f1 fd1) (G_is_pool : FnOk P w K mg base CX0 3 f1 fd1 ["thing"] spPool)
    (F_are_counts : Fn K mg "are_counts" s_are_counts ["pool", "thing"] f2 fd2) (G_are_counts : FnOk P w K mg base CX0 5 f2 fd2 ["pool", "thing"] spCountsG) (F_turn_after : Fn K mg "turn_after" s_turn_after ["pool", "counts"] f3 fd3) (G_turn_after : FnOk P w K mg base CX0 2 f3 fd3 ["pool", "counts"] spAfter)
    (TE : ExcI K mg "BadCounts" "BadCounts.__init__" s_BC C fI fdI) : FnOk P w K mg base (L2.CX P w) 6 f fd ["pool", "counts"] (spNextG C) := by
  have G_ini : FnOk P w K mg base CX0 1 fI fdI ["self", "thing"] (spIni K) := ok_ini TE.F
  refine F.F.okX sc_next_turn (fun vs H Q E h => ?_) (fun cdv A outer s H vs Q E hr h => ?_)
  · obtain ⟨p, c, a, ts, ps, v, d, rfl, _⟩ := h
    rfl
  · obtain ⟨p, c, a, ts, ps, v, d, rfl, pl, hd, q1, q2⟩ := h
    refine ⟨_, (pss_cons (ps_if (pt_not (pt_val (pe_call G_is_pool (hr.mono (by decide)) (by rfl) F_is_pool.g F_is_pool.F.kp F_is_pool.b .nil pass0 (pa_cons (pv 0) pa_nil))))
      (pss_one ps_never)
      pss_nil)
      (pss_cons (ps_if (pt_not (pt_val (pe_call G_are_counts (hr.mono (by decide)) (by rfl) F_are_counts.g F_are_counts.F.kp F_are_counts.b .nil pass0 (pa_cons (pv 0) (pa_cons (pv 1) pa_nil)))))
      (pss_one (ps_raise rfl (takes_of rfl rfl rfl rfl) (pmkE TE.E TE.i G_ini (hr.mono (by decide)) TE.b pass0 (by rfl) TE.g (pa_cons (pv 1) pa_nil))))
      pss_nil)
      (pss_one (ps_ret (pe_call G_turn_after (hr.mono (by decide)) (by rfl) F_turn_after.g F_turn_after.F.kp F_turn_after.b .nil pass0 (pa_cons (pv 0) (pa_cons (pv 1) pa_nil))))))), ?_⟩
    refine ⟨_, rfl, a, ts, ps, rfl, pl, fun H1 s1 => ⟨_, rfl, iteF ?_⟩⟩
    refine ⟨_, rfl, _, rfl, p, c, a, ts, ps, v, d, rfl, pl.to s1, hd.to (Kp.same s1), fun b H2 s2 hb => ⟨_, rfl, ?_⟩⟩
    have s12 := s1.trans s2
    cases b with
    | false =>
      have hn : ¬ Right ps d := fun z => by
        have := hb.mpr z
        cases this
      refine iteT ⟨_, rfl, Nat.le_of_ble_eq_true rfl, fun x hx => ?_⟩
      refine ⟨x, C, _, rfl, TE.E, TE.no, upd_same, fun dx hdx ne => ⟨rfl, dx, _, upd_same, by rw [upd_ne ne, upd_same], by rw [upd_ne ne] at hdx; exact hdx, ?_⟩⟩
      rw [upd_ne ne] at hdx
      refine q2 hn dx _ (fun b o e => ?_) (s12.free hdx) upd_same
      have e' := s12 _ _ e
      have nb1 : b ≠ dx := ne_of_none e' hdx
      have nb2 : b ≠ x := ne_of_none e' hx
      rw [upd_ne nb1, del_ne nb2, upd_ne nb2, upd_ne nb1, upd_ne nb2]
      exact e'
    | true =>
      obtain ⟨cs, rfl, hl, hrun⟩ := hb.mp rfl
      refine iteF ?_
      have hd2 := hd.to (Kp.same s12)
      cases hd2 with
      | tup at_ da =>
        rename_i t xs
        obtain ⟨cs', e, rfl⟩ := nats_of_D da (by simp [List.all_map, nonnegB])
        have e2 : cs = cs' := by
          have := eqv_ct cs cs'
          rw [e, eqv_ct cs' cs', decide_eq_true rfl] at this
          exact of_decide_eq_true this.symm
        subst e2
        exact ⟨_, rfl, _, rfl, a, ts, ps, t, cs, rfl, pl.to s12, .inr at_.2.2, hl, fun i H3 s3 pk => q1 cs rfl hl hrun i H3 (s12.trans s3) pk⟩
def spTried : Sp := fun vs H Q _ => ∃ p c a ts ps v d, vs = [.ref a, v] ∧ Pool a ts ps H ∧ Dg p c H v d ∧
  (∀ cs, d = .tuple (ctD cs) → cs.length = ps.length → Fair.Run ps.length (wF ps) (kF cs) cs.sum → ∀ (i : Nat) H', Same H H' → Fair.Pick ps.length (wF ps) (kF cs) (cs.sum + 1) i → Q (.int (i : Int)) H') ∧
  (¬ Right ps d → ∀ T H', Same H H' → H T = none → H' T = some (.tup [.str (Str.ofString "BadCounts"), v]) → Q (.ref T) H')
theorem ok_tried {f f1 fI C : Addr} {fd fd1 fdI : FuncData} (F : Fn K mg "_law_tried" s__law_tried ["_law_pool_here", "_law_counts"] f fd) (B : Con mg tw tp tg) (F_next_turn : Fn K mg "next_turn" s_next_turn ["pool", "counts"] f1 fd1) (G_next_turn : FnOk P w K mg base (L2.CX P w) 6 f1 fd1 ["pool", "counts"] (spNextG C))
    (TE : ExcI K mg "BadCounts" "BadCounts.__init__" s_BC C fI fdI) : FnOk P w K mg base CX0 7 f fd ["_law_pool_here", "_law_counts"] spTried := by
  refine F.F.ok sc__law_tried (fun vs H Q E h => ?_) (fun cdv A outer s H vs Q E hr h => ?_)
  · obtain ⟨p, c, a, ts, ps, v, d, rfl, _⟩ := h
    rfl
  · obtain ⟨p, c, a, ts, ps, v, d, rfl, pl, hd, q1, q2⟩ := h
    refine ⟨_, (pss_cons (ps_set (i := 2) sc__law_tried.nd rfl (.inl rfl) pe_non)
      (pss_cons (ps_try_as (i := 3) rfl rfl sc__law_tried.nd rfl rfl ⟨rfl, by decide, .inl TE.g⟩ L2.takes0 (fun W pn xe tk _ => pss_one (ps_set (i := 2) sc__law_tried.nd rfl (.inl rfl) (pe_callS G_next_turn hr (by rfl) F_next_turn.g F_next_turn.F.kp F_next_turn.b (fun σ => passAt tk σ) (pa_cons (pv 0) (pa_cons (pv 1) pa_nil))))) (fun a oe cls d pn hz hf => pss_one (ps_set (i := 2) sc__law_tried.nd rfl (.inl rfl) (pe_tup (pa_cons pe_str (pa_cons (pe_xf TE.X TE.no hz hf (pv 3)) pa_nil))))))
      (pss_one (ps_ret (pv 2))))), ?_⟩
    refine ⟨_, rfl, _, rfl, p, c, a, ts, ps, v, d, rfl, pl, hd, fun cs e hl hrun i H' sm pk => ?_, fun hn dx H' sm hdx h1 => ?_⟩
    · exact ⟨_, rfl, q1 cs e hl hrun i H' sm pk⟩
    · refine ⟨true, TE.ex, fun _ x hx => ?_, fun z => by cases z⟩
      refine ⟨_, rfl, rfl, rfl, dx, _, v, rfl, h1, rfl, sz (by show 2 ≤ 16000000; decide), fun T hT => ?_⟩
      exact ⟨_, rfl, q2 hn T _ (sm.trans (same_new hT)) (sm.free hT) upd_same⟩
end
end Ag

end
/-! ## B1 -/
section
set_option linter.all false
set_option maxRecDepth 100000
set_option maxHeartbeats 4000000
namespace Ag
open PySem PySem.Spec PyProof.Rows L2
open SX (S S_len S_cat S_inj)
theorem emptyS : (Str.ofString "") = S [] := by decide +kernel
theorem tildeS : (Str.ofString "~") = S [126] := by decide +kernel
theorem aS : (Str.ofString "a") = S [97] := by decide +kernel
theorem bS : (Str.ofString "b") = S [98] := by decide +kernel
theorem menuS : (Str.ofString "abcxyz 019:,~!") = S [97,98,99,120,121,122,32,48,49,57,58,44,126,33] := by decide +kernel
theorem azzS : (Str.ofString "abcdefghijklmnopqrstuvwxyz") = S ((List.range 26).map (· + 97)) := by decide +kernel
def asc (l : List Nat) : Prop := l.all (· < 128) = true
theorem asc_flat {zs : List (List Nat)} (h : ∀ z ∈ zs, asc z) : asc zs.flatten := by
  unfold asc at *
  rw [List.all_flatten, List.all_eq_true]
  exact h
theorem okS {l : List Nat} (h : asc l) (h2 : l.length ≤ 300) : strOkB (S l) = true := by
  simp only [strOkB, Bool.and_eq_true, decide_eq_true_eq]
  exact ⟨h, by rw [show (S l).cps.size = l.length from List.size_toArray ..]; exact h2⟩
theorem szS (l : List Nat) : (S l).cps.size = l.length := List.size_toArray ..
theorem Gx.kp {p c : Addr} {H H' : Hp} (g : Gx p c H H') : Kp p c H H' := g.1
/-- any good data comes out -/
def Outs (p c : Addr) (H : Hp) (G : PyData → Prop) (Q : VK) : Prop := ∀ v d H', Gx p c H H' → Dg p c H' v d → G d → Q v H'
theorem At.to {p c a : Addr} {H H' : Hp} {o : HO} (h : At p c H a o) (g : Kp p c H H') : At p c H' a o := h.kp g
theorem Dg.lstE {p c t : Addr} {H : Hp} {ds : List PyData} (h : Dg p c H (.ref t) (.list ds)) : ∃ xs, At p c H t (.lst xs) ∧ DgA p c H xs ds := by
  cases h with
  | lst a b => exact ⟨_, a, b⟩
theorem Dg.tupE {p c t : Addr} {H : Hp} {ds : List PyData} (h : Dg p c H (.ref t) (.tuple ds)) : ∃ xs, At p c H t (.tup xs) ∧ DgA p c H xs ds := by
  cases h with
  | tup a b => exact ⟨_, a, b⟩
/-- small data of any kind -/
def oddB (d : PyData) : Bool := (okV true d || okV false d) && (decide (d.depth ≤ 3) && decide (d.bulk ≤ 400))
def oddG (d : PyData) : Prop := ∃ q, Gd q d 3 400
theorem odd_good {ds : List PyData} (h : ds.all oddB = true) {d : PyData} (hd : d ∈ ds) : oddG d := by
  have := List.all_eq_true.mp h d hd
  unfold oddB at this
  rw [Bool.and_eq_true, Bool.and_eq_true, decide_eq_true_eq, decide_eq_true_eq, Bool.or_eq_true] at this
  rcases this.1 with h1 | h1
  · exact ⟨true, h1, this.2.1, this.2.2⟩
  · exact ⟨false, h1, this.2.1, this.2.2⟩
section
variable {P : Program} {w : World} {K : PySem.W.Frag} {mg : Str → Option Value} {base : Heap} 
def spOdd : Sp := fun vs H Q _ => ∃ (p c : Addr), vs = [.ref p] ∧ Dk p c H ∧ Outs p c H oddG Q
theorem ok_odd {f f2 f1 : Addr} {fd fd2 fd1 : FuncData} (F : Fn K mg "_law_odd" s__law_odd ["_law_deck"] f fd) (B : Blt mg) (F__law_draw : Fn K mg "_law_draw" s__law_draw ["_law_deck", "_law_many"] f1 fd1) (F__law_pick : Fn K mg "_law_pick" s__law_pick ["_law_deck", "_law_some"] f2 fd2) :
    FnOk P w K mg base CX0 3 f fd ["_law_deck"] spOdd := by
  have G__law_pick : FnOk P w K mg base CX0 2 f2 fd2 ["_law_deck", "_law_some"] spPick := ok_pick F__law_pick B F__law_draw
  refine F.F.ok sc__law_odd (fun vs H Q E h => ?_) (fun cdv A outer s H vs Q E hr h => ?_)
  · obtain ⟨p, c, rfl, _⟩ := h
    rfl
  · obtain ⟨p, c, rfl, dk, q⟩ := h
    refine ⟨_, (pss_cons (ps_set (i := 1) sc__law_odd.nd rfl (.inl rfl) (pe_lst (pa_cons pe_non (pa_cons pe_bl (pa_cons pe_bl (pa_cons (pe_un un_neg pe_int) (pa_cons pe_int (pa_cons pe_int (pa_cons pe_int (pa_cons (pe_op op_pow pe_int pe_int) (pa_cons (pe_op op_add (pe_op op_pow pe_int pe_int) pe_int) (pa_cons (pe_op op_pow pe_int pe_int) (pa_cons pe_str (pa_cons pe_str (pa_cons pe_str (pa_cons pe_str (pa_cons pe_str (pa_cons pe_str (pa_cons (pe_tup pa_nil) (pa_cons (pe_tup (pa_cons pe_int pa_nil)) (pa_cons (pe_tup (pa_cons pe_int pa_nil)) pa_nil)))))))))))))))))))))
      (pss_cons (ps_set (i := 1) sc__law_odd.nd rfl (.inl rfl) (pe_op op_cat (pv 1) (pe_lst (pa_cons (pe_lst pa_nil) (pa_cons pe_dnewK (pa_cons (pe_lst (pa_cons pe_str pa_nil)) (pa_cons (pe_disp (pps_cons pe_str pe_int pps_nil) (by rfl) (by rfl) (fun z => by cases z) (by decide)) (pa_cons (pe_tup (pa_cons pe_str pa_nil)) (pa_cons pe_str (pa_cons pe_str (pa_cons pe_str (pa_cons (pe_op op_rep_str pe_str pe_int) (pa_cons (pe_tup (pa_cons pe_int (pa_cons pe_int pa_nil))) (pa_cons (pe_tup (pa_cons pe_int (pa_cons pe_int pa_nil))) (pa_cons (pe_tup (pa_cons pe_non pa_nil)) (pa_cons (pe_tup (pa_cons pe_bl pa_nil)) (pa_cons pe_str (pa_cons pe_int pa_nil))))))))))))))))))
      (pss_one (ps_ret (pe_call G__law_pick (hr.mono (by decide)) (by rfl) F__law_pick.g F__law_pick.F.kp F__law_pick.b .nil pass0 (pa_cons (pv 0) (pa_cons (pe_op op_cat (pv 1) (pe_lst (pa_cons (pe_tup (pa_cons pe_str (pa_cons pe_int pa_nil))) (pa_cons (pe_tup (pa_cons pe_str pa_nil)) (pa_cons (pe_tup (pa_cons pe_str (pa_cons pe_int pa_nil))) (pa_cons (pe_tup (pa_cons pe_str pa_nil)) (pa_cons (pe_tup (pa_cons pe_str pa_nil)) (pa_cons (pe_tup (pa_cons (pe_tup (pa_cons pe_str pa_nil)) pa_nil)) (pa_cons (pe_tup (pa_cons (pe_tup pa_nil) (pa_cons (pe_tup pa_nil) pa_nil))) (pa_cons pe_int (pa_cons pe_int pa_nil))))))))))) pa_nil))))))), ?_⟩
    have g0 := Gx.refl dk
    refine ⟨_, rfl, _, _, rfl, rfl, ⟨by decide, by decide, by decide⟩, _, _, rfl, rfl, ⟨by decide, by decide, by decide⟩, _, _, rfl, rfl, _, _, rfl, rfl, ⟨by decide, by decide, by decide⟩, sz (by show 0 ≤ 16000000; decide), fun t1 ht1 => ?_⟩
    have s1 := same_new (o := .tup []) ht1
    have a1 := At.new (o := .tup []) g0.2 ht1
    have g1 := g0.trans (Gx.same g0.2 s1)
    have x1 : Dg p c (upd H t1 (.tup [])) (.ref t1) (.tuple []) := .tup a1 (.nil)
    generalize upd H t1 (.tup []) = H1 at g1 x1 ⊢
    refine ⟨sz (by show 1 ≤ 16000000; decide), fun t2 ht2 => ?_⟩
    have s2 := same_new (o := .tup [.int 0]) ht2
    have a2 := At.new (o := .tup [.int 0]) g1.2 ht2
    have g2 := g1.trans (Gx.same g1.2 s2)
    have x1 := x1.to (.same s2)
    have x2 : Dg p c (upd H1 t2 (.tup [.int 0])) (.ref t2) (.tuple [.int 0]) := .tup a2 (.cons (.int 0) (.nil))
    generalize upd H1 t2 (.tup [.int 0]) = H2 at g2 x2 x1 ⊢
    refine ⟨sz (by show 1 ≤ 16000000; decide), fun t3 ht3 => ?_⟩
    have s3 := same_new (o := .tup [.int 1]) ht3
    have a3 := At.new (o := .tup [.int 1]) g2.2 ht3
    have g3 := g2.trans (Gx.same g2.2 s3)
    have x1 := x1.to (.same s3)
    have x2 := x2.to (.same s3)
    have x3 : Dg p c (upd H2 t3 (.tup [.int 1])) (.ref t3) (.tuple [.int 1]) := .tup a3 (.cons (.int 1) (.nil))
    generalize upd H2 t3 (.tup [.int 1]) = H3 at g3 x3 x1 x2 ⊢
    refine ⟨sz (by show 19 ≤ 16000000; decide), fun t4 ht4 => ?_⟩
    have s4 := same_new (o := .lst [.non, .bl true, .bl false, .int (-1), .int 0, .int 1, .int 2, .int ((10 : Int) ^ (9 : Int).toNat), .int (((10 : Int) ^ (9 : Int).toNat) + 1), .int ((10 : Int) ^ (39 : Int).toNat), .str (Str.ofString ""), .str (Str.ofString "a"), .str (Str.ofString "A"), .str (Str.ofString "abcdefghijk"), .str (Str.ofString "a b"), .str (Str.ofString "a\n"), .ref t1, .ref t2, .ref t3]) ht4
    have a4 := At.new (o := .lst [.non, .bl true, .bl false, .int (-1), .int 0, .int 1, .int 2, .int ((10 : Int) ^ (9 : Int).toNat), .int (((10 : Int) ^ (9 : Int).toNat) + 1), .int ((10 : Int) ^ (39 : Int).toNat), .str (Str.ofString ""), .str (Str.ofString "a"), .str (Str.ofString "A"), .str (Str.ofString "abcdefghijk"), .str (Str.ofString "a b"), .str (Str.ofString "a\n"), .ref t1, .ref t2, .ref t3]) g3.2 ht4
    have g4 := g3.trans (Gx.same g3.2 s4)
    have x1 := x1.to (.same s4)
    have x2 := x2.to (.same s4)
    have x3 := x3.to (.same s4)
    have x4 : Dg p c (upd H3 t4 (.lst [.non, .bl true, .bl false, .int (-1), .int 0, .int 1, .int 2, .int ((10 : Int) ^ (9 : Int).toNat), .int (((10 : Int) ^ (9 : Int).toNat) + 1), .int ((10 : Int) ^ (39 : Int).toNat), .str (Str.ofString ""), .str (Str.ofString "a"), .str (Str.ofString "A"), .str (Str.ofString "abcdefghijk"), .str (Str.ofString "a b"), .str (Str.ofString "a\n"), .ref t1, .ref t2, .ref t3])) (.ref t4) (.list [.none, .bool true, .bool false, .int (-1), .int 0, .int 1, .int 2, .int ((10 : Int) ^ (9 : Int).toNat), .int (((10 : Int) ^ (9 : Int).toNat) + 1), .int ((10 : Int) ^ (39 : Int).toNat), .str (Str.ofString ""), .str (Str.ofString "a"), .str (Str.ofString "A"), .str (Str.ofString "abcdefghijk"), .str (Str.ofString "a b"), .str (Str.ofString "a\n"), .tuple [], .tuple [.int 0], .tuple [.int 1]]) := .lst a4 (.cons (.non) (.cons (.bl true) (.cons (.bl false) (.cons (.int (-1)) (.cons (.int 0) (.cons (.int 1) (.cons (.int 2) (.cons (.int ((10 : Int) ^ (9 : Int).toNat)) (.cons (.int (((10 : Int) ^ (9 : Int).toNat) + 1)) (.cons (.int ((10 : Int) ^ (39 : Int).toNat)) (.cons (.str (Str.ofString "")) (.cons (.str (Str.ofString "a")) (.cons (.str (Str.ofString "A")) (.cons (.str (Str.ofString "abcdefghijk")) (.cons (.str (Str.ofString "a b")) (.cons (.str (Str.ofString "a\n")) (.cons x1 (.cons x2 (.cons x3 (.nil))))))))))))))))))))
    generalize upd H3 t4 (.lst [.non, .bl true, .bl false, .int (-1), .int 0, .int 1, .int 2, .int ((10 : Int) ^ (9 : Int).toNat), .int (((10 : Int) ^ (9 : Int).toNat) + 1), .int ((10 : Int) ^ (39 : Int).toNat), .str (Str.ofString ""), .str (Str.ofString "a"), .str (Str.ofString "A"), .str (Str.ofString "abcdefghijk"), .str (Str.ofString "a b"), .str (Str.ofString "a\n"), .ref t1, .ref t2, .ref t3]) = H4 at g4 x4 ⊢
    have y1 := x4
    refine ⟨_, rfl, sz (by show 0 ≤ 16000000; decide), fun t5 ht5 => ?_⟩
    have s5 := same_new (o := .lst []) ht5
    have a5 := At.new (o := .lst []) g4.2 ht5
    have g5 := g4.trans (Gx.same g4.2 s5)
    have y1 := y1.to (.same s5)
    have x5 : Dg p c (upd H4 t5 (.lst [])) (.ref t5) (.list []) := .lst a5 (.nil)
    generalize upd H4 t5 (.lst []) = H5 at g5 x5 y1 ⊢
    refine fun t6 ht6 => ?_
    have s6 := same_new (o := .dK []) ht6
    have a6 := At.new (o := .dK []) g5.2 ht6
    have g6 := g5.trans (Gx.same g5.2 s6)
    have y1 := y1.to (.same s6)
    have x5 := x5.to (.same s6)
    have x6 : Dg p c (upd H5 t6 (.dK [])) (.ref t6) (.dict []) := .dic a6 .nil
    generalize upd H5 t6 (.dK []) = H6 at g6 x6 y1 x5 ⊢
    refine ⟨sz (by show 1 ≤ 16000000; decide), fun t7 ht7 => ?_⟩
    have s7 := same_new (o := .lst [.str (Str.ofString "a")]) ht7
    have a7 := At.new (o := .lst [.str (Str.ofString "a")]) g6.2 ht7
    have g7 := g6.trans (Gx.same g6.2 s7)
    have y1 := y1.to (.same s7)
    have x5 := x5.to (.same s7)
    have x6 := x6.to (.same s7)
    have x7 : Dg p c (upd H6 t7 (.lst [.str (Str.ofString "a")])) (.ref t7) (.list [.str (Str.ofString "a")]) := .lst a7 (.cons (.str (Str.ofString "a")) (.nil))
    generalize upd H6 t7 (.lst [.str (Str.ofString "a")]) = H7 at g7 x7 y1 x5 x6 ⊢
    refine fun t8 ht8 => ?_
    refine ⟨upd_same, [(Sum.inr (Str.ofString "a"), .int 1)], rfl, by show 1 ≤ 15; decide, ?_⟩
    rw [show mergeK [] [(Sum.inr (Str.ofString "a"), .int 1)] = [(Sum.inr (Str.ofString "a"), .int 1)] from by simp [mergeK, putK], upd_upd]
    have s8 := same_new (o := .dK [(Sum.inr (Str.ofString "a"), .int 1)]) ht8
    have a8 := At.new (o := .dK [(Sum.inr (Str.ofString "a"), .int 1)]) g7.2 ht8
    have g8 := g7.trans (Gx.same g7.2 s8)
    have y1 := y1.to (.same s8)
    have x5 := x5.to (.same s8)
    have x6 := x6.to (.same s8)
    have x7 := x7.to (.same s8)
    have x8 : Dg p c (upd H7 t8 (.dK [(Sum.inr (Str.ofString "a"), .int 1)])) (.ref t8) (.dict [(.str (Str.ofString "a"), .int 1)]) := .dic a8 (.cons (k := Sum.inr (Str.ofString "a")) (.int 1) (.nil))
    generalize upd H7 t8 (.dK [(Sum.inr (Str.ofString "a"), .int 1)]) = H8 at g8 x8 y1 x5 x6 x7 ⊢
    refine ⟨sz (by show 1 ≤ 16000000; decide), fun t9 ht9 => ?_⟩
    have s9 := same_new (o := .tup [.str (Str.ofString "a")]) ht9
    have a9 := At.new (o := .tup [.str (Str.ofString "a")]) g8.2 ht9
    have g9 := g8.trans (Gx.same g8.2 s9)
    have y1 := y1.to (.same s9)
    have x5 := x5.to (.same s9)
    have x6 := x6.to (.same s9)
    have x7 := x7.to (.same s9)
    have x8 := x8.to (.same s9)
    have x9 : Dg p c (upd H8 t9 (.tup [.str (Str.ofString "a")])) (.ref t9) (.tuple [.str (Str.ofString "a")]) := .tup a9 (.cons (.str (Str.ofString "a")) (.nil))
    generalize upd H8 t9 (.tup [.str (Str.ofString "a")]) = H9 at g9 x9 y1 x5 x6 x7 x8 ⊢
    refine ⟨[97], 151, congrArg V.str (by decide +kernel), rfl, by decide, by decide, by decide, sz (by show 2 ≤ 16000000; decide), fun t10 ht10 => ?_⟩
    have s10 := same_new (o := .tup [.int 1, .int 1]) ht10
    have a10 := At.new (o := .tup [.int 1, .int 1]) g9.2 ht10
    have g10 := g9.trans (Gx.same g9.2 s10)
    have y1 := y1.to (.same s10)
    have x5 := x5.to (.same s10)
    have x6 := x6.to (.same s10)
    have x7 := x7.to (.same s10)
    have x8 := x8.to (.same s10)
    have x9 := x9.to (.same s10)
    have x10 : Dg p c (upd H9 t10 (.tup [.int 1, .int 1])) (.ref t10) (.tuple [.int 1, .int 1]) := .tup a10 (.cons (.int 1) (.cons (.int 1) (.nil)))
    generalize upd H9 t10 (.tup [.int 1, .int 1]) = H10 at g10 x10 y1 x5 x6 x7 x8 x9 ⊢
    refine ⟨sz (by show 2 ≤ 16000000; decide), fun t11 ht11 => ?_⟩
    have s11 := same_new (o := .tup [.int 2, .int 1]) ht11
    have a11 := At.new (o := .tup [.int 2, .int 1]) g10.2 ht11
    have g11 := g10.trans (Gx.same g10.2 s11)
    have y1 := y1.to (.same s11)
    have x5 := x5.to (.same s11)
    have x6 := x6.to (.same s11)
    have x7 := x7.to (.same s11)
    have x8 := x8.to (.same s11)
    have x9 := x9.to (.same s11)
    have x10 := x10.to (.same s11)
    have x11 : Dg p c (upd H10 t11 (.tup [.int 2, .int 1])) (.ref t11) (.tuple [.int 2, .int 1]) := .tup a11 (.cons (.int 2) (.cons (.int 1) (.nil)))
    generalize upd H10 t11 (.tup [.int 2, .int 1]) = H11 at g11 x11 y1 x5 x6 x7 x8 x9 x10 ⊢
    refine ⟨sz (by show 1 ≤ 16000000; decide), fun t12 ht12 => ?_⟩
    have s12 := same_new (o := .tup [.non]) ht12
    have a12 := At.new (o := .tup [.non]) g11.2 ht12
    have g12 := g11.trans (Gx.same g11.2 s12)
    have y1 := y1.to (.same s12)
    have x5 := x5.to (.same s12)
    have x6 := x6.to (.same s12)
    have x7 := x7.to (.same s12)
    have x8 := x8.to (.same s12)
    have x9 := x9.to (.same s12)
    have x10 := x10.to (.same s12)
    have x11 := x11.to (.same s12)
    have x12 : Dg p c (upd H11 t12 (.tup [.non])) (.ref t12) (.tuple [.none]) := .tup a12 (.cons (.non) (.nil))
    generalize upd H11 t12 (.tup [.non]) = H12 at g12 x12 y1 x5 x6 x7 x8 x9 x10 x11 ⊢
    refine ⟨sz (by show 1 ≤ 16000000; decide), fun t13 ht13 => ?_⟩
    have s13 := same_new (o := .tup [.bl true]) ht13
    have a13 := At.new (o := .tup [.bl true]) g12.2 ht13
    have g13 := g12.trans (Gx.same g12.2 s13)
    have y1 := y1.to (.same s13)
    have x5 := x5.to (.same s13)
    have x6 := x6.to (.same s13)
    have x7 := x7.to (.same s13)
    have x8 := x8.to (.same s13)
    have x9 := x9.to (.same s13)
    have x10 := x10.to (.same s13)
    have x11 := x11.to (.same s13)
    have x12 := x12.to (.same s13)
    have x13 : Dg p c (upd H12 t13 (.tup [.bl true])) (.ref t13) (.tuple [.bool true]) := .tup a13 (.cons (.bl true) (.nil))
    generalize upd H12 t13 (.tup [.bl true]) = H13 at g13 x13 y1 x5 x6 x7 x8 x9 x10 x11 x12 ⊢
    refine ⟨sz (by show 15 ≤ 16000000; decide), fun t14 ht14 => ?_⟩
    have s14 := same_new (o := .lst [.ref t5, .ref t6, .ref t7, .ref t8, .ref t9, .str (Str.ofString "open"), .str (Str.ofString "broken"), .str (Str.ofString "closed"), .str (S (List.replicate 151 [97]).flatten), .ref t10, .ref t11, .ref t12, .ref t13, .str (Str.ofString "\n"), .int 41]) ht14
    have a14 := At.new (o := .lst [.ref t5, .ref t6, .ref t7, .ref t8, .ref t9, .str (Str.ofString "open"), .str (Str.ofString "broken"), .str (Str.ofString "closed"), .str (S (List.replicate 151 [97]).flatten), .ref t10, .ref t11, .ref t12, .ref t13, .str (Str.ofString "\n"), .int 41]) g13.2 ht14
    have g14 := g13.trans (Gx.same g13.2 s14)
    have y1 := y1.to (.same s14)
    have x5 := x5.to (.same s14)
    have x6 := x6.to (.same s14)
    have x7 := x7.to (.same s14)
    have x8 := x8.to (.same s14)
    have x9 := x9.to (.same s14)
    have x10 := x10.to (.same s14)
    have x11 := x11.to (.same s14)
    have x12 := x12.to (.same s14)
    have x13 := x13.to (.same s14)
    have x14 : Dg p c (upd H13 t14 (.lst [.ref t5, .ref t6, .ref t7, .ref t8, .ref t9, .str (Str.ofString "open"), .str (Str.ofString "broken"), .str (Str.ofString "closed"), .str (S (List.replicate 151 [97]).flatten), .ref t10, .ref t11, .ref t12, .ref t13, .str (Str.ofString "\n"), .int 41])) (.ref t14) (.list [.list [], .dict [], .list [.str (Str.ofString "a")], .dict [(.str (Str.ofString "a"), .int 1)], .tuple [.str (Str.ofString "a")], .str (Str.ofString "open"), .str (Str.ofString "broken"), .str (Str.ofString "closed"), .str (S (List.replicate 151 [97]).flatten), .tuple [.int 1, .int 1], .tuple [.int 2, .int 1], .tuple [.none], .tuple [.bool true], .str (Str.ofString "\n"), .int 41]) := .lst a14 (.cons x5 (.cons x6 (.cons x7 (.cons x8 (.cons x9 (.cons (.str (Str.ofString "open")) (.cons (.str (Str.ofString "broken")) (.cons (.str (Str.ofString "closed")) (.cons (.str (S (List.replicate 151 [97]).flatten)) (.cons x10 (.cons x11 (.cons x12 (.cons x13 (.cons (.str (Str.ofString "\n")) (.cons (.int 41) (.nil))))))))))))))))
    generalize upd H13 t14 (.lst [.ref t5, .ref t6, .ref t7, .ref t8, .ref t9, .str (Str.ofString "open"), .str (Str.ofString "broken"), .str (Str.ofString "closed"), .str (S (List.replicate 151 [97]).flatten), .ref t10, .ref t11, .ref t12, .ref t13, .str (Str.ofString "\n"), .int 41]) = H14 at g14 x14 y1 ⊢
    obtain ⟨xs1, at1, da1⟩ := Dg.lstE y1
    obtain ⟨xs2, at2, da2⟩ := Dg.lstE x14
    refine ⟨_, _, xs1, xs2, rfl, rfl, at1.2.2, at2.2.2, by rw [da1.len, da2.len]; exact sz (by decide +kernel), fun tc htc => ?_⟩
    have sc := same_new (o := .lst (xs1 ++ xs2)) htc
    have atc := At.new (o := .lst (xs1 ++ xs2)) g14.2 htc
    have gc := g14.trans (Gx.same g14.2 sc)
    have y2 := Dg.lst atc ((da1.to (.same sc)).app (da2.to (.same sc)))
    generalize upd H14 tc (.lst (xs1 ++ xs2)) = Hc at gc y2 ⊢
    refine ⟨_, rfl, _, rfl, sz (by show 2 ≤ 16000000; decide), fun t15 ht15 => ?_⟩
    have s15 := same_new (o := .tup [.str (Str.ofString "take"), .int 1]) ht15
    have a15 := At.new (o := .tup [.str (Str.ofString "take"), .int 1]) gc.2 ht15
    have g15 := gc.trans (Gx.same gc.2 s15)
    have y2 := y2.to (.same s15)
    have x15 : Dg p c (upd Hc t15 (.tup [.str (Str.ofString "take"), .int 1])) (.ref t15) (.tuple [.str (Str.ofString "take"), .int 1]) := .tup a15 (.cons (.str (Str.ofString "take")) (.cons (.int 1) (.nil)))
    generalize upd Hc t15 (.tup [.str (Str.ofString "take"), .int 1]) = H15 at g15 x15 y2 ⊢
    refine ⟨sz (by show 1 ≤ 16000000; decide), fun t16 ht16 => ?_⟩
    have s16 := same_new (o := .tup [.str (Str.ofString "begin")]) ht16
    have a16 := At.new (o := .tup [.str (Str.ofString "begin")]) g15.2 ht16
    have g16 := g15.trans (Gx.same g15.2 s16)
    have y2 := y2.to (.same s16)
    have x15 := x15.to (.same s16)
    have x16 : Dg p c (upd H15 t16 (.tup [.str (Str.ofString "begin")])) (.ref t16) (.tuple [.str (Str.ofString "begin")]) := .tup a16 (.cons (.str (Str.ofString "begin")) (.nil))
    generalize upd H15 t16 (.tup [.str (Str.ofString "begin")]) = H16 at g16 x16 y2 x15 ⊢
    refine ⟨sz (by show 2 ≤ 16000000; decide), fun t17 ht17 => ?_⟩
    have s17 := same_new (o := .tup [.str (Str.ofString "answer"), .int 1]) ht17
    have a17 := At.new (o := .tup [.str (Str.ofString "answer"), .int 1]) g16.2 ht17
    have g17 := g16.trans (Gx.same g16.2 s17)
    have y2 := y2.to (.same s17)
    have x15 := x15.to (.same s17)
    have x16 := x16.to (.same s17)
    have x17 : Dg p c (upd H16 t17 (.tup [.str (Str.ofString "answer"), .int 1])) (.ref t17) (.tuple [.str (Str.ofString "answer"), .int 1]) := .tup a17 (.cons (.str (Str.ofString "answer")) (.cons (.int 1) (.nil)))
    generalize upd H16 t17 (.tup [.str (Str.ofString "answer"), .int 1]) = H17 at g17 x17 y2 x15 x16 ⊢
    refine ⟨sz (by show 1 ≤ 16000000; decide), fun t18 ht18 => ?_⟩
    have s18 := same_new (o := .tup [.str (Str.ofString "leave")]) ht18
    have a18 := At.new (o := .tup [.str (Str.ofString "leave")]) g17.2 ht18
    have g18 := g17.trans (Gx.same g17.2 s18)
    have y2 := y2.to (.same s18)
    have x15 := x15.to (.same s18)
    have x16 := x16.to (.same s18)
    have x17 := x17.to (.same s18)
    have x18 : Dg p c (upd H17 t18 (.tup [.str (Str.ofString "leave")])) (.ref t18) (.tuple [.str (Str.ofString "leave")]) := .tup a18 (.cons (.str (Str.ofString "leave")) (.nil))
    generalize upd H17 t18 (.tup [.str (Str.ofString "leave")]) = H18 at g18 x18 y2 x15 x16 x17 ⊢
    refine ⟨sz (by show 1 ≤ 16000000; decide), fun t19 ht19 => ?_⟩
    have s19 := same_new (o := .tup [.str (Str.ofString "close")]) ht19
    have a19 := At.new (o := .tup [.str (Str.ofString "close")]) g18.2 ht19
    have g19 := g18.trans (Gx.same g18.2 s19)
    have y2 := y2.to (.same s19)
    have x15 := x15.to (.same s19)
    have x16 := x16.to (.same s19)
    have x17 := x17.to (.same s19)
    have x18 := x18.to (.same s19)
    have x19 : Dg p c (upd H18 t19 (.tup [.str (Str.ofString "close")])) (.ref t19) (.tuple [.str (Str.ofString "close")]) := .tup a19 (.cons (.str (Str.ofString "close")) (.nil))
    generalize upd H18 t19 (.tup [.str (Str.ofString "close")]) = H19 at g19 x19 y2 x15 x16 x17 x18 ⊢
    refine ⟨sz (by show 1 ≤ 16000000; decide), fun t20 ht20 => ?_⟩
    have s20 := same_new (o := .tup [.str (Str.ofString "begin")]) ht20
    have a20 := At.new (o := .tup [.str (Str.ofString "begin")]) g19.2 ht20
    have g20 := g19.trans (Gx.same g19.2 s20)
    have y2 := y2.to (.same s20)
    have x15 := x15.to (.same s20)
    have x16 := x16.to (.same s20)
    have x17 := x17.to (.same s20)
    have x18 := x18.to (.same s20)
    have x19 := x19.to (.same s20)
    have x20 : Dg p c (upd H19 t20 (.tup [.str (Str.ofString "begin")])) (.ref t20) (.tuple [.str (Str.ofString "begin")]) := .tup a20 (.cons (.str (Str.ofString "begin")) (.nil))
    generalize upd H19 t20 (.tup [.str (Str.ofString "begin")]) = H20 at g20 x20 y2 x15 x16 x17 x18 x19 ⊢
    refine ⟨sz (by show 1 ≤ 16000000; decide), fun t21 ht21 => ?_⟩
    have s21 := same_new (o := .tup [.ref t20]) ht21
    have a21 := At.new (o := .tup [.ref t20]) g20.2 ht21
    have g21 := g20.trans (Gx.same g20.2 s21)
    have y2 := y2.to (.same s21)
    have x15 := x15.to (.same s21)
    have x16 := x16.to (.same s21)
    have x17 := x17.to (.same s21)
    have x18 := x18.to (.same s21)
    have x19 := x19.to (.same s21)
    have x20 := x20.to (.same s21)
    have x21 : Dg p c (upd H20 t21 (.tup [.ref t20])) (.ref t21) (.tuple [.tuple [.str (Str.ofString "begin")]]) := .tup a21 (.cons x20 (.nil))
    generalize upd H20 t21 (.tup [.ref t20]) = H21 at g21 x21 y2 x15 x16 x17 x18 x19 ⊢
    refine ⟨sz (by show 0 ≤ 16000000; decide), fun t22 ht22 => ?_⟩
    have s22 := same_new (o := .tup []) ht22
    have a22 := At.new (o := .tup []) g21.2 ht22
    have g22 := g21.trans (Gx.same g21.2 s22)
    have y2 := y2.to (.same s22)
    have x15 := x15.to (.same s22)
    have x16 := x16.to (.same s22)
    have x17 := x17.to (.same s22)
    have x18 := x18.to (.same s22)
    have x19 := x19.to (.same s22)
    have x21 := x21.to (.same s22)
    have x22 : Dg p c (upd H21 t22 (.tup [])) (.ref t22) (.tuple []) := .tup a22 (.nil)
    generalize upd H21 t22 (.tup []) = H22 at g22 x22 y2 x15 x16 x17 x18 x19 x21 ⊢
    refine ⟨sz (by show 0 ≤ 16000000; decide), fun t23 ht23 => ?_⟩
    have s23 := same_new (o := .tup []) ht23
    have a23 := At.new (o := .tup []) g22.2 ht23
    have g23 := g22.trans (Gx.same g22.2 s23)
    have y2 := y2.to (.same s23)
    have x15 := x15.to (.same s23)
    have x16 := x16.to (.same s23)
    have x17 := x17.to (.same s23)
    have x18 := x18.to (.same s23)
    have x19 := x19.to (.same s23)
    have x21 := x21.to (.same s23)
    have x22 := x22.to (.same s23)
    have x23 : Dg p c (upd H22 t23 (.tup [])) (.ref t23) (.tuple []) := .tup a23 (.nil)
    generalize upd H22 t23 (.tup []) = H23 at g23 x23 y2 x15 x16 x17 x18 x19 x21 x22 ⊢
    refine ⟨sz (by show 2 ≤ 16000000; decide), fun t24 ht24 => ?_⟩
    have s24 := same_new (o := .tup [.ref t22, .ref t23]) ht24
    have a24 := At.new (o := .tup [.ref t22, .ref t23]) g23.2 ht24
    have g24 := g23.trans (Gx.same g23.2 s24)
    have y2 := y2.to (.same s24)
    have x15 := x15.to (.same s24)
    have x16 := x16.to (.same s24)
    have x17 := x17.to (.same s24)
    have x18 := x18.to (.same s24)
    have x19 := x19.to (.same s24)
    have x21 := x21.to (.same s24)
    have x22 := x22.to (.same s24)
    have x23 := x23.to (.same s24)
    have x24 : Dg p c (upd H23 t24 (.tup [.ref t22, .ref t23])) (.ref t24) (.tuple [.tuple [], .tuple []]) := .tup a24 (.cons x22 (.cons x23 (.nil)))
    generalize upd H23 t24 (.tup [.ref t22, .ref t23]) = H24 at g24 x24 y2 x15 x16 x17 x18 x19 x21 ⊢
    refine ⟨sz (by show 9 ≤ 16000000; decide), fun t25 ht25 => ?_⟩
    have s25 := same_new (o := .lst [.ref t15, .ref t16, .ref t17, .ref t18, .ref t19, .ref t21, .ref t24, .int 3, .int 40]) ht25
    have a25 := At.new (o := .lst [.ref t15, .ref t16, .ref t17, .ref t18, .ref t19, .ref t21, .ref t24, .int 3, .int 40]) g24.2 ht25
    have g25 := g24.trans (Gx.same g24.2 s25)
    have y2 := y2.to (.same s25)
    have x15 := x15.to (.same s25)
    have x16 := x16.to (.same s25)
    have x17 := x17.to (.same s25)
    have x18 := x18.to (.same s25)
    have x19 := x19.to (.same s25)
    have x21 := x21.to (.same s25)
    have x24 := x24.to (.same s25)
    have x25 : Dg p c (upd H24 t25 (.lst [.ref t15, .ref t16, .ref t17, .ref t18, .ref t19, .ref t21, .ref t24, .int 3, .int 40])) (.ref t25) (.list [.tuple [.str (Str.ofString "take"), .int 1], .tuple [.str (Str.ofString "begin")], .tuple [.str (Str.ofString "answer"), .int 1], .tuple [.str (Str.ofString "leave")], .tuple [.str (Str.ofString "close")], .tuple [.tuple [.str (Str.ofString "begin")]], .tuple [.tuple [], .tuple []], .int 3, .int 40]) := .lst a25 (.cons x15 (.cons x16 (.cons x17 (.cons x18 (.cons x19 (.cons x21 (.cons x24 (.cons (.int 3) (.cons (.int 40) (.nil))))))))))
    generalize upd H24 t25 (.lst [.ref t15, .ref t16, .ref t17, .ref t18, .ref t19, .ref t21, .ref t24, .int 3, .int 40]) = H25 at g25 x25 y2 ⊢
    obtain ⟨xs3, at3, da3⟩ := Dg.lstE y2
    obtain ⟨xs4, at4, da4⟩ := Dg.lstE x25
    refine ⟨_, _, xs3, xs4, rfl, rfl, at3.2.2, at4.2.2, by rw [da3.len, da4.len]; exact sz (by decide +kernel), fun td htd => ?_⟩
    have sd := same_new (o := .lst (xs3 ++ xs4)) htd
    have atd := At.new (o := .lst (xs3 ++ xs4)) g25.2 htd
    have gd := g25.trans (Gx.same g25.2 sd)
    have da := (da3.to (.same sd)).app (da4.to (.same sd))
    refine ⟨p, c, .ref td, rfl, gd.2, .inl ⟨td, _, rfl, atd, by rw [da.len]; decide +kernel, by rw [da.len]; decide +kernel, fun r x H9 hx g9 => ?_⟩⟩
    obtain ⟨d, hd, hdg⟩ := da.at_ hx
    exact q x d H9 (gd.trans g9) (hdg.to g9.kp) (odd_good (by decide +kernel) (List.mem_of_getElem? hd))
end
end Ag

end
/-! ## B2 -/
section
set_option linter.all false
set_option maxRecDepth 100000
set_option maxHeartbeats 4000000
namespace Ag
open PySem PySem.Spec PyProof.Rows L2
open SX (S S_len S_cat S_inj)
mutual
/-- no bools, lists and dicts, ints from 0 to 10 ** 9, short tuples -/
def clnB : PyData → Bool
  | .none => true
  | .bool _ => false
  | .int i => decide (0 ≤ i) && decide (i ≤ 1000000000)
  | .str x => strOkB x
  | .list _ => false
  | .tuple xs => decide (xs.length ≤ 50) && clnA xs
  | .dict _ => false
def clnA : List PyData → Bool
  | [] => true
  | x :: xs => clnB x && clnA xs
end
mutual
theorem cln_ok {q : Bool} : ∀ d : PyData, clnB d = true → okV q d = true
  | .none, _ => by simp [okV]
  | .bool _, h => by simp [clnB] at h
  | .int i, h => by
    simp only [clnB, Bool.and_eq_true, decide_eq_true_eq] at h
    simp only [okV, intOk, Bool.and_eq_true, decide_eq_true_eq]
    omega
  | .str x, h => by simpa only [okV, clnB] using h
  | .list _, h => by simp [clnB] at h
  | .tuple xs, h => by
    simp only [clnB, Bool.and_eq_true, decide_eq_true_eq] at h
    simp only [okV, Bool.and_eq_true, decide_eq_true_eq]
    exact ⟨by omega, clnA_ok xs h.2⟩
  | .dict _, h => by simp [clnB] at h
theorem clnA_ok {q : Bool} : ∀ xs : List PyData, clnA xs = true → okVA q xs = true
  | [], _ => by simp [okVA]
  | x :: xs, h => by
    simp only [clnA, Bool.and_eq_true] at h
    simp only [okVA, Bool.and_eq_true]
    exact ⟨cln_ok x h.1, clnA_ok xs h.2⟩
end
theorem clnA_at : ∀ {ds : List PyData} {i : Nat} {d : PyData}, clnA ds = true → ds[i]? = some d → clnB d = true
  | x :: xs, 0, d, h, e => by
    simp only [clnA, Bool.and_eq_true] at h
    simp at e
    subst e
    exact h.1
  | x :: xs, i + 1, d, h, e => by
    simp only [clnA, Bool.and_eq_true] at h
    exact clnA_at (i := i) h.2 (by simpa using e)
  | [], i, d, _, e => by simp at e
def endG (many : Nat) (d : PyData) : Prop := d = .none ∨ ∃ k : Nat, k ≤ many ∧ d = .int (k : Int)
theorem shaped_tup (cs : List Int) : SeqAt.shaped (.tuple (cs.map PyData.int)) = true := by
  simp [SeqAt.shaped, PyData.canLay0, PyData.depth, lay_ints, depth_ints]
structure Cl (d : PyData) (n b : Nat) : Prop where
  cl : clnB d = true
  dp : d.depth ≤ n
  bk : d.bulk ≤ b
theorem testIf {t : TT} {σ : L2.St} {H : Hp} {Q : Bool → Hp → Prop} (I : Bool → Hp → Prop) (h : ∀ Q' : Bool → Hp → Prop, (∀ b H', I b H' → Q' b H') → t σ H Q') (k : ∀ b H', I b H' → Q b H') : t σ H Q := h Q k
theorem Cl.gd {d : PyData} {n b : Nat} (h : Cl d n b) (q : Bool) : Gd q d n b := ⟨cln_ok d h.cl, h.dp, h.bk⟩
theorem log_small {n : Nat} (h : n < 2 ^ 200) : ((n : Nat) : Int).natAbs.log2 < 1920 := by
  rw [Int.natAbs_natCast]
  by_cases z : n = 0
  · subst z; decide
  · have h2 : n < 2 ^ 1920 := Nat.lt_of_lt_of_le h (Nat.pow_le_pow_right (by decide) (by decide))
    exact (Nat.log2_lt z).mpr h2
/-! ### tuples cut and joined -/
theorem cutV_to (xs : List V) (b : Nat) : cutV xs none (some (b : Int)) = xs.take b := by
  unfold cutV
  rw [HT.sIx_none, HT.sIx_nat, List.drop_zero, Nat.sub_zero]
  by_cases hb : b ≤ xs.length
  · rw [Nat.min_eq_left hb]
  · rw [Nat.min_eq_right (by omega), List.take_of_length_le (Nat.le_refl _), List.take_of_length_le (by omega)]
theorem cutV_from (xs : List V) {a : Nat} (ha : a ≤ xs.length) : cutV xs (some (a : Int)) none = xs.drop a := by
  unfold cutV
  rw [sIx_at ha, HT.sIx_none, List.take_of_length_le (by rw [List.length_drop]; exact Nat.le_refl _)]
section
variable {K : PySem.W.Frag} {p c a b : Addr} {H : Hp} {xs ys : List V} {Q : VK}
theorem sl_any {lo hi : Option Int} (dk : Dk p c H) (ha : At p c H a (.tup xs)) (k : ∀ a' H', Same H H' → At p c H' a' (.tup (cutV xs lo hi)) → Q (.ref a') H') : rSlA K (.ref a) lo hi H Q := by
  refine ⟨a, xs, rfl, SqT.of ha.2.2, fun hw => k a H (Same.refl _) ?_, fun hw t ht => k t _ (same_new ht) (At.new dk ht)⟩
  have e : cutV xs lo hi = xs := by
    unfold cutV
    rw [hw.1, hw.2, List.drop_zero, Nat.sub_zero, List.take_length]
  rw [e]
  exact ha
theorem cat_any (dk : Dk p c H) (ha : At p c H a (.tup xs)) (hb : At p c H b (.tup ys)) (hz : xs.length + ys.length ≤ 1000000) (k : ∀ a' H', Same H H' → At p c H' a' (.tup (xs ++ ys)) → Q (.ref a') H') : rCatA K (.ref a) (.ref b) H Q := by
  refine ⟨a, b, xs, ys, rfl, rfl, SqT.of ha.2.2, SqT.of hb.2.2, sz (by omega), fun hx => k b H (Same.refl _) ?_, fun hx hy => k a H (Same.refl _) ?_, fun hx hy t ht => k t _ (same_new ht) (At.new dk ht)⟩
  · rw [hx]
    exact hb
  · rw [hy, List.append_nil]
    exact ha
end
theorem eqv_t0 (ds : List PyData) : (!PyData.eqv (.tuple ds) (.tuple [])) = decide (ds ≠ []) := by
  cases ds <;> simp [PyData.eqv, PyData.eqvAll]
def bentG (d r : PyData) : Prop := ∃ q, Gd q r (d.depth + 3) (2 * d.bulk + 400)
theorem bulk_split {ds : List PyData} {i : Nat} {d : PyData} (h : ds[i]? = some d) : PyData.bulkAll ds = PyData.bulkAll (ds.take i) + (d.bulk + 1) + PyData.bulkAll (ds.drop (i + 1)) ∧ d.depth ≤ PyData.depthAll ds := by
  have hi := (List.getElem?_eq_some_iff.mp h).1
  have he := (List.getElem?_eq_some_iff.mp h).2
  have e : ds = ds.take i ++ d :: ds.drop (i + 1) := by
    rw [← he, List.getElem_cons_drop, List.take_append_drop]
  refine ⟨?_, ?_⟩
  · have := bulk_app (ds.take i) (d :: ds.drop (i + 1))
    rw [← e] at this
    rw [this]
    simp only [PyData.bulkAll]
    omega
  · have key : ∀ (l : List PyData), d ∈ l → d.depth ≤ PyData.depthAll l := by
      intro l
      induction l with
      | nil => intro h; cases h
      | cons x l ih =>
        intro h
        simp only [PyData.depthAll]
        rcases List.mem_cons.mp h with rfl | h
        · omega
        · have := ih h
          omega
    exact key ds (List.mem_of_getElem? h)
section
variable {P : Program} {w : World} {K : PySem.W.Frag} {mg : Str → Option Value} {base : Heap} 
def spBent : Nat → Sp
  | 0 => fun _ _ _ _ => False
  | n + 1 => fun vs H Q _ => ∃ (p c : Addr) (v : V) (d : PyData), vs = [.ref p, v] ∧ Dk p c H ∧ Dg p c H v d ∧ clnB d = true ∧ d.depth ≤ n ∧ d.depth ≤ 50 ∧ Outs p c H (bentG d) Q
theorem ok_bent {f f1 f2 f3 : Addr} {fd fd1 fd2 fd3 : FuncData} (F : Fn K mg "_law_bent" s__law_bent ["_law_deck", "_law_thing"] f fd) (B : Blt mg) (F__law_draw : Fn K mg "_law_draw" s__law_draw ["_law_deck", "_law_many"] f1 fd1) (F__law_pick : Fn K mg "_law_pick" s__law_pick ["_law_deck", "_law_some"] f2 fd2)
    (F__law_odd : Fn K mg "_law_odd" s__law_odd ["_law_deck"] f3 fd3) (n : Nat) : FnOk P w K mg base CX0 (3 + n) f fd ["_law_deck", "_law_thing"] (spBent n) := by
  induction n with
  | zero => exact ⟨fun _ _ _ _ h => h.elim, fun _ _ _ _ _ _ _ _ _ _ _ _ _ h => h.elim⟩
  | succ n G__law_bent =>
    have G__law_draw : FnOk P w K mg base CX0 1 f1 fd1 ["_law_deck", "_law_many"] spDraw := ok_draw F__law_draw B
    have G__law_pick : FnOk P w K mg base CX0 2 f2 fd2 ["_law_deck", "_law_some"] spPick := ok_pick F__law_pick B F__law_draw
    have G__law_odd : FnOk P w K mg base CX0 3 f3 fd3 ["_law_deck"] spOdd := ok_odd F__law_odd B F__law_draw F__law_pick
    have F__law_bent := F
    refine F.F.ok sc__law_bent (fun vs H Q E h => ?_) (fun cdv A outer s H vs Q E hr h => ?_)
    · obtain ⟨p, c, v, d, rfl, _⟩ := h
      rfl
    · obtain ⟨p, c, x, d, rfl, dk, hd, hcl, hdn, hd50, q⟩ := h
      refine ⟨_, (pss_cons (ps_set (i := 2) sc__law_bent.nd rfl (.inl rfl) (pe_call G__law_draw (hr.mono (by show _ ≤ 3 + n; omega)) (by rfl) F__law_draw.g F__law_draw.F.kp F__law_draw.b .nil pass0 (pa_cons (pv 0) (pa_cons pe_int pa_nil))))
      (pss_cons (ps_if (PW.pt (pw_and (pt_val (pe_callB call_isi (by rfl) B.n_isinstance (by decide +kernel) (pa_cons (pv 1) (pa_cons (pe_bltn (v := .ty "tuple") (by rfl) B.n_tuple (by decide +kernel) rfl) pa_nil)))) (pw_and (pt_cmpR (op_neG hr.units) (pv 1) (pe_tup pa_nil) (nomark _)) (pw_and1 (pt_cmpR op_gt (pv 2) pe_int (nomark _))))))
      (pss_cons (ps_set (i := 3) sc__law_bent.nd rfl (.inl rfl) (pe_call G__law_draw (hr.mono (by show _ ≤ 3 + n; omega)) (by rfl) F__law_draw.g F__law_draw.F.kp F__law_draw.b .nil pass0 (pa_cons (pv 0) (pa_cons (pe_callB call_len_seq (by rfl) B.n_len PySem.boot_len (pa_cons (pv 1) pa_nil)) pa_nil))))
        (pss_cons (ps_if (pt_cmpR op_lt (pv 2) pe_int (nomark _))
        (pss_one (ps_ret (pe_ifExp (pt_cmpR op_eq (pv 2) pe_int (nomark _)) (pe_op op_catA (pe_slice sl_tupA (pv 1) po_none (po_some (pe_op op_add (pv 3) pe_int))) (pe_slice sl_tupA (pv 1) (po_some (pv 3)) po_none)) (pe_op op_catA (pe_slice sl_tupA (pv 1) po_none (po_some (pv 3))) (pe_slice sl_tupA (pv 1) (po_some (pe_op op_add (pv 3) pe_int)) po_none)))))
        pss_nil)
        (pss_one (ps_ret (pe_op op_catA (pe_op op_catA (pe_slice sl_tupA (pv 1) po_none (po_some (pv 3))) (pe_tup (pa_cons (pe_call G__law_bent (hr.mono (by show _ ≤ 3 + n; omega)) (by rfl) F__law_bent.g F__law_bent.F.kp F__law_bent.b .nil pass0 (pa_cons (pv 0) (pa_cons (pe_ix ix_tup (pv 1) (pv 3) (fun _ _ => rfl)) pa_nil))) pa_nil))) (pe_slice sl_tupA (pv 1) (po_some (pe_op op_add (pv 3) pe_int)) po_none))))))
      pss_nil)
      (pss_cons (ps_if (PW.pt (pw_and (pt_cmpR op_eq (pv 2) pe_int (nomark _)) (pw_and1 (pt_val (pe_callB call_isi (by rfl) B.n_isinstance (by decide +kernel) (pa_cons (pv 1) (pa_cons (pe_bltn (v := .ty "tuple") (by rfl) B.n_tuple (by decide +kernel) rfl) pa_nil)))))))
      (pss_one (ps_ret (pe_callTy call_list_of (by rfl) B.n_list (by decide +kernel) (pa_cons (pv 1) pa_nil))))
      pss_nil)
      (pss_cons (ps_if (PW.pt (pw_and (pt_val (pe_callB call_isi (by rfl) B.n_isinstance (by decide +kernel) (pa_cons (pv 1) (pa_cons (pe_bltn (v := .ty "int") (by rfl) B.n_int (by decide +kernel) rfl) pa_nil)))) (pw_and1 (pt_cmpR op_lt (pv 2) pe_int (nomark _)))))
      (pss_one (ps_ret (pe_call G__law_pick (hr.mono (by show _ ≤ 3 + n; omega)) (by rfl) F__law_pick.g F__law_pick.F.kp F__law_pick.b .nil pass0 (pa_cons (pv 0) (pa_cons (pe_lst (pa_cons (pe_op op_add (pv 1) pe_int) (pa_cons (pe_op op_sub (pv 1) pe_int) (pa_cons (pe_cmpR op_eq (pv 1) pe_int (nomark _)) (pa_cons (pe_callTy call_str_int (by rfl) B.n_str (by decide +kernel) (pa_cons (pv 1) pa_nil)) (pa_cons (pe_op op_add (pv 1) pe_int) pa_nil)))))) pa_nil)))))
      pss_nil)
      (pss_one (ps_ret (pe_call G__law_odd (hr.mono (by show _ ≤ 3 + n; omega)) (by rfl) F__law_odd.g F__law_odd.F.kp F__law_odd.b .nil pass0 (pa_cons (pv 0) pa_nil)))))))), ?_⟩
      refine ⟨_, rfl, p, c, 9, rfl, dk, by decide, by decide, fun way H1 hway g1 => ?_⟩
      have hd1 := hd.to g1.kp
      dsimp only [gName]
      unfold tSeq
      dsimp only
      unfold tIfS
      refine testIf (fun b H' => Same H1 H' ∧ (b = true → isT d = true ∧ isT0 d = false)) (fun Q' hQ' => ?_) ?_
      · refine ⟨_, rfl, x, .ty "tuple", _, _, _, rfl, .ty "tuple", hd1.tyx, isi_T d, _, rfl, ?_⟩
        cases hT : isT d with
        | false => exact iteF (hQ' _ _ ⟨Same.refl _, fun z => by cases z⟩)
        | true =>
          refine iteT ?_
          refine ⟨_, rfl, sz (by show 0 ≤ 16000000; decide), fun t ht => ?_⟩
          have gt := Gx.new (o := .tup []) g1.2 ht
          have sh : SeqAt.shaped d = true := (Gd.mk (n := 50) (cln_ok d hcl) hd50 (Nat.le_refl _)).shaped (by decide)
          refine ⟨p, c, d, .tuple [], hd1.to gt.kp, .tup (At.new g1.2 ht) .nil, sh, shaped_tup [], _, rfl, ?_⟩
          cases d with
          | tuple ds =>
            rw [eqv_t0]
            refine ite2 (fun h => ?_) (fun _ => hQ' _ _ ⟨same_new ht, fun z => by cases z⟩)
            have hne : ds ≠ [] := of_decide_eq_true h
            refine ⟨_, rfl, _, _, rfl, rfl, _, rfl, hQ' _ _ ⟨same_new ht, fun _ => ⟨rfl, ?_⟩⟩⟩
            cases ds with
            | nil => exact absurd rfl hne
            | cons _ _ => rfl
          | _ => simp [isT] at hT
      rintro b1 H2 ⟨s2, hb1⟩
      have hd2 := hd1.to (.same s2)
      have g2 := g1.trans (Gx.same g1.2 s2)
      clear hd1 hd
      refine ite2 (fun h => ?_) (fun _ => ?_)
      · -- inside of it
        obtain ⟨hT, hT0⟩ := hb1 h
        cases hd2 with
        | @tup a xs ds ha hA =>
          have hlen := hA.len
          have hcl2 := hcl
          simp only [clnB, Bool.and_eq_true, decide_eq_true_eq] at hcl2
          obtain ⟨hl50, hclA⟩ := hcl2
          have hne : 1 ≤ ds.length := by
            cases ds with
            | nil => simp [isT0] at hT0
            | cons _ _ => simp
          refine ⟨_, rfl, _, rfl, a, xs, rfl, .inr (SqT.of ha.2.2), p, c, (xs.length : Int), rfl, g2.2, by omega, by omega, fun i H3 hi g3 => ?_⟩
          have hi' : i < ds.length := by omega
          have ha3 := ha.kp g3.kp
          have hA3 := hA.to g3.kp
          have g3 := g2.trans g3
          have ok : ∀ q, okVA q ds = true := fun q => clnA_ok ds hclA
          have gA : ∀ q, GdA q ds (PyData.depthAll ds) (PyData.bulkAll ds) := fun q => ⟨ok q, Nat.le_refl _, Nat.le_refl _⟩
          have edp : (PyData.tuple ds).depth = PyData.depthAll ds + 1 := by simp [PyData.depth]
          have ebk : (PyData.tuple ds).bulk = PyData.bulkAll ds := by simp [PyData.bulk]
          have ei : ((i : Int) + 1) = ((i + 1 : Nat) : Int) := by omega
          refine ⟨_, rfl, _, _, rfl, rfl, _, rfl, ite2 (fun _ => ?_) (fun _ => ?_)⟩
          · refine ⟨_, rfl, rfl, _, rfl, ite2 (fun _ => ?_) (fun _ => ?_)⟩
            · -- an item twice
              refine ⟨_, rfl, _, rfl, _, _, rfl, rfl, _, rfl, sl_any g3.2 ha3 fun a1 H4 s4 h1 => ?_⟩
              have g4 := g3.trans (Gx.same g3.2 s4)
              rw [ei, cutV_to] at h1
              refine ⟨_, rfl, _, rfl, _, rfl, ?_⟩
              dsimp only [tNoPart]
              refine sl_any g4.2 (ha3.kp (.same s4)) fun a2 H5 s5 h2 => ?_
              have g5 := g4.trans (Gx.same g4.2 s5)
              rw [cutV_from xs (by omega)] at h2
              refine cat_any g5.2 (h1.kp (.same s5)) h2 (by simp only [List.length_take, List.length_drop]; omega) fun a3 H6 s6 h3 => ?_
              have hA6 := ((hA3.to (.same s4)).to (.same s5)).to (.same s6)
              refine q _ _ _ (g5.trans (Gx.same g5.2 s6)) (.tup h3 ((hA6.take (i + 1)).app (hA6.drop i))) ⟨true, ?_⟩
              have := Gd.tup (((gA true).take (i + 1)).app ((gA true).drop i) (Nat.le_refl _)) (by rw [List.length_append, List.length_take, List.length_drop]; omega)
              exact this.mono (by rw [edp]; omega) (by rw [ebk]; omega)
            · -- an item left out
              refine ⟨_, rfl, _, rfl, _, rfl, sl_any g3.2 ha3 fun a1 H4 s4 h1 => ?_⟩
              have g4 := g3.trans (Gx.same g3.2 s4)
              rw [cutV_to] at h1
              refine ⟨_, rfl, _, rfl, _, _, rfl, rfl, _, rfl, ?_⟩
              dsimp only [tNoPart]
              refine sl_any g4.2 (ha3.kp (.same s4)) fun a2 H5 s5 h2 => ?_
              have g5 := g4.trans (Gx.same g4.2 s5)
              rw [ei, cutV_from xs (by omega)] at h2
              refine cat_any g5.2 (h1.kp (.same s5)) h2 (by simp only [List.length_take, List.length_drop]; omega) fun a3 H6 s6 h3 => ?_
              have hA6 := ((hA3.to (.same s4)).to (.same s5)).to (.same s6)
              refine q _ _ _ (g5.trans (Gx.same g5.2 s6)) (.tup h3 ((hA6.take i).app (hA6.drop (i + 1)))) ⟨true, ?_⟩
              have := Gd.tup (((gA true).take i).app ((gA true).drop (i + 1)) (Nat.le_refl _)) (by rw [List.length_append, List.length_take, List.length_drop]; omega)
              exact this.mono (by rw [edp]; omega) (by rw [ebk]; omega)
          · -- an item bent
            obtain ⟨y, hy⟩ : ∃ y, xs[i]? = some y := ⟨xs[i]'(by omega), List.getElem?_eq_getElem (by omega)⟩
            refine ⟨_, rfl, _, rfl, _, rfl, sl_any g3.2 ha3 fun a1 H4 s4 h1 => ?_⟩
            have g4 := g3.trans (Gx.same g3.2 s4)
            rw [cutV_to] at h1
            have ha4 := ha3.kp (.same s4)
            have hA4 := hA3.to (.same s4)
            obtain ⟨dy, hdy, hgy⟩ := hA4.at_ hy
            obtain ⟨eb, ed⟩ := bulk_split hdy
            refine ⟨_, rfl, _, rfl, _, rfl, a, xs, _, y, rfl, rfl, SqT.of ha4.2.2, atI_nat hy, ?_⟩
            cases n with
            | zero => rw [edp] at hdn; omega
            | succ n =>
            refine ⟨p, c, y, dy, rfl, g4.2, hgy, clnA_at hclA hdy, by rw [edp] at hdn; omega, by rw [edp] at hd50; omega, fun r dr H5 g5 hr5 kr => ⟨sz (by show 1 ≤ 16000000; decide), fun t ht => ?_⟩⟩
            have h1 := h1.kp g5.kp
            have ha5 := ha4.kp g5.kp
            have hA5 := hA4.to g5.kp
            have g5 := g4.trans g5
            have st := same_new (o := .tup [r]) ht
            have g6 := g5.trans (Gx.same g5.2 st)
            have h6 := At.new (o := .tup [r]) g5.2 ht
            have hr6 := hr5.to (.same st)
            have h1 := h1.kp (.same st)
            have ha6 := ha5.kp (.same st)
            have hA6 := hA5.to (.same st)
            generalize upd H5 t (.tup [r]) = H6 at g6 h6 hr6 h1 ha6 hA6 ⊢
            refine cat_any g6.2 h1 h6 (by simp only [List.length_take, List.length_cons, List.length_nil]; omega) fun a3 H7 s7 h3 => ?_
            have g7 := g6.trans (Gx.same g6.2 s7)
            refine ⟨_, rfl, _, rfl, _, _, rfl, rfl, _, rfl, ?_⟩
            dsimp only [tNoPart]
            refine sl_any g7.2 (ha6.kp (.same s7)) fun a4 H8 s8 h4 => ?_
            have g8 := g7.trans (Gx.same g7.2 s8)
            rw [ei, cutV_from xs (by omega)] at h4
            refine cat_any g8.2 (h3.kp (.same s8)) h4 (by simp only [List.length_take, List.length_drop, List.length_append, List.length_cons, List.length_nil]; omega) fun a5 H9 s9 h5 => ?_
            have kk := ((Kp.same (p := p) (c := c) s7).trans (.same s8)).trans (.same s9)
            have hA9 := hA6.to kk
            obtain ⟨qq, hq⟩ := kr
            refine q _ _ _ (g8.trans (Gx.same g8.2 s9)) (.tup h5 (((hA9.take i).app (.cons (hr6.to kk) .nil)).app (hA9.drop (i + 1)))) ⟨qq, ?_⟩
            have e1 : GdA qq (ds.take i) (PyData.depthAll ds + 3) (PyData.bulkAll (ds.take i)) := ⟨((gA qq).take i).ok, by have := ((gA qq).take i).dp; omega, Nat.le_refl _⟩
            have e2 : GdA qq (ds.drop (i + 1)) (PyData.depthAll ds + 3) (PyData.bulkAll (ds.drop (i + 1))) := ⟨((gA qq).drop (i + 1)).ok, by have := ((gA qq).drop (i + 1)).dp; omega, Nat.le_refl _⟩
            have e3 : GdA qq [dr] (PyData.depthAll ds + 3) (2 * dy.bulk + 401) := .cons (b2 := 0) (hq.mono (by omega) (Nat.le_refl _)) .nil (by omega)
            have := Gd.tup ((e1.app e3 (Nat.le_refl _)).app e2 (Nat.le_refl _)) (by simp only [List.length_append, List.length_take, List.length_drop, List.length_cons, List.length_nil]; omega)
            exact this.mono (by rw [edp]; omega) (by rw [ebk]; omega)
        | _ => simp [isT] at hT
      · try unfold tNext
        try dsimp only
        refine testIf (fun b H' => H' = H2 ∧ (b = true → isT d = true)) (fun Q' hQ' => ?_) ?_
        · refine ⟨_, rfl, rfl, _, rfl, ite2 (fun _ => ?_) (fun _ => hQ' _ _ ⟨rfl, fun z => by cases z⟩)⟩
          refine ⟨_, rfl, x, .ty "tuple", _, _, _, rfl, .ty "tuple", hd2.tyx, isi_T d, _, rfl, hQ' _ _ ⟨rfl, fun z => z⟩⟩
        rintro b2 H3 ⟨rfl, hb2⟩
        refine ite2 (fun h => ?_) (fun _ => ?_)
        · have hT := hb2 h
          cases hd2 with
          | @tup a xs ds ha hA =>
            refine ⟨_, rfl, a, xs, rfl, .inr (SqT.of ha.2.2), fun l hl => ?_⟩
            have sl := same_new (o := .lst xs) hl
            refine q _ (.list ds) _ (g2.trans (Gx.same g2.2 sl)) (.lst (At.new g2.2 hl) (hA.to (.same sl))) ⟨false, ?_⟩
            simp only [clnB, Bool.and_eq_true] at hcl
            have gl := Gd.lst ⟨clnA_ok ds hcl.2, Nat.le_refl _, Nat.le_refl _⟩
            exact gl.mono (by simp only [PyData.depth]; omega) (by simp only [PyData.bulk]; omega)
          | _ => simp [isT] at hT
        · try unfold tNext
          try dsimp only
          refine testIf (fun b H' => H' = H3 ∧ (b = true → isI d = true)) (fun Q' hQ' => ?_) ?_
          · refine ⟨_, rfl, x, .ty "int", _, _, _, rfl, .ty "int", hd2.tyx, isi_I d, _, rfl, ?_⟩
            refine ite2 (fun hi => ?_) (fun _ => hQ' _ _ ⟨rfl, fun z => by cases z⟩)
            exact ⟨_, rfl, _, _, rfl, rfl, _, rfl, hQ' _ _ ⟨rfl, fun _ => hi⟩⟩
          rintro b3 H4 ⟨rfl, hb3⟩
          refine ite2 (fun h => ?_) (fun _ => ?_)
          · have hI := hb3 h
            cases hd2 with
            | int i =>
              simp only [clnB, Bool.and_eq_true, decide_eq_true_eq] at hcl
              obtain ⟨k, rfl⟩ := Int.eq_ofNat_of_zero_le hcl.1
              have hk : k ≤ 1000000000 := by omega
              refine ⟨_, rfl, _, rfl, _, _, rfl, rfl, _, rfl, _, _, rfl, rfl, _, rfl, rfl, _, rfl, _, rfl, log_small (Nat.lt_of_le_of_lt hk (by decide)), _, rfl, _, _, rfl, rfl, sz (by show 5 ≤ 16000000; decide), fun l hl => ?_⟩
              have g5 := g2.trans (Gx.new (o := .lst [.int ((k : Int) + 1), .int ((k : Int) - 1), .bl (decide (V.int (k : Int) = V.int 1)), .str (Str.ofString (toString (k : Int))), .int ((k : Int) + 2)]) g2.2 hl)
              have a5 := At.new (o := .lst [.int ((k : Int) + 1), .int ((k : Int) - 1), .bl (decide (V.int (k : Int) = V.int 1)), .str (Str.ofString (toString (k : Int))), .int ((k : Int) + 2)]) g2.2 hl
              refine ⟨p, c, .ref l, rfl, g5.2, .inl ⟨l, _, rfl, a5, (by show 1 ≤ 5; decide), (by show 5 ≤ 100000; decide), fun r y H6 hy g6 => ?_⟩⟩
              have g6 := g5.trans g6
              have mem := List.mem_of_getElem? hy
              simp only [List.mem_cons, List.not_mem_nil, or_false] at mem
              have it : ∀ j : Int, -1 ≤ j → j ≤ 1000000002 → bentG (.int (k : Int)) (.int j) := fun j h1 h2 => ⟨true, .int (by simp only [intOk, Bool.and_eq_true, decide_eq_true_eq]; omega)⟩
              rcases mem with rfl | rfl | rfl | rfl | rfl
              · exact q _ _ _ g6 (.int _) (it _ (by omega) (by omega))
              · exact q _ _ _ g6 (.int _) (it _ (by omega) (by omega))
              · exact q _ _ _ g6 (.bl _) ⟨true, .bl⟩
              · rw [toStrN]
                refine q _ _ _ g6 (.str _) ⟨true, .strL (List.all_eq_true.mpr fun c hc => ?_) ?_ ?_⟩
                · have := numL_all k c hc
                  simp
                  omega
                · have := numLen (k := 10) (n := k) (by decide) (by omega)
                  omega
                · have := numLen (k := 10) (n := k) (by decide) (by omega)
                  omega
              · exact q _ _ _ g6 (.int _) (it _ (by omega) (by omega))
            | bl b => simp [clnB] at hcl
            | _ => simp [isI] at hI
          · refine ⟨_, rfl, p, c, rfl, g2.2, fun v dr H5 g5 hv hr => ?_⟩
            obtain ⟨qq, hq⟩ := hr
            exact q _ _ _ (g2.trans g5) hv ⟨qq, hq.mono (by omega) (by omega)⟩
end
end Ag

end
/-! ## B3 -/
section
set_option linter.all false
set_option maxRecDepth 100000
namespace Ag
open PySem PySem.Spec PyProof.Rows L2
open SX (S S_len S_cat S_inj)
theorem tup_gx {p c a : Addr} {H H' : Hp} {xs : List V} (d : Dk p c H) (g : Gx p c H H') (h : H a = some (.tup xs)) : H' a = some (.tup xs) := by
  obtain ⟨m, t, cs, h1, h2, _⟩ := d
  exact g.1 a _ (ne_of h h1 (by intro z; cases z)) (ne_of h h2 (by intro z; cases z)) h
theorem PlI.gx {p c : Addr} {H H' : Hp} {ts : List Addr} {ps : List (List Nat × Nat)} (h : PlI H ts ps) (d : Dk p c H) (g : Gx p c H H') : PlI H' ts ps := ⟨h.1, fun j t e => by
  obtain ⟨x, h1, h2⟩ := h.2 j t e
  exact ⟨x, h1, tup_gx d g h2⟩⟩
theorem Pool.gx {p c a : Addr} {H H' : Hp} {ts : List Addr} {ps : List (List Nat × Nat)} (h : Pool a ts ps H) (d : Dk p c H) (g : Gx p c H H') : Pool a ts ps H' := ⟨tup_gx d g h.at_, h.it.gx d g, h.ok⟩
/-- tuples stay where a list is changed -/
theorem tup_put {a l : Addr} {H : Hp} {xs ys : List V} {o : HO} (h : H a = some (.tup xs)) (hl : H l = some (.lst ys)) : upd H l o a = some (.tup xs) := by
  rw [upd_ne (ne_of h hl (by intro z; cases z))]
  exact h
theorem PlI.put {l : Addr} {H : Hp} {ts : List Addr} {ps : List (List Nat × Nat)} {ys : List V} {o : HO} (h : PlI H ts ps) (hl : H l = some (.lst ys)) : PlI (upd H l o) ts ps := ⟨h.1, fun j t e => by
  obtain ⟨x, h1, h2⟩ := h.2 j t e
  exact ⟨x, h1, tup_put h2 hl⟩⟩
theorem PlI.snoc {H : Hp} {ts : List Addr} {ps : List (List Nat × Nat)} (h : PlI H ts ps) {T : Addr} {e : List Nat × Nat} (hT : H T = some (.tup [.str (S e.1), .int (e.2 : Nat)])) : PlI H (ts ++ [T]) (ps ++ [e]) := by
  refine ⟨by simp [h.1], fun j t ej => ?_⟩
  rw [List.getElem?_append] at ej
  split at ej
  · rename_i hj
    obtain ⟨x, h1, h2⟩ := h.2 j t ej
    exact ⟨x, by rw [List.getElem?_append_left (by rw [← h.1]; exact hj)]; exact h1, h2⟩
  · rename_i hj
    have e0 : j - ts.length = 0 := by
      cases hq : j - ts.length with
      | zero => rfl
      | succ k => rw [hq] at ej; simp at ej
    rw [e0] at ej
    simp at ej
    subst ej
    refine ⟨e, ?_, hT⟩
    rw [List.getElem?_append_right (by rw [← h.1]; omega), ← h.1, e0]
    rfl
theorem erase_map {α β : Type} (f : α → β) : ∀ (l : List α) (k : Nat), (l.map f).eraseIdx k = (l.eraseIdx k).map f
  | [], _ => rfl
  | _ :: _, 0 => rfl
  | x :: l, k + 1 => by
    show f x :: (l.map f).eraseIdx k = f x :: (l.eraseIdx k).map f
    rw [erase_map f l k]
theorem erase_perm {α : Type} : ∀ (l : List α) (k : Nat) (h : k < l.length), (l[k] :: l.eraseIdx k).Perm l
  | x :: l, 0, _ => List.Perm.refl _
  | x :: l, k + 1, h => (List.Perm.swap x (l[k]'(Nat.lt_of_succ_lt_succ h)) _).trans ((erase_perm l k (Nat.lt_of_succ_lt_succ h)).cons x)
/-- the eight names -/
def names8 : List (List Nat) := [[97, 115, 104], [111, 97, 107], [101, 108, 109], [98], [97], [97, 98, 99, 100, 101, 102, 103, 104, 105, 106], [121, 101, 119], [122]]
theorem names8_V : ([.str (Str.ofString "ash"), .str (Str.ofString "oak"), .str (Str.ofString "elm"), .str (Str.ofString "b"), .str (Str.ofString "a"), .str (Str.ofString "abcdefghij"), .str (Str.ofString "yew"), .str (Str.ofString "z")] : List V) = names8.map fun l => V.str (S l) := by decide +kernel
theorem names8_ok : names8.Nodup ∧ ∀ l ∈ names8, wordL l = true := by decide +kernel
section
variable {P : Program} {w : World} {K : PySem.W.Frag} {mg : Str → Option Value} {base : Heap} 
def spMkPool : Sp := fun vs H Q _ => ∃ p c, vs = [.ref p] ∧ Dk p c H ∧ ∀ a ts ps H', Gx p c H H' → Pool a ts ps H' → Q (.ref a) H'
def PoolI (H : Hp) (p c NA FA : Addr) (many high : Nat) (j : Nat) (σ : L2.St) (H' : Hp) : Prop := ∃ (ns : List (List Nat)) (ts : List Addr) (ps : List (List Nat × Nat)) (x5 : Option V), σ = [some (.ref p), some (.int many), some (.int high), some (.ref NA), some (.ref FA), x5] ∧
  Gx p c H H' ∧ H' NA = some (.lst (ns.map fun l => V.str (S l))) ∧ H' FA = some (.lst (ts.map V.ref)) ∧ PlI H' ts ps ∧ (ps.map Prod.fst ++ ns).Perm names8 ∧ ps.length = j ∧ ∀ e ∈ ps, 1 ≤ e.2 ∧ e.2 ≤ 100
structure PF (H : Hp) (p c NA FA : Addr) (ns : List (List Nat)) (ts : List Addr) (ps : List (List Nat × Nat)) (H' : Hp) : Prop where
  g : Gx p c H H'
  hN : H' NA = some (.lst (ns.map fun l => V.str (S l)))
  hF : H' FA = some (.lst (ts.map V.ref))
  it : PlI H' ts ps
theorem PF.gx {H : Hp} {p c NA FA : Addr} {ns : List (List Nat)} {ts : List Addr} {ps : List (List Nat × Nat)} {H1 H2 : Hp} (f : PF H p c NA FA ns ts ps H1) (nN : NA ≠ p ∧ NA ≠ c) (nF : FA ≠ p ∧ FA ≠ c) (g : Gx p c H1 H2) : PF H p c NA FA ns ts ps H2 :=
  ⟨f.g.trans g, g.1 _ _ nN.1 nN.2 f.hN, g.1 _ _ nF.1 nF.2 f.hF, f.it.gx f.g.2 g⟩
set_option maxHeartbeats 1000000 in
theorem ok_mkpool {f f1 f2 : Addr} {fd fd1 fd2 : FuncData} (F : Fn K mg "_law_pool" s__law_pool ["_law_deck"] f fd) (B : Blt mg) (F__law_pick : Fn K mg "_law_pick" s__law_pick ["_law_deck", "_law_some"] f1 fd1) (G__law_pick : FnOk P w K mg base CX0 2 f1 fd1 ["_law_deck", "_law_some"] spPick)
    (F__law_draw : Fn K mg "_law_draw" s__law_draw ["_law_deck", "_law_many"] f2 fd2) (G__law_draw : FnOk P w K mg base CX0 1 f2 fd2 ["_law_deck", "_law_many"] spDraw) : FnOk P w K mg base CX0 3 f fd ["_law_deck"] spMkPool := by
  refine F.F.ok sc__law_pool (fun vs H Q E h => ?_) (fun cdv A outer s H vs Q E hr h => ?_)
  · obtain ⟨p, c, rfl, _⟩ := h
    rfl
  · obtain ⟨p, c, rfl, dk, q⟩ := h
    refine ⟨_, (pss_cons (ps_par (i := 1) (j := 2) (by rfl) sc__law_pool.nd rfl rfl (by decide) rfl rfl (pa_cons (pe_call G__law_pick (hr.mono (by decide)) (by rfl) F__law_pick.g F__law_pick.F.kp F__law_pick.b .nil pass0 (pa_cons (pv 0) (pa_cons (pe_lst (pa_cons pe_int (pa_cons pe_int (pa_cons pe_int (pa_cons pe_int (pa_cons pe_int (pa_cons pe_int pa_nil))))))) pa_nil))) (pa_cons (pe_call G__law_pick (hr.mono (by decide)) (by rfl) F__law_pick.g F__law_pick.F.kp F__law_pick.b .nil pass0 (pa_cons (pv 0) (pa_cons (pe_lst (pa_cons pe_int (pa_cons pe_int (pa_cons pe_int (pa_cons pe_int (pa_cons pe_int pa_nil)))))) pa_nil))) pa_nil)) (by rfl))
      (pss_cons (ps_par (i := 3) (j := 4) (by rfl) sc__law_pool.nd rfl rfl (by decide) rfl rfl (pa_cons (pe_lst (pa_cons pe_str (pa_cons pe_str (pa_cons pe_str (pa_cons pe_str (pa_cons pe_str (pa_cons pe_str (pa_cons pe_str (pa_cons pe_str pa_nil))))))))) (pa_cons (pe_lst pa_nil) pa_nil)) (by rfl))
      (pss_cons (ps_for PassesOwn.never rfl (pi_range1 (by rfl) B.n_range (pa_cons (pv 1) pa_nil)) (pg_name (i := 5) sc__law_pool.nd rfl (Or.inl rfl))
      (pss_one (ps_expr (pe_bm PySem.F.plainAttrs_list PySem.F.slot_list_append PySem.F.type_list_append mt_append (pv 4) (pa_cons (pe_tup (pa_cons (pe_bm PySem.F.plainAttrs_list PySem.F.slot_list_pop PySem.F.type_list_pop mt_popAt (pv 3) (pa_cons (pe_call G__law_draw (hr.mono (by decide)) (by rfl) F__law_draw.g F__law_draw.F.kp F__law_draw.b .nil pass0 (pa_cons (pv 0) (pa_cons (pe_callB call_len_seq (by rfl) B.n_len PySem.boot_len (pa_cons (pv 3) pa_nil)) pa_nil))) pa_nil)) (pa_cons (pe_op op_add pe_int (pe_call G__law_draw (hr.mono (by decide)) (by rfl) F__law_draw.g F__law_draw.F.kp F__law_draw.b .nil pass0 (pa_cons (pv 0) (pa_cons (pv 2) pa_nil)))) pa_nil))) pa_nil)))))
      (pss_one (ps_ret (pe_callTy call_tuple_of (by rfl) B.n_tuple (by decide +kernel) (pa_cons (pv 4) pa_nil))))))), ?_⟩
    refine ⟨_, rfl, sz (by show 6 ≤ 16000000; decide), fun L hL => ⟨p, c, .ref L, rfl, dk.same (same_new hL), .inl ⟨L, _, rfl, At.new dk hL, (by show 1 ≤ 6; decide), (by show 6 ≤ 100000; decide), fun z x Ha hx ga => ?_⟩⟩⟩
    have ga := (Gx.new dk hL).trans ga
    obtain ⟨many, m1, m8, rfl⟩ : ∃ n : Nat, 1 ≤ n ∧ n ≤ 8 ∧ x = .int (n : Int) := by
      match z, hx with
      | 0, hx => exact ⟨3, by decide, by decide, (Option.some.inj hx).symm⟩
      | 1, hx => exact ⟨2, by decide, by decide, (Option.some.inj hx).symm⟩
      | 2, hx => exact ⟨4, by decide, by decide, (Option.some.inj hx).symm⟩
      | 3, hx => exact ⟨1, by decide, by decide, (Option.some.inj hx).symm⟩
      | 4, hx => exact ⟨8, by decide, by decide, (Option.some.inj hx).symm⟩
      | 5, hx => exact ⟨5, by decide, by decide, (Option.some.inj hx).symm⟩
      | z + 6, hx => cases hx
    clear hx
    refine ⟨_, rfl, sz (by show 5 ≤ 16000000; decide), fun L2 hL2 => ⟨p, c, .ref L2, rfl, ga.2.same (same_new hL2), .inl ⟨L2, _, rfl, At.new ga.2 hL2, (by show 1 ≤ 5; decide), (by show 5 ≤ 100000; decide), fun z2 x2 Hb hx2 gb => ?_⟩⟩⟩
    have gb := ga.trans ((Gx.new ga.2 hL2).trans gb)
    obtain ⟨high, h1, h100, rfl⟩ : ∃ n : Nat, 1 ≤ n ∧ n ≤ 100 ∧ x2 = .int (n : Int) := by
      match z2, hx2 with
      | 0, hx => exact ⟨5, by decide, by decide, (Option.some.inj hx).symm⟩
      | 1, hx => exact ⟨9, by decide, by decide, (Option.some.inj hx).symm⟩
      | 2, hx => exact ⟨3, by decide, by decide, (Option.some.inj hx).symm⟩
      | 3, hx => exact ⟨5, by decide, by decide, (Option.some.inj hx).symm⟩
      | 4, hx => exact ⟨100, by decide, by decide, (Option.some.inj hx).symm⟩
      | z + 5, hx => cases hx
    clear hx2
    refine ⟨_, _, rfl, ?_⟩
    refine ⟨sz (by show 8 ≤ 16000000; decide), fun NA hNA => ⟨Nat.zero_le _, fun FA hFA => ⟨_, _, rfl, ?_⟩⟩⟩
    have nN := gb.2.ne hNA
    have gc := gb.trans (Gx.new (o := .lst (names8.map fun l => V.str (S l))) gb.2 hNA)
    rw [names8_V] at hFA ⊢
    have hN1 : upd Hb NA (.lst (names8.map fun l => V.str (S l))) NA = some (.lst (names8.map fun l => V.str (S l))) := upd_same
    have nNA : H NA = none := gb.free dk hNA
    generalize upd Hb NA (.lst (names8.map fun l => V.str (S l))) = Hc at gc hN1 hFA ⊢
    have nF := gc.2.ne hFA
    have nFA : H FA = none := gc.free dk hFA
    have nNF : NA ≠ FA := ne_of_none hN1 hFA
    have gd := gc.trans (Gx.new (o := .lst []) gc.2 hFA)
    refine ⟨_, rfl, _, rfl, by omega, by omega, ?_⟩
    refine for_range (lo := 0) (n := ((many : Nat) : Int).toNat) (PoolI H p c NA FA many high) ⟨names8, [], [], none, rfl, gd, by rw [upd_ne nNF]; exact hN1, upd_same, ⟨rfl, fun j t e => by cases e⟩, List.Perm.refl _, rfl, fun e he => by cases he⟩ ?_ ?_
    · rintro j σ H1 hj ⟨ns, ts, ps, x5, rfl, g1, hN, hF, it, pm, hlen, hwt⟩
      have hj : j < many := by omega
      have f1 : PF H p c NA FA ns ts ps H1 := ⟨g1, hN, hF, it⟩
      clear g1 hN hF it
      have f4 := f1
      refine ⟨_, rfl, .inl ⟨rfl, _, SqL.of f4.hF⟩, _, rfl, .inl ⟨rfl, _, SqL.of f4.hN⟩, _, rfl, _, rfl, NA, _, rfl, .inl (SqL.of f4.hN), ?_⟩
      have nl : ns.length = 8 - j := by
        have := pm.length_eq
        rw [List.length_append, List.length_map, hlen] at this
        have e8 : names8.length = 8 := rfl
        omega
      refine ⟨p, c, _, rfl, f4.g.2, by rw [List.length_map]; omega, by rw [List.length_map]; omega, fun k H5 hk g5 => ?_⟩
      rw [List.length_map] at hk
      have hk : k < ns.length := by omega
      have f5 := f4.gx nN nF g5
      refine ⟨NA, _, _, k, .str (S ns[k]), rfl, rfl, f5.hN, by omega, by omega, ?_, by rw [List.getElem?_map, List.getElem?_eq_getElem hk]; rfl, ?_⟩
      · have := seqIndex_of (k := (k : Int)) (n := (ns.map fun l => V.str (S l)).length) (by omega) (by rw [List.length_map]; omega)
        rw [this]
        simp
      have eE : (ns.map fun l => V.str (S l)).eraseIdx k = (ns.eraseIdx k).map fun l => V.str (S l) := by
        exact erase_map _ _ _
      rw [eE]
      have hF6 : upd H5 NA (.lst ((ns.eraseIdx k).map fun l => V.str (S l))) FA = some (.lst (ts.map V.ref)) := by
        rw [upd_ne nNF.symm]
        exact f5.hF
      have f6 : PF H p c NA FA (ns.eraseIdx k) ts ps (upd H5 NA (.lst ((ns.eraseIdx k).map fun l => V.str (S l)))) := ⟨f5.g.put dk nNA nN, upd_same, hF6, f5.it.put f5.hN⟩
      generalize upd H5 NA (.lst ((ns.eraseIdx k).map fun l => V.str (S l))) = H6 at f6 ⊢
      refine ⟨_, rfl, _, rfl, p, c, high, rfl, f6.g.2, by omega, by omega, fun r Hr hr gr => ⟨_, _, rfl, rfl, ?_⟩⟩
      have f6 := f6.gx nN nF gr
      obtain ⟨wt, ewt, wt1, wt9⟩ : ∃ wt : Nat, ((1 : Int) + (r : Int)) = (wt : Int) ∧ 1 ≤ wt ∧ wt ≤ 100 := ⟨1 + r, by omega, by omega, by omega⟩
      refine ⟨sz (by show 2 ≤ 16000000; decide), fun T hT => ?_⟩
      have f7 := f6.gx nN nF (Gx.new (o := .tup [.str (S ns[k]), .int (1 + (r : Int))]) f6.g.2 hT)
      have hT7 : upd Hr T (.tup [.str (S ns[k]), .int (1 + (r : Int))]) T = some (.tup [.str (S ns[k]), .int (1 + (r : Int))]) := upd_same
      generalize upd Hr T (.tup [.str (S ns[k]), .int (1 + (r : Int))]) = H7 at f7 hT7 ⊢
      rw [ewt] at hT7
      have ltl := f7.it.1
      refine ⟨FA, _, _, rfl, rfl, f7.hF, by rw [List.length_map, sizeLine_eq]; omega, ?_⟩
      refine ⟨ns.eraseIdx k, ts ++ [T], ps ++ [(ns[k], wt)], _, rfl, f7.g.put dk nFA nF, by rw [upd_ne nNF]; exact f7.hN, by rw [upd_same, List.map_append]; rfl, (f7.it.snoc (e := (ns[k], wt)) hT7).put f7.hF, ?_, by simp [hlen], fun e he => ?_⟩
      · rw [List.map_append, List.append_assoc]
        exact (List.Perm.append_left _ (erase_perm ns k hk)).trans pm
      · rcases List.mem_append.mp he with h | h
        · exact hwt e h
        · rw [List.mem_singleton.mp h]
          exact ⟨wt1, wt9⟩
    · rintro σ H1 ⟨ns, ts, ps, x5, rfl, g1, hN, hF, it, pm, hlen, hwt⟩
      have hlen : ps.length = many := by simpa using hlen
      refine ⟨_, rfl, FA, _, rfl, .inl ⟨SqL.of hF, fun t ht => ?_⟩⟩
      have nd : (ps.map Prod.fst ++ ns).Nodup := pm.nodup_iff.mpr names8_ok.1
      refine q t ts ps _ (g1.trans (Gx.new g1.2 ht)) ⟨upd_same, it.to (same_new ht), by omega, by omega, fun e he => ?_, hwt, (List.nodup_append.mp nd).1⟩
      exact names8_ok.2 _ (pm.mem_iff.mp (List.mem_append_left _ (List.mem_map_of_mem he)))
end
end Ag

end
/-! ## B4 -/
section
set_option linter.all false
set_option maxRecDepth 100000
set_option maxHeartbeats 4000000
namespace Ag
open PySem PySem.Spec PyProof.Rows L2
open SX (S S_len S_cat S_inj)
theorem dgct {p c : Addr} {H : Hp} : ∀ ks : List Nat, DgA p c H (ctV ks) (ctD ks)
  | [] => .nil
  | k :: ks => .cons (.int _) (dgct ks)
theorem rep_dg {p c z : Addr} {H : Hp} (h : At p c H z (.dK [])) : ∀ n : Nat, DgA p c H (List.replicate n [V.ref z]).flatten (List.replicate n (.dict []))
  | 0 => .nil
  | n + 1 => by
    rw [List.replicate_succ, List.flatten_cons, List.replicate_succ]
    exact .cons (.dic h .nil) (rep_dg h n)
theorem all_gd {q : Bool} : ∀ {ds : List PyData}, (∀ d ∈ ds, Gd q d 2 40) → GdA q ds 2 (ds.length * 41)
  | [], _ => .nil
  | d :: ds, h => GdA.cons (b1 := 40) (h d List.mem_cons_self) (all_gd fun e he => h e (List.mem_cons_of_mem _ he)) (by rw [List.length_cons]; omega)
def smI : PyData → Bool
  | .int m => decide (m ≤ 1000000000000)
  | _ => true
def rowI : PyData → Bool
  | .tuple xs => xs.all smI
  | _ => true
/-- what is near counts: small data, a tuple's numbers are not great -/
def nearG (d : PyData) : Prop := oddG d ∧ rowI d = true
theorem row_good {q : Bool} {ds : List PyData} (h : ∀ d ∈ ds, Gd q d 2 40 ∧ smI d = true) (hl : ds.length ≤ 9) : nearG (.tuple ds) := ⟨⟨q, (Gd.tup (all_gd fun d hd => (h d hd).1) (by omega)).mono (by decide) (by omega)⟩, List.all_eq_true.mpr fun d hd => (h d hd).2⟩
theorem list_good {ds : List PyData} (h : ∀ d ∈ ds, Gd false d 2 40) (hl : ds.length ≤ 9) : oddG (.list ds) := ⟨false, (Gd.lst (all_gd h)).mono (by decide) (by omega)⟩
theorem dict_good : Gd true (.dict []) 2 40 := ⟨by simp [okV, okVK], by simp [PyData.depth, PyData.depthKv], by simp [PyData.bulk, PyData.bulkKv]⟩
theorem num_good {q : Bool} {k : Nat} (h : k ≤ 10000000000) : Gd q (.str (toString ((k : Nat) : Int))) 2 40 := by
  show Gd q (.str (Str.ofString (toString ((k : Nat) : Int)))) 2 40
  rw [SX.num_S k]
  have hlen : (TL.numL k).length ≤ 11 := TL.numL_len (by decide) (Nat.lt_of_le_of_lt h (by decide))
  refine Gd.strL ?_ (Nat.le_trans hlen (by decide)) (Nat.le_trans hlen (by decide))
  rw [List.all_eq_true]
  intro c hc
  have := numL_all k c hc
  exact decide_eq_true (by omega)
theorem sum_good {q : Bool} {ks : List Nat} (h : ∀ k ∈ ks, k ≤ 10000000000) (hl : ks.length ≤ 8) : Gd q (.int (ks.map fun k => ((k : Nat) : Int)).sum) 3 400 := by
  have b : ∀ l : List Nat, (∀ k ∈ l, k ≤ 10000000000) → l.sum ≤ l.length * 10000000000 := by
    intro l
    induction l with
    | nil => intro _; simp
    | cons x l ih =>
      intro hx
      have h1 := hx x List.mem_cons_self
      have h2 := ih fun y hy => hx y (List.mem_cons_of_mem _ hy)
      rw [List.sum_cons, List.length_cons]
      omega
  have := b ks h
  rw [sum_int]
  refine .int ?_
  simp only [intOk, Bool.and_eq_true, decide_eq_true_eq]
  exact ⟨by omega, Int.lt_of_le_of_lt (b := 80000000000) (by omega) (by decide)⟩
theorem Dk.tup_ne {p c a : Addr} {H : Hp} {xs : List V} (d : Dk p c H) (h : H a = some (.tup xs)) : a ≠ p ∧ a ≠ c := by
  obtain ⟨m, t, cs, h1, h2, _⟩ := d
  exact ⟨ne_of h h1 (by intro z; cases z), ne_of h h2 (by intro z; cases z)⟩
section
variable {P : Program} {w : World} {K : PySem.W.Frag} {mg : Str → Option Value} {base : Heap}
def spNear : Sp := fun vs H Q _ => ∃ (p c t : Addr) (ks : List Nat), vs = [.ref p, .ref t] ∧ Dk p c H ∧ H t = some (.tup (ctV ks)) ∧ 1 ≤ ks.length ∧ ks.length ≤ 8 ∧ (∀ k ∈ ks, k ≤ 10000000000) ∧ Outs p c H nearG Q
theorem ok_near {f f1 f2 : Addr} {fd fd1 fd2 : FuncData} (F : Fn K mg "_law_near" s__law_near ["_law_deck", "_law_counts"] f fd) (B : Blt mg) (F__law_draw : Fn K mg "_law_draw" s__law_draw ["_law_deck", "_law_many"] f1 fd1) (G__law_draw : FnOk P w K mg base CX0 1 f1 fd1 ["_law_deck", "_law_many"] spDraw)
    (F__law_pick : Fn K mg "_law_pick" s__law_pick ["_law_deck", "_law_some"] f2 fd2) (G__law_pick : FnOk P w K mg base CX0 2 f2 fd2 ["_law_deck", "_law_some"] spPick) : FnOk P w K mg base CX0 3 f fd ["_law_deck", "_law_counts"] spNear := by
  refine F.F.ok sc__law_near (fun vs H Q E h => ?_) (fun cdv A outer s H vs Q E hr h => ?_)
  · obtain ⟨p, c, t, ks, rfl, _⟩ := h
    rfl
  · obtain ⟨p, c, t, ks, rfl, dk, ht, n1, n8, hks, q⟩ := h
    refine ⟨_, (pss_cons (ps_par (i := 2) (j := 3) (by rfl) sc__law_near.nd rfl rfl (by decide) rfl rfl (pa_cons (pe_call G__law_draw (hr.mono (by decide)) (by rfl) F__law_draw.g F__law_draw.F.kp F__law_draw.b .nil pass0 (pa_cons (pv 0) (pa_cons (pe_callB call_len_seq (by rfl) B.n_len PySem.boot_len (pa_cons (pv 1) pa_nil)) pa_nil))) (pa_cons (pe_call G__law_draw (hr.mono (by decide)) (by rfl) F__law_draw.g F__law_draw.F.kp F__law_draw.b .nil pass0 (pa_cons (pv 0) (pa_cons (pe_callB call_len_seq (by rfl) B.n_len PySem.boot_len (pa_cons (pv 1) pa_nil)) pa_nil))) pa_nil)) (by rfl))
      (pss_cons (ps_set (i := 4) sc__law_near.nd rfl (.inl rfl) (pe_lst (pa_cons (pe_op op_catA (pe_op op_catA (pe_slice sl_tupA (pv 1) po_none (po_some (pv 2))) (pe_tup (pa_cons (pe_op op_add (pe_ix ix_tup (pv 1) (pv 2) (fun _ _ => rfl)) pe_int) pa_nil))) (pe_slice sl_tupA (pv 1) (po_some (pe_op op_add (pv 2) pe_int)) po_none)) (pa_cons (pe_op op_catA (pe_op op_catA (pe_slice sl_tupA (pv 1) po_none (po_some (pv 2))) (pe_tup (pa_cons (pe_callB (call_max2 rfl) (by rfl) B.n_max (by decide +kernel) (pa_cons pe_int (pa_cons (pe_op op_sub (pe_ix ix_tup (pv 1) (pv 2) (fun _ _ => rfl)) pe_int) pa_nil))) pa_nil))) (pe_slice sl_tupA (pv 1) (po_some (pe_op op_add (pv 2) pe_int)) po_none)) pa_nil))))
      (pss_cons (ps_set (i := 4) sc__law_near.nd rfl (.inl rfl) (pe_op op_cat (pv 4) (pe_lst (pa_cons (pe_revT (pv 1)) (pa_cons (pe_op op_catA (pv 1) (pe_tup (pa_cons pe_int pa_nil))) (pa_cons (pe_slice sl_tupA (pv 1) po_none (po_some (pe_un un_neg pe_int))) (pa_cons (pe_callTy call_list_of (by rfl) B.n_list (by decide +kernel) (pa_cons (pv 1) pa_nil)) (pa_cons (pe_op op_catA (pe_op op_catA (pe_slice sl_tupA (pv 1) po_none (po_some (pv 2))) (pe_tup (pa_cons (pe_un un_neg pe_int) pa_nil))) (pe_slice sl_tupA (pv 1) (po_some (pe_op op_add (pv 2) pe_int)) po_none)) (pa_cons (pe_tup pa_nil) pa_nil)))))))))
      (pss_cons (ps_set (i := 5) sc__law_near.nd rfl (.inl rfl) (pe_callTy call_list_of (by rfl) B.n_list (by decide +kernel) (pa_cons (pv 1) pa_nil)))
      (pss_cons (ps_asg (pe_tup (pa_cons (pe_ix ix_list (pv 5) (pv 3) (fun _ _ => rfl)) (pa_cons (pe_ix ix_list (pv 5) (pv 2) (fun _ _ => rfl)) pa_nil))) (pg_tup rfl (pgs_cons (pg_sub (pv 5) (pv 2) set_list) (pgs_cons (pg_sub (pv 5) (pv 3) set_list) pgs_nil))))
      (pss_cons (ps_set (i := 6) sc__law_near.nd rfl (.inl rfl) (pe_lst (pa_cons (pe_op op_catA (pe_op op_catA (pe_slice sl_tupA (pv 1) po_none (po_some (pv 2))) (pe_tup (pa_cons pe_bl pa_nil))) (pe_slice sl_tupA (pv 1) (po_some (pe_op op_add (pv 2) pe_int)) po_none)) (pa_cons (pe_op op_catA (pe_op op_catA (pe_slice sl_tupA (pv 1) po_none (po_some (pv 2))) (pe_tup (pa_cons (pe_callTy call_str_int (by rfl) B.n_str (by decide +kernel) (pa_cons (pe_ix ix_tup (pv 1) (pv 2) (fun _ _ => rfl)) pa_nil)) pa_nil))) (pe_slice sl_tupA (pv 1) (po_some (pe_op op_add (pv 2) pe_int)) po_none)) (pa_cons pe_non (pa_cons (pe_callB (cr_sumT rfl) (by rfl) B.n_sum (by decide +kernel) (pa_cons (pv 1) pa_nil)) (pa_cons (pe_op op_catA (pe_op op_catA (pe_slice sl_tupA (pv 1) po_none (po_some (pv 2))) (pe_tup (pa_cons (pe_lst (pa_cons pe_int pa_nil)) pa_nil))) (pe_slice sl_tupA (pv 1) (po_some (pe_op op_add (pv 2) pe_int)) po_none)) (pa_cons (pe_op op_repA (pe_tup (pa_cons pe_dnewK pa_nil)) (pe_callB call_len_seq (by rfl) B.n_len PySem.boot_len (pa_cons (pv 1) pa_nil))) pa_nil))))))))
      (pss_one (ps_ret (pe_call G__law_pick (hr.mono (by decide)) (by rfl) F__law_pick.g F__law_pick.F.kp F__law_pick.b .nil pass0 (pa_cons (pv 0) (pa_cons (pe_op op_cat (pe_op op_cat (pv 4) (pe_lst (pa_cons (pe_callTy call_tuple_of (by rfl) B.n_tuple (by decide +kernel) (pa_cons (pv 5) pa_nil)) (pa_cons (pe_callTy call_tuple_of (by rfl) B.n_tuple (by decide +kernel) (pa_cons (pe_lc (own := [("_law_k", 7)]) rfl sc__law_near.nd (pi_tup (pv 1)) (blkOk_by (N := N__law_near) (sc := defScope s__law_near) (by decide +kernel)) (fun _ _ _ _ _ => (pg_name (i := 7) sc__law_near.nd rfl (Or.inl rfl))) (fun _ _ _ _ _ => pts_nil) (fun _ _ _ _ _ => (pe_op op_add (pv 7) pe_int))) pa_nil)) pa_nil)))) (pv 6)) pa_nil))))))))))), ?_⟩
    refine ⟨_, rfl, _, rfl, t, _, rfl, .inr (SqT.of ht), p, c, ((ctV ks).length : Int), rfl, dk, by rw [ctV_len]; omega, by rw [ctV_len]; omega, fun i H0 hi g0 => ?_⟩
    rw [ctV_len] at hi
    have hi : i < ks.length := by omega
    have ht0 := (show H0 t = some (.tup (ctV ks)) from g0.1 _ _ (dk.tup_ne ht).1 (dk.tup_ne ht).2 ht)
    refine ⟨_, rfl, _, rfl, t, _, rfl, .inr (SqT.of ht0), p, c, ((ctV ks).length : Int), rfl, g0.2, by rw [ctV_len]; omega, by rw [ctV_len]; omega, fun j H1 hj g1 => ⟨_, _, rfl, ?_⟩⟩
    rw [ctV_len] at hj
    have hj : j < ks.length := by omega
    have at1 : At p c H1 t (.tup (ctV ks)) := ⟨(dk.tup_ne ht).1, (dk.tup_ne ht).2, g1.1 _ _ (dk.tup_ne ht).1 (dk.tup_ne ht).2 ht0⟩
    have g1 := g0.trans g1
    have ei : ((i : Int) + 1) = ((i + 1 : Nat) : Int) := by omega
    obtain ⟨k, hki⟩ : ∃ k, ks[i]? = some k := ⟨ks[i], List.getElem?_eq_getElem hi⟩
    obtain ⟨k', hkj⟩ : ∃ k, ks[j]? = some k := ⟨ks[j], List.getElem?_eq_getElem hj⟩
    have SS : Same H1 H1 := Same.refl _
    -- two of them
    refine ⟨_, rfl, _, rfl, _, rfl, sl_any (g1.2.same SS) (at1.kp (.same SS)) fun a1 Ha1 sa1 h1 => ?_⟩
    rw [cutV_to] at h1
    have SSa := SS.trans sa1
    refine ⟨_, rfl, _, rfl, t, _, _, _, rfl, rfl, SqT.of (at1.kp (.same SSa)).2.2, atI_nat (ctV_at hki), _, _, rfl, rfl, sz (by show 1 ≤ 16000000; decide), fun tt htt => ?_⟩
    have sx := same_new (o := .tup [.int ((k : Int) + 1)]) htt
    have hx := At.new (o := .tup [.int ((k : Int) + 1)]) (g1.2.same SSa) htt
    have SSb := SSa.trans sx
    have h1 := h1.kp (.same sx)
    generalize upd Ha1 tt (.tup [.int ((k : Int) + 1)]) = Hb1 at sx hx SSb h1    ⊢
    refine cat_any (g1.2.same SSb) h1 hx (by rw [List.length_take, ctV_len]; show _ + 1 ≤ _; omega) fun c1 Hc1 sc1 i1 => ?_
    have SSc := SSb.trans sc1
    refine ⟨_, rfl, _, rfl, _, _, rfl, rfl, _, rfl, ?_⟩
    dsimp only [tNoPart]
    refine sl_any (g1.2.same SSc) (at1.kp (.same SSc)) fun d1 Hd1 sd1 j1 => ?_
    rw [ei, cutV_from (ctV ks) (by rw [ctV_len]; omega)] at j1
    have SSd := SSc.trans sd1
    refine cat_any (g1.2.same SSd) (i1.kp (.same sd1)) j1 (by rw [List.length_append, List.length_take, List.length_drop, ctV_len]; show _ + 1 + _ ≤ _; omega) fun r1 He1 se1 t1 => ?_
    have SS := SSd.trans se1
    have D1 : Dg p c He1 (.ref r1) (.tuple (((ctD ks).take i ++ [.int ((k : Int) + 1)]) ++ (ctD ks).drop (i + 1))) := .tup t1 ((((dgct ks).take i).app (.cons (.int _) .nil)).app ((dgct ks).drop (i + 1)))
    have S1 : Same He1 He1 := Same.refl _
    refine ⟨_, rfl, _, rfl, _, rfl, sl_any (g1.2.same SS) (at1.kp (.same SS)) fun a2 Ha2 sa2 h2 => ?_⟩
    rw [cutV_to] at h2
    have SSa := SS.trans sa2
    have S1 := S1.trans sa2
    refine ⟨_, rfl, _, rfl, t, _, _, _, rfl, rfl, SqT.of (at1.kp (.same SSa)).2.2, atI_nat (ctV_at hki), _, _, rfl, rfl, 0, (k : Int) - 1, rfl, sz (by show 1 ≤ 16000000; decide), fun tt htt => ?_⟩
    have sx := same_new (o := .tup [.int (if (k : Int) - 1 > 0 then (k : Int) - 1 else 0)]) htt
    have hx := At.new (o := .tup [.int (if (k : Int) - 1 > 0 then (k : Int) - 1 else 0)]) (g1.2.same SSa) htt
    have SSb := SSa.trans sx
    have h2 := h2.kp (.same sx)
    have S1 := S1.trans sx
    generalize upd Ha2 tt (.tup [.int (if (k : Int) - 1 > 0 then (k : Int) - 1 else 0)]) = Hb2 at sx hx SSb h2  S1  ⊢
    refine cat_any (g1.2.same SSb) h2 hx (by rw [List.length_take, ctV_len]; show _ + 1 ≤ _; omega) fun c2 Hc2 sc2 i2 => ?_
    have SSc := SSb.trans sc2
    have S1 := S1.trans sc2
    refine ⟨_, rfl, _, rfl, _, _, rfl, rfl, _, rfl, ?_⟩
    dsimp only [tNoPart]
    refine sl_any (g1.2.same SSc) (at1.kp (.same SSc)) fun d2 Hd2 sd2 j2 => ?_
    rw [ei, cutV_from (ctV ks) (by rw [ctV_len]; omega)] at j2
    have SSd := SSc.trans sd2
    have S1 := S1.trans sd2
    refine cat_any (g1.2.same SSd) (i2.kp (.same sd2)) j2 (by rw [List.length_append, List.length_take, List.length_drop, ctV_len]; show _ + 1 + _ ≤ _; omega) fun r2 He2 se2 t2 => ?_
    have SS := SSd.trans se2
    have S1 := S1.trans se2
    have D2 : Dg p c He2 (.ref r2) (.tuple (((ctD ks).take i ++ [.int (if (k : Int) - 1 > 0 then (k : Int) - 1 else 0)]) ++ (ctD ks).drop (i + 1))) := .tup t2 ((((dgct ks).take i).app (.cons (.int _) .nil)).app ((dgct ks).drop (i + 1)))
    have S2 : Same He2 He2 := Same.refl _
    refine ⟨sz (by show 2 ≤ 16000000; decide), fun L1 hL1 => ?_⟩
    have sL1 := same_new (o := .lst [.ref r1, .ref r2]) hL1
    have nL1 := At.new (o := .lst [.ref r1, .ref r2]) (g1.2.same SS) hL1
    have SS := SS.trans sL1
    have S1 := S1.trans sL1
    have S2 := S2.trans sL1
    generalize upd He2 L1 (.lst [.ref r1, .ref r2]) = HL1 at sL1 nL1 SS S1 S2  ⊢
    refine ⟨_, rfl, _, rfl, t, _, rfl, SqT.of (at1.kp (.same SS)).2.2, fun r3 hr3 => ?_⟩
    have sr3 := same_new (o := .tup (ctV ks).reverse) hr3
    have nr3 := At.new (o := .tup (ctV ks).reverse) (g1.2.same SS) hr3
    have SS := SS.trans sr3
    have S1 := S1.trans sr3
    have S2 := S2.trans sr3
    have nL1 := nL1.kp (.same sr3)
    generalize upd HL1 r3 (.tup (ctV ks).reverse) = Hr3 at sr3 nr3 SS S1 S2 nL1 ⊢
    have D3 : Dg p c Hr3 (.ref r3) (.tuple (ctD ks).reverse) := .tup nr3 ((dgct ks).rev)
    have S3 : Same Hr3 Hr3 := Same.refl _
    refine ⟨_, rfl, sz (by show 1 ≤ 16000000; decide), fun z4 hz4 => ?_⟩
    have sz4 := same_new (o := .tup [.int 0]) hz4
    have nz4 := At.new (o := .tup [.int 0]) (g1.2.same SS) hz4
    have SS := SS.trans sz4
    have S1 := S1.trans sz4
    have S2 := S2.trans sz4
    have S3 := S3.trans sz4
    have nL1 := nL1.kp (.same sz4)
    generalize upd Hr3 z4 (.tup [.int 0]) = Hz4 at sz4 nz4 SS S1 S2 S3 nL1 ⊢
    refine cat_any (g1.2.same SS) (at1.kp (.same SS)) nz4 (by rw [ctV_len]; show _ + 1 ≤ _; omega) fun r4 H4 s4 t4 => ?_
    have SS := SS.trans s4
    have S1 := S1.trans s4
    have S2 := S2.trans s4
    have S3 := S3.trans s4
    have nL1 := nL1.kp (.same s4)
    have D4 : Dg p c H4 (.ref r4) (.tuple (ctD ks ++ [.int 0])) := .tup t4 ((dgct ks).app (.cons (.int _) .nil))
    have S4 : Same H4 H4 := Same.refl _
    refine ⟨_, rfl, 1, rfl, _, rfl, sl_any (g1.2.same SS) (at1.kp (.same SS)) fun r5 H5 s5 t5 => ?_⟩
    have SS := SS.trans s5
    have S1 := S1.trans s5
    have S2 := S2.trans s5
    have S3 := S3.trans s5
    have S4 := S4.trans s5
    have nL1 := nL1.kp (.same s5)
    unfold cutV at t5
    have D5 := Dg.tup t5 (((dgct (p := p) (c := c) (H := H5) ks).drop _).take _)
    have S5 : Same H5 H5 := Same.refl _
    refine ⟨_, rfl, t, _, rfl, .inr (SqT.of (at1.kp (.same SS)).2.2), fun r6 hr6 => ?_⟩
    have sr6 := same_new (o := .lst (ctV ks)) hr6
    have nr6 := At.new (o := .lst (ctV ks)) (g1.2.same SS) hr6
    have SS := SS.trans sr6
    have S1 := S1.trans sr6
    have S2 := S2.trans sr6
    have S3 := S3.trans sr6
    have S4 := S4.trans sr6
    have S5 := S5.trans sr6
    have nL1 := nL1.kp (.same sr6)
    generalize upd H5 r6 (.lst (ctV ks)) = Hr6 at sr6 nr6 SS S1 S2 S3 S4 S5 nL1 ⊢
    have D6 : Dg p c Hr6 (.ref r6) (.list (ctD ks)) := .lst nr6 (dgct ks)
    have S6 : Same Hr6 Hr6 := Same.refl _
    refine ⟨_, rfl, _, rfl, _, rfl, sl_any (g1.2.same SS) (at1.kp (.same SS)) fun a7 Ha7 sa7 h7 => ?_⟩
    rw [cutV_to] at h7
    have SSa := SS.trans sa7
    have S1 := S1.trans sa7
    have S2 := S2.trans sa7
    have S3 := S3.trans sa7
    have S4 := S4.trans sa7
    have S5 := S5.trans sa7
    have S6 := S6.trans sa7
    have nL1 := nL1.kp (.same sa7)
    refine ⟨1, rfl, sz (by show 1 ≤ 16000000; decide), fun tt htt => ?_⟩
    have sx := same_new (o := .tup [.int (-1)]) htt
    have hx := At.new (o := .tup [.int (-1)]) (g1.2.same SSa) htt
    have SSb := SSa.trans sx
    have h7 := h7.kp (.same sx)
    have S1 := S1.trans sx
    have S2 := S2.trans sx
    have S3 := S3.trans sx
    have S4 := S4.trans sx
    have S5 := S5.trans sx
    have S6 := S6.trans sx
    have nL1 := nL1.kp (.same sx)
    generalize upd Ha7 tt (.tup [.int (-1)]) = Hb7 at sx hx SSb h7  S1 S2 S3 S4 S5 S6 nL1 ⊢
    refine cat_any (g1.2.same SSb) h7 hx (by rw [List.length_take, ctV_len]; show _ + 1 ≤ _; omega) fun c7 Hc7 sc7 i7 => ?_
    have SSc := SSb.trans sc7
    have S1 := S1.trans sc7
    have S2 := S2.trans sc7
    have S3 := S3.trans sc7
    have S4 := S4.trans sc7
    have S5 := S5.trans sc7
    have S6 := S6.trans sc7
    have nL1 := nL1.kp (.same sc7)
    refine ⟨_, rfl, _, rfl, _, _, rfl, rfl, _, rfl, ?_⟩
    dsimp only [tNoPart]
    refine sl_any (g1.2.same SSc) (at1.kp (.same SSc)) fun d7 Hd7 sd7 j7 => ?_
    rw [ei, cutV_from (ctV ks) (by rw [ctV_len]; omega)] at j7
    have SSd := SSc.trans sd7
    have S1 := S1.trans sd7
    have S2 := S2.trans sd7
    have S3 := S3.trans sd7
    have S4 := S4.trans sd7
    have S5 := S5.trans sd7
    have S6 := S6.trans sd7
    have nL1 := nL1.kp (.same sd7)
    refine cat_any (g1.2.same SSd) (i7.kp (.same sd7)) j7 (by rw [List.length_append, List.length_take, List.length_drop, ctV_len]; show _ + 1 + _ ≤ _; omega) fun r7 He7 se7 t7 => ?_
    have SS := SSd.trans se7
    have S1 := S1.trans se7
    have S2 := S2.trans se7
    have S3 := S3.trans se7
    have S4 := S4.trans se7
    have S5 := S5.trans se7
    have S6 := S6.trans se7
    have nL1 := nL1.kp (.same se7)
    have D7 : Dg p c He7 (.ref r7) (.tuple (((ctD ks).take i ++ [.int (-1)]) ++ (ctD ks).drop (i + 1))) := .tup t7 ((((dgct ks).take i).app (.cons (.int _) .nil)).app ((dgct ks).drop (i + 1)))
    have S7 : Same He7 He7 := Same.refl _
    refine ⟨sz (by show 0 ≤ 16000000; decide), fun z8 hz8 => ?_⟩
    have sz8 := same_new (o := .tup []) hz8
    have nz8 := At.new (o := .tup []) (g1.2.same SS) hz8
    have SS := SS.trans sz8
    have S1 := S1.trans sz8
    have S2 := S2.trans sz8
    have S3 := S3.trans sz8
    have S4 := S4.trans sz8
    have S5 := S5.trans sz8
    have S6 := S6.trans sz8
    have S7 := S7.trans sz8
    have nL1 := nL1.kp (.same sz8)
    generalize upd He7 z8 (.tup []) = Hz8 at sz8 nz8 SS S1 S2 S3 S4 S5 S6 S7 nL1 ⊢
    have D8 : Dg p c Hz8 (.ref z8) (.tuple []) := .tup nz8 .nil
    have S8 : Same Hz8 Hz8 := Same.refl _
    refine ⟨sz (by show 6 ≤ 16000000; decide), fun L2 hL2 => ?_⟩
    have sL2 := same_new (o := .lst [.ref r3, .ref r4, .ref r5, .ref r6, .ref r7, .ref z8]) hL2
    have nL2 := At.new (o := .lst [.ref r3, .ref r4, .ref r5, .ref r6, .ref r7, .ref z8]) (g1.2.same SS) hL2
    have SS := SS.trans sL2
    have S1 := S1.trans sL2
    have S2 := S2.trans sL2
    have S3 := S3.trans sL2
    have S4 := S4.trans sL2
    have S5 := S5.trans sL2
    have S6 := S6.trans sL2
    have S7 := S7.trans sL2
    have S8 := S8.trans sL2
    have nL1 := nL1.kp (.same sL2)
    generalize upd Hz8 L2 (.lst [.ref r3, .ref r4, .ref r5, .ref r6, .ref r7, .ref z8]) = HL2 at sL2 nL2 SS S1 S2 S3 S4 S5 S6 S7 S8 nL1 ⊢
    refine ⟨L1, L2, _, _, rfl, rfl, nL1.2.2, nL2.2.2, sz (by show 2 + 6 ≤ 16000000; decide), fun M1 hM1 => ?_⟩
    have sM1 := same_new (o := .lst ([.ref r1, .ref r2] ++ [.ref r3, .ref r4, .ref r5, .ref r6, .ref r7, .ref z8])) hM1
    have nM1 := At.new (o := .lst ([.ref r1, .ref r2] ++ [.ref r3, .ref r4, .ref r5, .ref r6, .ref r7, .ref z8])) (g1.2.same SS) hM1
    have SS := SS.trans sM1
    have S1 := S1.trans sM1
    have S2 := S2.trans sM1
    have S3 := S3.trans sM1
    have S4 := S4.trans sM1
    have S5 := S5.trans sM1
    have S6 := S6.trans sM1
    have S7 := S7.trans sM1
    have S8 := S8.trans sM1
    have nL1 := nL1.kp (.same sM1)
    generalize upd HL2 M1 (.lst ([.ref r1, .ref r2] ++ [.ref r3, .ref r4, .ref r5, .ref r6, .ref r7, .ref z8])) = HM1 at sM1 nM1 SS S1 S2 S3 S4 S5 S6 S7 S8 nL1 ⊢
    refine ⟨_, rfl, t, _, rfl, .inr (SqT.of (at1.kp (.same SS)).2.2), fun sw hsw => ?_⟩
    have f0 : H1 sw = none := SS.free hsw
    have f1 : He1 sw = none := S1.free hsw
    have f2 : He2 sw = none := S2.free hsw
    have f3 : Hr3 sw = none := S3.free hsw
    have f4 : H4 sw = none := S4.free hsw
    have f5 : H5 sw = none := S5.free hsw
    have f6 : Hr6 sw = none := S6.free hsw
    have f7 : He7 sw = none := S7.free hsw
    have f8 : Hz8 sw = none := S8.free hsw
    have nMs : M1 ≠ sw := ne_of_none nM1.2.2 hsw
    have ssw := same_new (o := .lst (ctV ks)) hsw
    have nsw := At.new (o := .lst (ctV ks)) (g1.2.same SS) hsw
    have SS := SS.trans ssw
    have S1 := S1.trans ssw
    have S2 := S2.trans ssw
    have S3 := S3.trans ssw
    have S4 := S4.trans ssw
    have S5 := S5.trans ssw
    have S6 := S6.trans ssw
    have S7 := S7.trans ssw
    have S8 := S8.trans ssw
    have nM1 := nM1.kp (.same ssw)
    generalize upd HM1 sw (.lst (ctV ks)) = Hsw at ssw nsw SS S1 S2 S3 S4 S5 S6 S7 S8 nM1 ⊢
    refine ⟨_, rfl, _, rfl, sw, _, _, _, rfl, rfl, SqL.of nsw.2.2, atI_nat (ctV_at hkj), _, rfl, _, rfl, sw, _, _, _, rfl, rfl, SqL.of nsw.2.2, atI_nat (ctV_at hki), sz (by show 2 ≤ 16000000; decide), fun T hT => ?_⟩
    have sT := same_new (o := .tup [.int (k' : Int), .int (k : Int)]) hT
    have nT := At.new (o := .tup [.int (k' : Int), .int (k : Int)]) (g1.2.same SS) hT
    have SS := SS.trans sT
    have S1 := S1.trans sT
    have S2 := S2.trans sT
    have S3 := S3.trans sT
    have S4 := S4.trans sT
    have S5 := S5.trans sT
    have S6 := S6.trans sT
    have S7 := S7.trans sT
    have S8 := S8.trans sT
    have nM1 := nM1.kp (.same sT)
    have nsw := nsw.kp (.same sT)
    generalize upd Hsw T (.tup [.int (k' : Int), .int (k : Int)]) = HT at sT nT SS S1 S2 S3 S4 S5 S6 S7 S8 nM1 nsw ⊢
    refine ⟨T, _, rfl, SqT.of nT.2.2, rfl, _, _, rfl, ⟨_, rfl, _, rfl, sw, _, _, i, rfl, rfl, nsw.2.2, ixN_nat (by rw [ctV_len]; exact hi), ?_⟩⟩
    refine ⟨_, _, rfl, ⟨_, rfl, _, rfl, sw, _, _, j, rfl, rfl, upd_same, ixN_nat (by rw [List.length_set, ctV_len]; exact hj), rfl, ?_⟩⟩
    have eset : ((ctV ks).set i (.int (k' : Int))).set j (.int (k : Int)) = ctV ((ks.set i k').set j k) := by unfold ctV; rw [List.map_set, List.map_set]
    rw [eset]
    have ch : ∀ {Hx : Hp}, Hx sw = none → Same Hx HT → Same Hx (upd (upd HT sw (.lst ((ctV ks).set i (.int (k' : Int))))) sw (.lst (ctV ((ks.set i k').set j k)))) := fun f s b o e => by
      rw [upd_ne (ne_of_none e f), upd_ne (ne_of_none e f)]
      exact s b o e
    have SS := ch f0 SS
    have S1 := ch f1 S1
    have S2 := ch f2 S2
    have S3 := ch f3 S3
    have S4 := ch f4 S4
    have S5 := ch f5 S5
    have S6 := ch f6 S6
    have S7 := ch f7 S7
    have S8 := ch f8 S8
    have nM1 : At p c (upd (upd HT sw (.lst ((ctV ks).set i (.int (k' : Int))))) sw (.lst (ctV ((ks.set i k').set j k)))) M1 _ := ⟨nM1.1, nM1.2.1, by rw [upd_ne nMs, upd_ne nMs]; exact nM1.2.2⟩
    have nsw : At p c (upd (upd HT sw (.lst ((ctV ks).set i (.int (k' : Int))))) sw (.lst (ctV ((ks.set i k').set j k)))) sw (.lst (ctV ((ks.set i k').set j k))) := ⟨nsw.1, nsw.2.1, upd_same⟩
    generalize upd (upd HT sw (.lst ((ctV ks).set i (.int (k' : Int))))) sw (.lst (ctV ((ks.set i k').set j k))) = HS at SS S1 S2 S3 S4 S5 S6 S7 S8 nM1 nsw ⊢
    refine ⟨_, rfl, _, rfl, _, rfl, sl_any (g1.2.same SS) (at1.kp (.same SS)) fun a9 Ha9 sa9 h9 => ?_⟩
    rw [cutV_to] at h9
    have SSa := SS.trans sa9
    have S1 := S1.trans sa9
    have S2 := S2.trans sa9
    have S3 := S3.trans sa9
    have S4 := S4.trans sa9
    have S5 := S5.trans sa9
    have S6 := S6.trans sa9
    have S7 := S7.trans sa9
    have S8 := S8.trans sa9
    have nM1 := nM1.kp (.same sa9)
    have nsw := nsw.kp (.same sa9)
    refine ⟨sz (by show 1 ≤ 16000000; decide), fun tt htt => ?_⟩
    have sx := same_new (o := .tup [.bl true]) htt
    have hx := At.new (o := .tup [.bl true]) (g1.2.same SSa) htt
    have SSb := SSa.trans sx
    have h9 := h9.kp (.same sx)
    have S1 := S1.trans sx
    have S2 := S2.trans sx
    have S3 := S3.trans sx
    have S4 := S4.trans sx
    have S5 := S5.trans sx
    have S6 := S6.trans sx
    have S7 := S7.trans sx
    have S8 := S8.trans sx
    have nM1 := nM1.kp (.same sx)
    have nsw := nsw.kp (.same sx)
    generalize upd Ha9 tt (.tup [.bl true]) = Hb9 at sx hx SSb h9  S1 S2 S3 S4 S5 S6 S7 S8 nM1 nsw ⊢
    refine cat_any (g1.2.same SSb) h9 hx (by rw [List.length_take, ctV_len]; show _ + 1 ≤ _; omega) fun c9 Hc9 sc9 i9 => ?_
    have SSc := SSb.trans sc9
    have S1 := S1.trans sc9
    have S2 := S2.trans sc9
    have S3 := S3.trans sc9
    have S4 := S4.trans sc9
    have S5 := S5.trans sc9
    have S6 := S6.trans sc9
    have S7 := S7.trans sc9
    have S8 := S8.trans sc9
    have nM1 := nM1.kp (.same sc9)
    have nsw := nsw.kp (.same sc9)
    refine ⟨_, rfl, _, rfl, _, _, rfl, rfl, _, rfl, ?_⟩
    dsimp only [tNoPart]
    refine sl_any (g1.2.same SSc) (at1.kp (.same SSc)) fun d9 Hd9 sd9 j9 => ?_
    rw [ei, cutV_from (ctV ks) (by rw [ctV_len]; omega)] at j9
    have SSd := SSc.trans sd9
    have S1 := S1.trans sd9
    have S2 := S2.trans sd9
    have S3 := S3.trans sd9
    have S4 := S4.trans sd9
    have S5 := S5.trans sd9
    have S6 := S6.trans sd9
    have S7 := S7.trans sd9
    have S8 := S8.trans sd9
    have nM1 := nM1.kp (.same sd9)
    have nsw := nsw.kp (.same sd9)
    refine cat_any (g1.2.same SSd) (i9.kp (.same sd9)) j9 (by rw [List.length_append, List.length_take, List.length_drop, ctV_len]; show _ + 1 + _ ≤ _; omega) fun r9 He9 se9 t9 => ?_
    have SS := SSd.trans se9
    have S1 := S1.trans se9
    have S2 := S2.trans se9
    have S3 := S3.trans se9
    have S4 := S4.trans se9
    have S5 := S5.trans se9
    have S6 := S6.trans se9
    have S7 := S7.trans se9
    have S8 := S8.trans se9
    have nM1 := nM1.kp (.same se9)
    have nsw := nsw.kp (.same se9)
    have D9 : Dg p c He9 (.ref r9) (.tuple (((ctD ks).take i ++ [.bool true]) ++ (ctD ks).drop (i + 1))) := .tup t9 ((((dgct ks).take i).app (.cons (.bl _) .nil)).app ((dgct ks).drop (i + 1)))
    have S9 : Same He9 He9 := Same.refl _
    refine ⟨_, rfl, _, rfl, _, rfl, sl_any (g1.2.same SS) (at1.kp (.same SS)) fun a10 Ha10 sa10 h10 => ?_⟩
    rw [cutV_to] at h10
    have SSa := SS.trans sa10
    have S1 := S1.trans sa10
    have S2 := S2.trans sa10
    have S3 := S3.trans sa10
    have S4 := S4.trans sa10
    have S5 := S5.trans sa10
    have S6 := S6.trans sa10
    have S7 := S7.trans sa10
    have S8 := S8.trans sa10
    have S9 := S9.trans sa10
    have nM1 := nM1.kp (.same sa10)
    have nsw := nsw.kp (.same sa10)
    refine ⟨_, rfl, _, rfl, t, _, _, _, rfl, rfl, SqT.of (at1.kp (.same SSa)).2.2, atI_nat (ctV_at hki), (k : Int), rfl, log_small (Nat.lt_of_le_of_lt (hks k (List.mem_of_getElem? hki)) (by decide)), sz (by show 1 ≤ 16000000; decide), fun tt htt => ?_⟩
    have sx := same_new (o := .tup [.str (toString ((k : Nat) : Int))]) htt
    have hx := At.new (o := .tup [.str (toString ((k : Nat) : Int))]) (g1.2.same SSa) htt
    have SSb := SSa.trans sx
    have h10 := h10.kp (.same sx)
    have S1 := S1.trans sx
    have S2 := S2.trans sx
    have S3 := S3.trans sx
    have S4 := S4.trans sx
    have S5 := S5.trans sx
    have S6 := S6.trans sx
    have S7 := S7.trans sx
    have S8 := S8.trans sx
    have S9 := S9.trans sx
    have nM1 := nM1.kp (.same sx)
    have nsw := nsw.kp (.same sx)
    generalize upd Ha10 tt (.tup [.str (toString ((k : Nat) : Int))]) = Hb10 at sx hx SSb h10  S1 S2 S3 S4 S5 S6 S7 S8 S9 nM1 nsw ⊢
    refine cat_any (g1.2.same SSb) h10 hx (by rw [List.length_take, ctV_len]; show _ + 1 ≤ _; omega) fun c10 Hc10 sc10 i10 => ?_
    have SSc := SSb.trans sc10
    have S1 := S1.trans sc10
    have S2 := S2.trans sc10
    have S3 := S3.trans sc10
    have S4 := S4.trans sc10
    have S5 := S5.trans sc10
    have S6 := S6.trans sc10
    have S7 := S7.trans sc10
    have S8 := S8.trans sc10
    have S9 := S9.trans sc10
    have nM1 := nM1.kp (.same sc10)
    have nsw := nsw.kp (.same sc10)
    refine ⟨_, rfl, _, rfl, _, _, rfl, rfl, _, rfl, ?_⟩
    dsimp only [tNoPart]
    refine sl_any (g1.2.same SSc) (at1.kp (.same SSc)) fun d10 Hd10 sd10 j10 => ?_
    rw [ei, cutV_from (ctV ks) (by rw [ctV_len]; omega)] at j10
    have SSd := SSc.trans sd10
    have S1 := S1.trans sd10
    have S2 := S2.trans sd10
    have S3 := S3.trans sd10
    have S4 := S4.trans sd10
    have S5 := S5.trans sd10
    have S6 := S6.trans sd10
    have S7 := S7.trans sd10
    have S8 := S8.trans sd10
    have S9 := S9.trans sd10
    have nM1 := nM1.kp (.same sd10)
    have nsw := nsw.kp (.same sd10)
    refine cat_any (g1.2.same SSd) (i10.kp (.same sd10)) j10 (by rw [List.length_append, List.length_take, List.length_drop, ctV_len]; show _ + 1 + _ ≤ _; omega) fun r10 He10 se10 t10 => ?_
    have SS := SSd.trans se10
    have S1 := S1.trans se10
    have S2 := S2.trans se10
    have S3 := S3.trans se10
    have S4 := S4.trans se10
    have S5 := S5.trans se10
    have S6 := S6.trans se10
    have S7 := S7.trans se10
    have S8 := S8.trans se10
    have S9 := S9.trans se10
    have nM1 := nM1.kp (.same se10)
    have nsw := nsw.kp (.same se10)
    have D10 : Dg p c He10 (.ref r10) (.tuple (((ctD ks).take i ++ [.str (toString ((k : Nat) : Int))]) ++ (ctD ks).drop (i + 1))) := .tup t10 ((((dgct ks).take i).app (.cons (.str _) .nil)).app ((dgct ks).drop (i + 1)))
    have S10 : Same He10 He10 := Same.refl _
    have sumI : (ks.map fun k => ((k : Nat) : Int)).sum = ((ks.sum : Nat) : Int) := sum_int ks
    refine ⟨_, rfl, t, ks.map (fun k => ((k : Nat) : Int)), rfl, SqT.of ((at1.kp (.same SS)).2.2.trans (by rw [ctV_int])), _, rfl, _, rfl, _, rfl, sl_any (g1.2.same SS) (at1.kp (.same SS)) fun a11 Ha11 sa11 h11 => ?_⟩
    rw [cutV_to] at h11
    have SSa := SS.trans sa11
    have S1 := S1.trans sa11
    have S2 := S2.trans sa11
    have S3 := S3.trans sa11
    have S4 := S4.trans sa11
    have S5 := S5.trans sa11
    have S6 := S6.trans sa11
    have S7 := S7.trans sa11
    have S8 := S8.trans sa11
    have S9 := S9.trans sa11
    have S10 := S10.trans sa11
    have nM1 := nM1.kp (.same sa11)
    have nsw := nsw.kp (.same sa11)
    refine ⟨sz (by show 1 ≤ 16000000; decide), fun zl hzl => ?_⟩
    have sz0 := same_new (o := .lst [.int 0]) hzl
    have hz0 := At.new (o := .lst [.int 0]) (g1.2.same SSa) hzl
    have SSz := SSa.trans sz0
    have h11 := h11.kp (.same sz0)
    have S1 := S1.trans sz0
    have S2 := S2.trans sz0
    have S3 := S3.trans sz0
    have S4 := S4.trans sz0
    have S5 := S5.trans sz0
    have S6 := S6.trans sz0
    have S7 := S7.trans sz0
    have S8 := S8.trans sz0
    have S9 := S9.trans sz0
    have S10 := S10.trans sz0
    have nM1 := nM1.kp (.same sz0)
    have nsw := nsw.kp (.same sz0)
    generalize upd Ha11 zl (.lst [.int 0]) = Ha11 at sz0 hz0 SSz h11 S1 S2 S3 S4 S5 S6 S7 S8 S9 S10 nM1 nsw ⊢
    have SSa := SSz
    refine ⟨sz (by show 1 ≤ 16000000; decide), fun tt htt => ?_⟩
    have sx := same_new (o := .tup [.ref zl]) htt
    have hx := At.new (o := .tup [.ref zl]) (g1.2.same SSa) htt
    have SSb := SSa.trans sx
    have h11 := h11.kp (.same sx)
    have hz0 := hz0.kp (.same sx)
    have S1 := S1.trans sx
    have S2 := S2.trans sx
    have S3 := S3.trans sx
    have S4 := S4.trans sx
    have S5 := S5.trans sx
    have S6 := S6.trans sx
    have S7 := S7.trans sx
    have S8 := S8.trans sx
    have S9 := S9.trans sx
    have S10 := S10.trans sx
    have nM1 := nM1.kp (.same sx)
    have nsw := nsw.kp (.same sx)
    generalize upd Ha11 tt (.tup [.ref zl]) = Hb11 at sx hx SSb h11 hz0 S1 S2 S3 S4 S5 S6 S7 S8 S9 S10 nM1 nsw ⊢
    refine cat_any (g1.2.same SSb) h11 hx (by rw [List.length_take, ctV_len]; show _ + 1 ≤ _; omega) fun c11 Hc11 sc11 i11 => ?_
    have SSc := SSb.trans sc11
    have S1 := S1.trans sc11
    have S2 := S2.trans sc11
    have S3 := S3.trans sc11
    have S4 := S4.trans sc11
    have S5 := S5.trans sc11
    have S6 := S6.trans sc11
    have S7 := S7.trans sc11
    have S8 := S8.trans sc11
    have S9 := S9.trans sc11
    have S10 := S10.trans sc11
    have nM1 := nM1.kp (.same sc11)
    have nsw := nsw.kp (.same sc11)
    refine ⟨_, rfl, _, rfl, _, _, rfl, rfl, _, rfl, ?_⟩
    dsimp only [tNoPart]
    refine sl_any (g1.2.same SSc) (at1.kp (.same SSc)) fun d11 Hd11 sd11 j11 => ?_
    rw [ei, cutV_from (ctV ks) (by rw [ctV_len]; omega)] at j11
    have SSd := SSc.trans sd11
    have S1 := S1.trans sd11
    have S2 := S2.trans sd11
    have S3 := S3.trans sd11
    have S4 := S4.trans sd11
    have S5 := S5.trans sd11
    have S6 := S6.trans sd11
    have S7 := S7.trans sd11
    have S8 := S8.trans sd11
    have S9 := S9.trans sd11
    have S10 := S10.trans sd11
    have nM1 := nM1.kp (.same sd11)
    have nsw := nsw.kp (.same sd11)
    refine cat_any (g1.2.same SSd) (i11.kp (.same sd11)) j11 (by rw [List.length_append, List.length_take, List.length_drop, ctV_len]; show _ + 1 + _ ≤ _; omega) fun r11 He11 se11 t11 => ?_
    have SS := SSd.trans se11
    have S1 := S1.trans se11
    have S2 := S2.trans se11
    have S3 := S3.trans se11
    have S4 := S4.trans se11
    have S5 := S5.trans se11
    have S6 := S6.trans se11
    have S7 := S7.trans se11
    have S8 := S8.trans se11
    have S9 := S9.trans se11
    have S10 := S10.trans se11
    have nM1 := nM1.kp (.same se11)
    have nsw := nsw.kp (.same se11)
    have hz0 := ((hz0.kp (.same sc11)).kp (.same sd11)).kp (.same se11)
    have D11 : Dg p c He11 (.ref r11) (.tuple (((ctD ks).take i ++ [.list [.int 0]]) ++ (ctD ks).drop (i + 1))) := .tup t11 ((((dgct ks).take i).app (.cons (.lst hz0 (.cons (.int _) .nil)) .nil)).app ((dgct ks).drop (i + 1)))
    have S11 : Same He11 He11 := Same.refl _
    refine (fun dz hdz => ?_)
    have sdz := same_new (o := .dK []) hdz
    have ndz := At.new (o := .dK []) (g1.2.same SS) hdz
    have SS := SS.trans sdz
    have S1 := S1.trans sdz
    have S2 := S2.trans sdz
    have S3 := S3.trans sdz
    have S4 := S4.trans sdz
    have S5 := S5.trans sdz
    have S6 := S6.trans sdz
    have S7 := S7.trans sdz
    have S8 := S8.trans sdz
    have S9 := S9.trans sdz
    have S10 := S10.trans sdz
    have S11 := S11.trans sdz
    have nM1 := nM1.kp (.same sdz)
    have nsw := nsw.kp (.same sdz)
    generalize upd He11 dz (.dK []) = Hdz at sdz ndz SS S1 S2 S3 S4 S5 S6 S7 S8 S9 S10 S11 nM1 nsw ⊢
    refine ⟨sz (by show 1 ≤ 16000000; decide), fun dt hdt => ?_⟩
    have sdt := same_new (o := .tup [.ref dz]) hdt
    have ndt := At.new (o := .tup [.ref dz]) (g1.2.same SS) hdt
    have SS := SS.trans sdt
    have S1 := S1.trans sdt
    have S2 := S2.trans sdt
    have S3 := S3.trans sdt
    have S4 := S4.trans sdt
    have S5 := S5.trans sdt
    have S6 := S6.trans sdt
    have S7 := S7.trans sdt
    have S8 := S8.trans sdt
    have S9 := S9.trans sdt
    have S10 := S10.trans sdt
    have S11 := S11.trans sdt
    have nM1 := nM1.kp (.same sdt)
    have nsw := nsw.kp (.same sdt)
    have ndz := ndz.kp (.same sdt)
    generalize upd Hdz dt (.tup [.ref dz]) = Hdt at sdt ndt SS S1 S2 S3 S4 S5 S6 S7 S8 S9 S10 S11 nM1 nsw ndz ⊢
    refine ⟨_, rfl, t, _, rfl, .inr (SqT.of (at1.kp (.same SS)).2.2), dt, (ctV ks).length, [.ref dz], rfl, rfl, ndt.2.2, by simp, by rw [ctV_len]; show 1 * _ ≤ _; omega, by rw [ctV_len]; omega, fun rz Hz s12 hrz => ?_⟩
    have SS := SS.trans s12
    have S1 := S1.trans s12
    have S2 := S2.trans s12
    have S3 := S3.trans s12
    have S4 := S4.trans s12
    have S5 := S5.trans s12
    have S6 := S6.trans s12
    have S7 := S7.trans s12
    have S8 := S8.trans s12
    have S9 := S9.trans s12
    have S10 := S10.trans s12
    have S11 := S11.trans s12
    have nM1 := nM1.kp (.same s12)
    have nsw := nsw.kp (.same s12)
    have ndz := ndz.kp (.same s12)
    have D12 : Dg p c Hz (.ref rz) (.tuple (List.replicate (ctV ks).length (.dict []))) := .tup ⟨((g1.2.same SS).tup_ne hrz).1, ((g1.2.same SS).tup_ne hrz).2, hrz⟩ (rep_dg ndz _)
    have S12 : Same Hz Hz := Same.refl _
    refine ⟨sz (by show 6 ≤ 16000000; decide), fun L3 hL3 => ?_⟩
    have sL3 := same_new (o := .lst [.ref r9, .ref r10, .non, .int (ks.map fun k => ((k : Nat) : Int)).sum, .ref r11, .ref rz]) hL3
    have nL3 := At.new (o := .lst [.ref r9, .ref r10, .non, .int (ks.map fun k => ((k : Nat) : Int)).sum, .ref r11, .ref rz]) (g1.2.same SS) hL3
    have SS := SS.trans sL3
    have S1 := S1.trans sL3
    have S2 := S2.trans sL3
    have S3 := S3.trans sL3
    have S4 := S4.trans sL3
    have S5 := S5.trans sL3
    have S6 := S6.trans sL3
    have S7 := S7.trans sL3
    have S8 := S8.trans sL3
    have S9 := S9.trans sL3
    have S10 := S10.trans sL3
    have S11 := S11.trans sL3
    have S12 := S12.trans sL3
    have nM1 := nM1.kp (.same sL3)
    have nsw := nsw.kp (.same sL3)
    have ndz := ndz.kp (.same sL3)
    generalize upd Hz L3 (.lst [.ref r9, .ref r10, .non, .int (ks.map fun k => ((k : Nat) : Int)).sum, .ref r11, .ref rz]) = HL3 at sL3 nL3 SS S1 S2 S3 S4 S5 S6 S7 S8 S9 S10 S11 S12 nM1 nsw ndz ⊢
    refine ⟨_, rfl, _, rfl, _, rfl, sw, _, rfl, .inl ⟨SqL.of nsw.2.2, fun ts1 hts1 => ?_⟩⟩
    have sts1 := same_new (o := .tup (ctV ((ks.set i k').set j k))) hts1
    have nts1 := At.new (o := .tup (ctV ((ks.set i k').set j k))) (g1.2.same SS) hts1
    have SS := SS.trans sts1
    have S1 := S1.trans sts1
    have S2 := S2.trans sts1
    have S3 := S3.trans sts1
    have S4 := S4.trans sts1
    have S5 := S5.trans sts1
    have S6 := S6.trans sts1
    have S7 := S7.trans sts1
    have S8 := S8.trans sts1
    have S9 := S9.trans sts1
    have S10 := S10.trans sts1
    have S11 := S11.trans sts1
    have S12 := S12.trans sts1
    have nM1 := nM1.kp (.same sts1)
    have nsw := nsw.kp (.same sts1)
    have ndz := ndz.kp (.same sts1)
    have nL3 := nL3.kp (.same sts1)
    generalize upd HL3 ts1 (.tup (ctV ((ks.set i k').set j k))) = Hts1 at sts1 nts1 SS S1 S2 S3 S4 S5 S6 S7 S8 S9 S10 S11 S12 nM1 nsw ndz nL3 ⊢
    have D13 : Dg p c Hts1 (.ref ts1) (.tuple (ctD ((ks.set i k').set j k))) := .tup nts1 (dgct _)
    have S13 : Same Hts1 Hts1 := Same.refl _
    refine ⟨_, rfl, t, rfl, ⟨_, SqT.of (at1.kp (.same SS)).2.2⟩, fun Dl hDl => ?_⟩
    refine lc_sel (walk_tup (K := K) (a := t) (xs := ctV ks)) (fun _ => true) (fun m => .int ((kF ks m + 1 : Nat) : Int)) (by rw [ctV_len]; omega) hDl (fun H' s => SqT.of (s _ _ (at1.kp (.same SS)).2.2)) ?_ ?_
    · rintro m y Hx Hy kk k0 hm sm ⟨rfl, hy⟩ hkk _
      have hkk := hkk rfl _ (Same.refl _)
      unfold ctV at hy
      rw [List.getElem?_map] at hy
      cases em : ks[m]? with
      | none => rw [em] at hy; cases hy
      | some n =>
        rw [em] at hy
        obtain rfl := Option.some.inj hy
        rw [kF_at em] at hkk
        exact ⟨rfl, _, rfl, _, _, rfl, rfl, hkk⟩
    intro Hl sl hl
    have hl : Hl Dl = some (.lst (ctV (ks.map (· + 1)))) := by
      rw [hl, filt_all]
      congr 2
      refine List.ext_getElem? fun m => ?_
      unfold ctV
      rw [List.getElem?_map, List.getElem?_map, List.getElem?_map, List.length_map]
      by_cases hm : m < ks.length
      · rw [List.getElem?_range hm, List.getElem?_eq_getElem hm]
        show some (V.int ((kF ks m + 1 : Nat) : Int)) = _
        rw [kF_at (List.getElem?_eq_getElem hm)]
        rfl
      · rw [List.getElem?_eq_none (by simpa using hm), List.getElem?_eq_none (by omega)]
        rfl
    have SS := SS.trans sl
    have S1 := S1.trans sl
    have S2 := S2.trans sl
    have S3 := S3.trans sl
    have S4 := S4.trans sl
    have S5 := S5.trans sl
    have S6 := S6.trans sl
    have S7 := S7.trans sl
    have S8 := S8.trans sl
    have S9 := S9.trans sl
    have S10 := S10.trans sl
    have S11 := S11.trans sl
    have S12 := S12.trans sl
    have S13 := S13.trans sl
    have nM1 := nM1.kp (.same sl)
    have nsw := nsw.kp (.same sl)
    have ndz := ndz.kp (.same sl)
    have nL3 := nL3.kp (.same sl)
    refine ⟨Dl, _, rfl, .inl ⟨SqL.of hl, fun ts2 hts2 => ?_⟩⟩
    have sts2 := same_new (o := .tup (ctV (ks.map (· + 1)))) hts2
    have nts2 := At.new (o := .tup (ctV (ks.map (· + 1)))) (g1.2.same SS) hts2
    have SS := SS.trans sts2
    have S1 := S1.trans sts2
    have S2 := S2.trans sts2
    have S3 := S3.trans sts2
    have S4 := S4.trans sts2
    have S5 := S5.trans sts2
    have S6 := S6.trans sts2
    have S7 := S7.trans sts2
    have S8 := S8.trans sts2
    have S9 := S9.trans sts2
    have S10 := S10.trans sts2
    have S11 := S11.trans sts2
    have S12 := S12.trans sts2
    have S13 := S13.trans sts2
    have nM1 := nM1.kp (.same sts2)
    have nsw := nsw.kp (.same sts2)
    have ndz := ndz.kp (.same sts2)
    have nL3 := nL3.kp (.same sts2)
    generalize upd Hl ts2 (.tup (ctV (ks.map (· + 1)))) = Hts2 at sts2 nts2 SS S1 S2 S3 S4 S5 S6 S7 S8 S9 S10 S11 S12 S13 nM1 nsw ndz nL3 ⊢
    have D14 : Dg p c Hts2 (.ref ts2) (.tuple (ctD (ks.map (· + 1)))) := .tup nts2 (dgct _)
    have S14 : Same Hts2 Hts2 := Same.refl _
    refine ⟨sz (by show 2 ≤ 16000000; decide), fun L4 hL4 => ?_⟩
    have sL4 := same_new (o := .lst [.ref ts1, .ref ts2]) hL4
    have nL4 := At.new (o := .lst [.ref ts1, .ref ts2]) (g1.2.same SS) hL4
    have SS := SS.trans sL4
    have S1 := S1.trans sL4
    have S2 := S2.trans sL4
    have S3 := S3.trans sL4
    have S4 := S4.trans sL4
    have S5 := S5.trans sL4
    have S6 := S6.trans sL4
    have S7 := S7.trans sL4
    have S8 := S8.trans sL4
    have S9 := S9.trans sL4
    have S10 := S10.trans sL4
    have S11 := S11.trans sL4
    have S12 := S12.trans sL4
    have S13 := S13.trans sL4
    have S14 := S14.trans sL4
    have nM1 := nM1.kp (.same sL4)
    have nsw := nsw.kp (.same sL4)
    have ndz := ndz.kp (.same sL4)
    have nL3 := nL3.kp (.same sL4)
    generalize upd Hts2 L4 (.lst [.ref ts1, .ref ts2]) = HL4 at sL4 nL4 SS S1 S2 S3 S4 S5 S6 S7 S8 S9 S10 S11 S12 S13 S14 nM1 nsw ndz nL3 ⊢
    refine ⟨M1, L4, _, _, rfl, rfl, nM1.2.2, nL4.2.2, sz (by show 8 + 2 ≤ 16000000; decide), fun M2 hM2 => ?_⟩
    have sM2 := same_new (o := .lst (([.ref r1, .ref r2] ++ [.ref r3, .ref r4, .ref r5, .ref r6, .ref r7, .ref z8]) ++ [.ref ts1, .ref ts2])) hM2
    have nM2 := At.new (o := .lst (([.ref r1, .ref r2] ++ [.ref r3, .ref r4, .ref r5, .ref r6, .ref r7, .ref z8]) ++ [.ref ts1, .ref ts2])) (g1.2.same SS) hM2
    have SS := SS.trans sM2
    have S1 := S1.trans sM2
    have S2 := S2.trans sM2
    have S3 := S3.trans sM2
    have S4 := S4.trans sM2
    have S5 := S5.trans sM2
    have S6 := S6.trans sM2
    have S7 := S7.trans sM2
    have S8 := S8.trans sM2
    have S9 := S9.trans sM2
    have S10 := S10.trans sM2
    have S11 := S11.trans sM2
    have S12 := S12.trans sM2
    have S13 := S13.trans sM2
    have S14 := S14.trans sM2
    have nM1 := nM1.kp (.same sM2)
    have nsw := nsw.kp (.same sM2)
    have ndz := ndz.kp (.same sM2)
    have nL3 := nL3.kp (.same sM2)
    generalize upd HL4 M2 (.lst (([.ref r1, .ref r2] ++ [.ref r3, .ref r4, .ref r5, .ref r6, .ref r7, .ref z8]) ++ [.ref ts1, .ref ts2])) = HM2 at sM2 nM2 SS S1 S2 S3 S4 S5 S6 S7 S8 S9 S10 S11 S12 S13 S14 nM1 nsw ndz nL3 ⊢
    refine ⟨_, rfl, M2, L3, _, _, rfl, rfl, nM2.2.2, nL3.2.2, sz (by show 10 + 6 ≤ 16000000; decide), fun M3 hM3 => ?_⟩
    have sM3 := same_new (o := .lst ((([.ref r1, .ref r2] ++ [.ref r3, .ref r4, .ref r5, .ref r6, .ref r7, .ref z8]) ++ [.ref ts1, .ref ts2]) ++ [.ref r9, .ref r10, .non, .int (ks.map fun k => ((k : Nat) : Int)).sum, .ref r11, .ref rz])) hM3
    have nM3 := At.new (o := .lst ((([.ref r1, .ref r2] ++ [.ref r3, .ref r4, .ref r5, .ref r6, .ref r7, .ref z8]) ++ [.ref ts1, .ref ts2]) ++ [.ref r9, .ref r10, .non, .int (ks.map fun k => ((k : Nat) : Int)).sum, .ref r11, .ref rz])) (g1.2.same SS) hM3
    have SS := SS.trans sM3
    have S1 := S1.trans sM3
    have S2 := S2.trans sM3
    have S3 := S3.trans sM3
    have S4 := S4.trans sM3
    have S5 := S5.trans sM3
    have S6 := S6.trans sM3
    have S7 := S7.trans sM3
    have S8 := S8.trans sM3
    have S9 := S9.trans sM3
    have S10 := S10.trans sM3
    have S11 := S11.trans sM3
    have S12 := S12.trans sM3
    have S13 := S13.trans sM3
    have S14 := S14.trans sM3
    have nM1 := nM1.kp (.same sM3)
    have nsw := nsw.kp (.same sM3)
    have ndz := ndz.kp (.same sM3)
    have nL3 := nL3.kp (.same sM3)
    generalize upd HM2 M3 (.lst ((([.ref r1, .ref r2] ++ [.ref r3, .ref r4, .ref r5, .ref r6, .ref r7, .ref z8]) ++ [.ref ts1, .ref ts2]) ++ [.ref r9, .ref r10, .non, .int (ks.map fun k => ((k : Nat) : Int)).sum, .ref r11, .ref rz])) = HM3 at sM3 nM3 SS S1 S2 S3 S4 S5 S6 S7 S8 S9 S10 S11 S12 S13 S14 nM1 nsw ndz nL3 ⊢
    refine ⟨p, c, .ref M3, rfl, g1.2.same SS, .inl ⟨M3, _, rfl, nM3, (by show 1 ≤ 16; decide), (by show 16 ≤ 100000; decide), fun r x HF hx gF => ?_⟩⟩
    have gg := (g1.trans (Gx.same g1.2 SS)).trans gF
    have fin : ∀ {v : V} {d : PyData} {Hk : Hp}, Dg p c Hk v d → Same Hk HM3 → nearG d → x = v → Q x HF := fun dg s gd e => by
      subst e
      exact q _ _ HF gg ((dg.to (.same s)).to gF.kp) gd
    have mem := List.mem_of_getElem? hx
    simp only [List.cons_append, List.nil_append, List.mem_cons, List.not_mem_nil, or_false] at mem
    have int9 : ∀ {m : Int}, -1 ≤ m → m ≤ 100000000000 → ∀ qq, Gd qq (.int m) 2 40 ∧ smI (.int m) = true := fun h1 h2 qq => ⟨.int (by simp only [intOk, Bool.and_eq_true, decide_eq_true_eq]; exact ⟨h1, Int.lt_of_le_of_lt h2 (by decide)⟩), decide_eq_true (by omega)⟩
    have ctG : ∀ qq, ∀ d ∈ ctD ks, Gd qq d 2 40 ∧ smI d = true := fun qq d hd => by
      obtain ⟨m, hm, rfl⟩ := List.mem_map.mp hd
      have := hks m hm
      exact int9 (by omega) (by omega) qq
    have lct : (ctD ks).length = ks.length := by simp
    have ki : k ≤ 10000000000 := hks k (List.mem_of_getElem? hki)
    have kj : k' ≤ 10000000000 := hks k' (List.mem_of_getElem? hkj)
    have putG : ∀ qq x, Gd qq x 2 40 ∧ smI x = true → nearG (.tuple (((ctD ks).take i ++ [x]) ++ (ctD ks).drop (i + 1))) := fun qq x hx => row_good (q := qq) (fun d hd => by
      rcases List.mem_append.mp hd with hd | hd
      · rcases List.mem_append.mp hd with hd | hd
        · exact ctG qq d (List.mem_of_mem_take hd)
        · rw [List.mem_singleton.mp hd]
          exact hx
      · exact ctG qq d (List.mem_of_mem_drop hd)) (by rw [List.length_append, List.length_append, List.length_take, List.length_drop, lct]; show _ + 1 + _ ≤ 9; omega)
    rcases mem with h | h | h | h | h | h | h | h | h | h | h | h | h | h | h | h
    · exact fin D1 S1 (putG true _ (int9 (by omega) (by omega) _)) h
    · exact fin D2 S2 (putG true _ (int9 (by split <;> omega) (by split <;> omega) _)) h
    · exact fin D3 S3 (row_good (q := true) (fun d hd => ctG true d (List.mem_reverse.mp hd)) (by rw [List.length_reverse, lct]; omega)) h
    · exact fin D4 S4 (row_good (q := true) (fun d hd => by
        rcases List.mem_append.mp hd with hd | hd
        · exact ctG true d hd
        · rw [List.mem_singleton.mp hd]; exact int9 (by decide) (by decide) _) (by rw [List.length_append, lct]; show _ + 1 ≤ 9; omega)) h
    · exact fin D5 S5 (row_good (q := true) (fun d hd => ctG true d (List.mem_of_mem_drop (List.mem_of_mem_take hd))) (by rw [List.length_take, List.length_drop, lct]; omega)) h
    · exact fin D6 S6 ⟨list_good (fun d hd => (ctG false d hd).1) (by rw [lct]; omega), rfl⟩ h
    · exact fin D7 S7 (putG true _ (int9 (by decide) (by decide) _)) h
    · exact fin D8 S8 (row_good (q := true) (fun d hd => by cases hd) (by decide)) h
    · exact fin D13 S13 (row_good (q := true) (fun d hd => by
        obtain ⟨m, hm, rfl⟩ := List.mem_map.mp hd
        have hm2 : m ≤ 10000000000 := by
          rcases List.mem_or_eq_of_mem_set hm with hm | rfl
          · rcases List.mem_or_eq_of_mem_set hm with hm | rfl
            · exact hks m hm
            · exact kj
          · exact ki
        exact int9 (by omega) (by omega) _) (by simp; omega)) h
    · exact fin D14 S14 (row_good (q := true) (fun d hd => by
        obtain ⟨m, hm, rfl⟩ := List.mem_map.mp hd
        obtain ⟨m0, hm0, rfl⟩ := List.mem_map.mp hm
        have := hks m0 hm0
        exact int9 (by omega) (by omega) _) (by simp; omega)) h
    · exact fin D9 S9 (putG true _ ⟨.bl, rfl⟩) h
    · exact fin D10 S10 (putG true _ ⟨num_good ki, rfl⟩) h
    · exact fin (.non (p := p) (c := c) (H := HM3)) (Same.refl _) ⟨⟨true, .non⟩, rfl⟩ h
    · exact fin (.int (p := p) (c := c) (H := HM3) _) (Same.refl _) ⟨⟨true, sum_good hks n8⟩, rfl⟩ h
    · exact fin D11 S11 (putG false _ ⟨Gd.mono (Gd.lst (GdA.cons (b1 := 0) (b2 := 0) (b := 1) (n := 0) (.int (by decide)) .nil (by decide))) (by decide) (by decide), rfl⟩) h
    · exact fin D12 S12 (row_good (q := true) (fun d hd => by rw [(List.mem_replicate.mp hd).2]; exact ⟨dict_good, rfl⟩) (by rw [List.length_replicate, ctV_len]; omega)) h
end
end Ag

end
/-! ## C0 -/
section
set_option linter.all false
set_option maxRecDepth 100000
namespace Ag
open PySem PySem.Spec PyProof.Rows L2
open SX (S S_len S_cat S_inj)
abbrev Sh := List Nat × Nat
def shD (e : Sh) : PyData := .tuple [.str (S e.1), .int ((e.2 : Nat) : Int)]
def plD (ps : List Sh) : List PyData := ps.map shD
/-- shares that are shares each by itself -/
def ShOk (ps : List Sh) : Prop := ∀ e ∈ ps, wordL e.1 = true ∧ 1 ≤ e.2 ∧ e.2 ≤ 100
theorem PlOk.sh {ps : List Sh} (o : PlOk ps) : ShOk ps := fun e he => ⟨o.wd e he, o.wt e he⟩
theorem word_asc {l : List Nat} (h : wordL l = true) : strOkB (S l) = true ∧ 1 ≤ l.length ∧ l.length ≤ 10 := by
  simp only [wordL, Bool.and_eq_true, decide_eq_true_eq] at h
  refine ⟨okS ?_ (by omega), h.1.1, h.1.2⟩
  unfold asc
  rw [List.all_eq_true]
  intro c hc
  have := List.all_eq_true.mp h.2 c hc
  simp only [azC, Bool.and_eq_true, decide_eq_true_eq] at this
  exact decide_eq_true (by omega)
theorem PlI.nil {H : Hp} : PlI H [] [] := ⟨rfl, fun j t e => by cases j <;> cases e⟩
theorem PlI.cons {H : Hp} {t : Addr} {ts : List Addr} {e : Sh} {ps : List Sh} (ht : H t = some (.tup [.str (S e.1), .int (e.2 : Nat)])) (h : PlI H ts ps) : PlI H (t :: ts) (e :: ps) := ⟨by rw [List.length_cons, List.length_cons, h.1], fun j t' et => by
  cases j with
  | zero => cases et; exact ⟨e, rfl, ht⟩
  | succ j => exact h.2 j t' et⟩
theorem PlI.tl {H : Hp} {t : Addr} {ts : List Addr} {e : Sh} {ps : List Sh} (h : PlI H (t :: ts) (e :: ps)) : H t = some (.tup [.str (S e.1), .int (e.2 : Nat)]) ∧ PlI H ts ps := by
  refine ⟨?_, ?_, fun j t' et => h.2 (j + 1) t' et⟩
  · obtain ⟨e', h1, h2⟩ := h.2 0 t rfl
    cases h1
    exact h2
  · have := h.1
    simpa using this
theorem PlI.app {H : Hp} : ∀ {ts : List Addr} {ps : List Sh} {us : List Addr} {qs : List Sh}, PlI H ts ps → PlI H us qs → PlI H (ts ++ us) (ps ++ qs)
  | [], [], _, _, _, k => k
  | t :: ts, e :: ps, us, qs, h, k => PlI.cons h.tl.1 (PlI.app h.tl.2 k)
  | [], _ :: _, _, _, h, _ => absurd h.1 (by simp)
  | _ :: _, [], _, _, h, _ => absurd h.1 (by simp)
theorem PlI.dg {p c : Addr} {H : Hp} (dk : Dk p c H) : ∀ {ts : List Addr} {ps : List Sh}, PlI H ts ps → DgA p c H (ts.map V.ref) (plD ps)
  | [], [], _ => .nil
  | t :: ts, e :: ps, h => .cons (.tup ⟨(dk.tup_ne h.tl.1).1, (dk.tup_ne h.tl.1).2, h.tl.1⟩ (.cons (.str _) (.cons (.int _) .nil))) (PlI.dg dk h.tl.2)
  | [], _ :: _, h => absurd h.1 (by simp)
  | _ :: _, [], h => absurd h.1 (by simp)
theorem Pool.dg {p c a : Addr} {ts : List Addr} {ps : List Sh} {H : Hp} (h : Pool a ts ps H) (dk : Dk p c H) : Dg p c H (.ref a) (.tuple (plD ps)) :=
  .tup ⟨(dk.tup_ne h.at_).1, (dk.tup_ne h.at_).2, h.at_⟩ (h.it.dg dk)
theorem sh_gd {q : Bool} {e : Sh} (h : wordL e.1 = true) (h2 : e.2 ≤ 100) : Gd q (shD e) 1 14 := by
  obtain ⟨a1, a2, a3⟩ := word_asc h
  exact .tup (n := 0) (b := 14) (.cons (b1 := 10) (b2 := 2) (.str a1 (by rw [szS]; exact a3)) (.cons (b1 := 0) (b2 := 0) (.int (by simp only [intOk, Bool.and_eq_true, decide_eq_true_eq]; omega)) .nil (by decide)) (by decide)) (by show 2 ≤ 60; decide)
theorem pl_gdA {q : Bool} : ∀ {ps : List Sh}, ShOk ps → GdA q (plD ps) 1 (ps.length * 15)
  | [], _ => .nil
  | e :: ps, h => .cons (b1 := 14) (b2 := ps.length * 15) (sh_gd (h e List.mem_cons_self).1 (h e List.mem_cons_self).2.2) (pl_gdA fun x hx => h x (List.mem_cons_of_mem _ hx)) (by rw [List.length_cons]; omega)
theorem pl_gd {q : Bool} {ps : List Sh} (h : ShOk ps) (hl : ps.length ≤ 20) : Gd q (.tuple (plD ps)) 2 300 :=
  (Gd.tup (pl_gdA h) (by unfold plD; rw [List.length_map]; omega)).mono (by decide) (by omega)
theorem cl_sh {e : Sh} (h : wordL e.1 = true) (h2 : e.2 ≤ 100) : clnB (shD e) = true := by
  simp only [shD, clnB, clnA, (word_asc h).1, Bool.and_true, Bool.true_and, List.length_cons, List.length_nil, Bool.and_eq_true, decide_eq_true_eq]
  omega
theorem cl_pl : ∀ {ps : List Sh}, ShOk ps → clnA (plD ps) = true
  | [], _ => by simp [plD, clnA]
  | e :: ps, h => by
    show clnA (shD e :: plD ps) = true
    simp only [clnA, cl_sh (h e List.mem_cons_self).1 (h e List.mem_cons_self).2.2, cl_pl fun x hx => h x (List.mem_cons_of_mem _ hx), Bool.and_true]
theorem share_sh {e : Sh} (h : wordL e.1 = true) (h1 : 1 ≤ e.2) (h2 : e.2 ≤ 100) : shareB (shD e) = true := by
  simp only [shD, shareB, wordB, wholeB, Bool.and_eq_true, decide_eq_true_eq]
  exact ⟨by exact h, by omega, by omega⟩
theorem pool_pl {ps : List Sh} (h : ShOk ps) : poolB (.tuple (plD ps)) = ((decide (1 ≤ ps.length) && decide (ps.length ≤ 8)) && decide ((ps.map Prod.fst).Nodup)) := by
  have h1 : (plD ps).all shareB = true := List.all_eq_true.mpr fun d hd => by
    obtain ⟨e, he, rfl⟩ := List.mem_map.mp hd
    exact share_sh (h e he).1 (h e he).2.1 (h e he).2.2
  have h2 : (plD ps).map labD = (ps.map Prod.fst).map S := by
    unfold plD
    rw [List.map_map, List.map_map]
    rfl
  show (((decide (1 ≤ (plD ps).length) && decide ((plD ps).length ≤ 8)) && (plD ps).all shareB) && decide (((plD ps).map labD).Nodup)) = _
  rw [h1, h2, Bool.and_true]
  have h3 : (plD ps).length = ps.length := by simp [plD]
  rw [h3]
  congr 1
  rw [Bool.eq_iff_iff, decide_eq_true_eq, decide_eq_true_eq]
  unfold List.Nodup
  rw [List.pairwise_map]
  exact ⟨fun z => z.imp fun n e => n (by rw [e]), fun z => z.imp fun n e => n (S_inj e)⟩
theorem nd_le {α : Type} [DecidableEq α] : ∀ {a b : List α}, a.Nodup → (∀ x ∈ a, x ∈ b) → a.length ≤ b.length
  | [], _, _, _ => Nat.zero_le _
  | x :: a, b, h, hs => by
    have hx := hs x List.mem_cons_self
    obtain ⟨n, h⟩ := List.nodup_cons.mp h
    have := nd_le (b := b.erase x) h fun y hy => (List.mem_erase_of_ne fun e => n (by rw [← e]; exact hy)).mpr (hs y (List.mem_cons_of_mem _ hy))
    rw [List.length_erase_of_mem hx] at this
    have := List.length_pos_of_mem hx
    rw [List.length_cons]
    omega
theorem two_parts {α : Type} (t : α → Bool) : ∀ l : List α, (l.filter t).length + (l.filter fun x => !t x).length = l.length
  | [] => rfl
  | x :: l => by
    have := two_parts t l
    rw [List.filter_cons, List.filter_cons]
    cases t x <;> simp <;> omega
/-- the ten new labels -/
def tenL : List (List Nat) := [[97, 98], [99, 100], [101, 102], [103, 104], [105, 106], [107, 108], [109, 110], [111, 112], [113, 114], [115, 116]]
theorem tenL_ok : ∀ l ∈ tenL, wordL l = true := by decide
theorem tenL_nd : tenL.Nodup := by decide
def newL (ps : List Sh) : List (List Nat) := tenL.filter fun l => !decide (l ∈ ps.map Prod.fst)
theorem newL_len (ps : List Sh) : 10 ≤ (newL ps).length + ps.length := by
  have h1 : (tenL.filter fun l => decide (l ∈ ps.map Prod.fst)).length ≤ ps.length := by
    have hn : (tenL.filter fun l => decide (l ∈ ps.map Prod.fst)).Nodup := tenL_nd.filter _
    have := nd_le (b := ps.map Prod.fst) hn fun l hl => of_decide_eq_true (List.mem_filter.mp hl).2
    simpa using this
  have h2 := two_parts (fun l => decide (l ∈ ps.map Prod.fst)) tenL
  have h3 : tenL.length = 10 := rfl
  unfold newL
  omega
/-- n of the new labels, with their places' numbers -/
def newS (ls : List (List Nat)) : List Sh := (List.range ls.length).map fun i => (ls.getD i [], 1 + i)
theorem newS_len (ls : List (List Nat)) : (newS ls).length = ls.length := by simp [newS]
theorem newS_fst (ls : List (List Nat)) : (newS ls).map Prod.fst = ls := by
  unfold newS
  rw [List.map_map]
  refine List.ext_getElem? fun i => ?_
  rw [List.getElem?_map]
  by_cases h : i < ls.length
  · rw [List.getElem?_range h]
    simp [h]
  · rw [List.getElem?_eq_none (by simpa using h), List.getElem?_eq_none (by omega)]
    rfl
theorem wide_ok {ps : List Sh} (o : PlOk ps) (m : Nat) : ShOk (ps ++ (newS (newL ps)).take m) := by
  intro e he
  rcases List.mem_append.mp he with h | h
  · exact o.sh e h
  · have h := List.mem_of_mem_take h
    obtain ⟨i, hi, rfl⟩ := List.mem_map.mp h
    have hi : i < (newL ps).length := by simpa using hi
    have hl : (newL ps).length ≤ 10 := List.length_filter_le _ _
    have hm : (newL ps).getD i [] ∈ newL ps := by
      rw [List.getD_eq_getElem?_getD, List.getElem?_eq_getElem hi]
      exact List.getElem_mem hi
    refine ⟨tenL_ok _ (List.mem_filter.mp hm).1, ?_, ?_⟩
    · show 1 ≤ 1 + i
      omega
    · show 1 + i ≤ 100
      omega
theorem wide_nd {ps : List Sh} (o : PlOk ps) (m : Nat) : ((ps ++ (newS (newL ps)).take m).map Prod.fst).Nodup := by
  rw [List.map_append, List.map_take, newS_fst]
  refine List.nodup_append.mpr ⟨o.nd, ((tenL_nd.filter _).sublist (List.take_sublist _ _)), fun a ha b hb e => ?_⟩
  subst e
  have := (List.mem_filter.mp (List.mem_of_mem_take hb)).2
  simp [decide_eq_true ha] at this
theorem sub_nd {ps qs : List Sh} (h : ((ps ++ qs).map Prod.fst).Nodup) (n : Nat) : (((ps ++ qs).take n).map Prod.fst).Nodup := by
  rw [List.map_take]
  exact h.sublist (List.take_sublist _ _)
/-- items of a filtered row, by their places -/
theorem filt_at {α : Type} (l : List α) (t : α → Bool) (d : α) : ((List.range l.length).filter fun i => t (l.getD i d)).map (fun i => l.getD i d) = l.filter t := by
  induction l with
  | nil => rfl
  | cons a l ih =>
    rw [List.length_cons, List.range_succ_eq_map, List.filter_cons, List.filter_map, List.filter_cons]
    have e : (fun i => t ((a :: l).getD i d)) ∘ Nat.succ = fun i => t (l.getD i d) := rfl
    rw [e]
    show List.map _ (if t a = true then 0 :: _ else _) = if t a = true then _ else _
    cases t a with
    | true =>
      rw [if_pos rfl, if_pos rfl, List.map_cons, List.map_map, ← ih]
      rfl
    | false =>
      rw [if_neg (by decide), if_neg (by decide), List.map_map, ← ih]
      rfl
theorem tenL_V : ([.str (Str.ofString "ab"), .str (Str.ofString "cd"), .str (Str.ofString "ef"), .str (Str.ofString "gh"), .str (Str.ofString "ij"), .str (Str.ofString "kl"), .str (Str.ofString "mn"), .str (Str.ofString "op"), .str (Str.ofString "qr"), .str (Str.ofString "st")] : List V) = tenL.map fun l => V.str (S l) := by decide +kernel
theorem in_words (l : List Nat) (ls : List (List Nat)) : inV (.str (S l)) (ls.map fun l => V.str (S l)) = decide (l ∈ ls) := by
  unfold inV
  rw [Bool.eq_iff_iff, List.any_eq_true, decide_eq_true_eq]
  constructor
  · rintro ⟨v, hv, e⟩
    obtain ⟨m, hm, rfl⟩ := List.mem_map.mp hv
    have e : S m = S l := by simpa [eqV] using e
    rw [← S_inj e]
    exact hm
  · exact fun h => ⟨_, List.mem_map_of_mem h, by simp [eqV]⟩
theorem flat_words (ls : List (List Nat)) : (ls.map fun l => V.str (S l)).all flatV = true := by
  rw [List.all_map, List.all_eq_true]
  exact fun _ _ => rfl
theorem labs_row {ps : List Sh} : (List.range ps.length).map (fun i => V.str (S ((ps.getD i ([], 0)).1))) = (ps.map Prod.fst).map fun l => V.str (S l) := by
  refine List.ext_getElem? fun i => ?_
  rw [List.getElem?_map, List.getElem?_map, List.getElem?_map]
  by_cases h : i < ps.length
  · rw [List.getElem?_range h]
    simp [h]
  · rw [List.getElem?_eq_none (by simpa using h), List.getElem?_eq_none (by omega)]
    rfl
/-- new pairs in a row -/
def newP (D : Addr) (L : List (List Nat)) (H : Hp) (j : Nat) (y : V) : Prop := ∃ T : Addr, y = V.ref T ∧ T ≠ D ∧ H T = some (.tup [.str (S (L.getD j [])), .int ((1 + j : Nat) : Int)])
theorem news_pl {H : Hp} {D : Addr} {L : List (List Nat)} {xs : List V} (hl : xs.length = L.length) (h : ∀ i y, xs[i]? = some y → newP D L H i y) : ∃ us : List Addr, xs = us.map V.ref ∧ PlI H us (newS L) := by
  let F : V → Addr := fun v => match v with | V.ref T => T | _ => 0
  have hF : ∀ i y, xs[i]? = some y → y = V.ref (F y) := fun i y e => by
    obtain ⟨T, rfl, _⟩ := h i y e
    rfl
  refine ⟨xs.map F, ?_, by rw [List.length_map, newS_len, hl], fun j t e => ?_⟩
  · rw [List.map_map]
    refine List.ext_getElem? fun i => ?_
    rw [List.getElem?_map]
    cases e : xs[i]? with
    | none => rfl
    | some y => exact congrArg some (hF i y e)
  · rw [List.getElem?_map] at e
    cases ex : xs[j]? with
    | none => rw [ex] at e; cases e
    | some y =>
      rw [ex] at e
      obtain ⟨T, rfl, _, hT⟩ := h j y ex
      cases e
      have hj : j < L.length := by
        rw [← hl]
        exact (List.getElem?_eq_some_iff.mp ex).1
      exact ⟨_, by unfold newS; rw [List.getElem?_map, List.getElem?_range hj]; rfl, hT⟩
theorem PlI.take {H : Hp} {us : List Addr} {qs : List Sh} (h : PlI H us qs) (m : Nat) : PlI H (us.take m) (qs.take m) := ⟨by rw [List.length_take, List.length_take, h.1], fun j t e => by
  rw [List.getElem?_take] at e
  split at e
  · rename_i hj
    obtain ⟨x, h1, h2⟩ := h.2 j t e
    exact ⟨x, by rw [List.getElem?_take, if_pos hj]; exact h1, h2⟩
  · cases e⟩
theorem words_row (ps : List Sh) : ((List.range (tenL.map fun l => V.str (S l)).length).filter fun i => !decide (tenL.getD i [] ∈ ps.map Prod.fst)).map (fun i => V.str (S (tenL.getD i []))) = (newL ps).map fun l => V.str (S l) := by
  rw [List.length_map]
  unfold newL
  rw [← filt_at tenL (fun l => !decide (l ∈ ps.map Prod.fst)) [], List.map_map]
  rfl
theorem wide_len {ps : List Sh} {m : Nat} (h1 : 9 ≤ m + ps.length) (h2 : m + ps.length ≤ 10) : (ps ++ (newS (newL ps)).take m).length = m + ps.length := by
  have := newL_len ps
  rw [List.length_append, List.length_take, newS_len]
  omega
theorem wide_no {ps : List Sh} (o : PlOk ps) {m : Nat} (h1 : 9 ≤ m + ps.length) (h2 : m + ps.length ≤ 10) : poolB (.tuple (plD (ps ++ (newS (newL ps)).take m))) = false := by
  rw [pool_pl (wide_ok o m), wide_len h1 h2, decide_eq_false (by omega : ¬ m + ps.length ≤ 8), Bool.and_false]
  rfl
theorem take_ok {ps : List Sh} (h : ShOk ps) (n : Nat) : ShOk (ps.take n) := fun e he => h e (List.mem_of_mem_take he)
theorem wide_yes {ps : List Sh} (o : PlOk ps) {m : Nat} (h1 : 9 ≤ m + ps.length) (h2 : m + ps.length ≤ 10) : poolB (.tuple (plD ((ps ++ (newS (newL ps)).take m).take 8))) = true := by
  rw [pool_pl (take_ok (wide_ok o m) 8), List.length_take, wide_len h1 h2, decide_eq_true (by omega : 1 ≤ min 8 (m + ps.length)), decide_eq_true (by omega : min 8 (m + ps.length) ≤ 8), decide_eq_true (sub_nd (wide_nd o m) 8)]
  rfl
theorem gd_bls {q : Bool} (a b : Bool) : Gd q (.tuple [.bool a, .bool b]) 1 4 := Gd.tup (n := 0) (b := 4) (.cons (b1 := 0) (b2 := 2) .bl (.cons (b1 := 0) (b2 := 0) .bl .nil (by decide)) (by decide)) (by show 2 ≤ 60; decide)
theorem pool_yes {ps : List Sh} (o : PlOk ps) : poolB (.tuple (plD ps)) = true := by
  rw [pool_pl o.sh, decide_eq_true o.n1, decide_eq_true o.n8, decide_eq_true o.nd]
  rfl
theorem cl_tup {ps : List Sh} (o : PlOk ps) : clnB (.tuple (plD ps)) = true := by
  have := o.n8
  simp only [clnB, cl_pl o.sh, Bool.and_true, decide_eq_true_eq]
  unfold plD
  rw [List.length_map]
  omega
theorem app_ok {ps qs : List Sh} (h : ShOk ps) (k : ShOk qs) : ShOk (ps ++ qs) := fun e he => (List.mem_append.mp he).elim (h e) (k e)
theorem rev_ok {ps : List Sh} (h : ShOk ps) : ShOk ps.reverse := fun e he => h e (List.mem_reverse.mp he)
theorem Pool.tat {p c a : Addr} {ts : List Addr} {ps : List Sh} {H : Hp} (h : Pool a ts ps H) (dk : Dk p c H) : At p c H a (.tup (ts.map V.ref)) := ⟨(dk.tup_ne h.at_).1, (dk.tup_ne h.at_).2, h.at_⟩
/-- what may be asked whether it is a pool -/
def Thing (p c : Addr) (H0 : Hp) (v : V) (H : Hp) : Prop := Gx p c H0 H ∧ ∃ d q n b, Dg p c H v d ∧ Gd q d n b
end Ag

end
/-! ## C1 -/
section
set_option linter.all false
set_option maxRecDepth 100000

namespace Ag
open PySem PySem.Spec PyProof.Rows L2
open SX (S S_len S_cat S_inj)
theorem hu66 {k : Nat} {A : Around} (hr : Room k A) : A.units + 66 < cLine := by have := hr.un; omega
theorem op_notIn_seqK {X : Cx} (K : PySem.W.Frag) (hK : X.K = K) : OpR X (compareOp .NotIn) (rIn K true) := by
  subst hK
  exact op_notIn_seq
/-- a value, by way of what is known of it -/
def tMid (t : TE) : TE := fun σ H Q => ∃ I : V → Hp → Prop, (∀ Q' : VK, (∀ v H', I v H' → Q' v H') → t σ H Q') ∧ ∀ v H', I v H' → Q v H'
theorem pe_ifMid {X : Cx} {c a b : Expr} {pos : Pos} {tA : TT} {ta tb : TE} (hc : PT X c tA) (ha : PE X a ta) (hb : PE X b tb) : PE X (.IfExp c a b pos) (tMid (tIf tA ta tb)) :=
  ⟨fun pins s σ H Q I hw => by
    obtain ⟨J, h1, h2⟩ := hw
    exact (pe_ifExp hc ha hb).run pins s σ H Q I (h1 Q h2)⟩
section
variable {P : Program} {w : World} {K : PySem.W.Frag} {mg : Str → Option Value} {base : Heap} {tw tp tg : Tok}
def spLaw (K : PySem.W.Frag) : Sp := fun vs H Q _ => ∃ (a : Addr) (ns : List Int), vs = [.ref a] ∧ SqL K H a (ns.map V.int) ∧ ns.length ≤ 63 ∧ ∀ H', Q (.bl true) H'
theorem seqE {te : TE} {g : TG} {u : TS} {D : Ends} {σ : L2.St} {H : Hp} (I : V → Hp → Prop) (h : ∀ Q' : VK, (∀ v H', I v H' → Q' v H') → te σ H Q') (k : ∀ v H', I v H' → g v σ H' fun σ2 H2 => u D σ2 H2) : tSeq (tAsg te g) u D σ H := h _ k
/-- whether a value may be counts of so many positions -/
def rightB (n : Nat) : PyData → Bool
  | .tuple xs => decide (xs.length = n) && xs.all (wholeB 0 (10 ^ Int.toNat 12))
  | _ => false
theorem sum_le_mul {B : Nat} : ∀ {l : List Nat}, (∀ k ∈ l, k ≤ B) → l.sum ≤ l.length * B
  | [], _ => by simp
  | x :: l, h => by
    have h1 := h x List.mem_cons_self
    have h2 := sum_le_mul fun y hy => h y (List.mem_cons_of_mem _ hy)
    rw [List.sum_cons, List.length_cons, Nat.add_mul, Nat.one_mul]
    omega
theorem nonneg_of : ∀ {ds : List PyData}, ds.all (wholeB 0 (10 ^ Int.toNat 12)) = true → ds.all nonnegB = true := fun {ds} h => by
  rw [List.all_eq_true] at h ⊢
  intro d hd
  have := h d hd
  cases d with
  | int i =>
    simp only [wholeB, Bool.and_eq_true, decide_eq_true_eq] at this
    exact decide_eq_true this.1
  | _ => simp [wholeB] at this
theorem ctD_inj {a b : List Nat} (h : ctD a = ctD b) : a = b := by
  have := eqv_ct a b
  rw [h, eqv_ct b b, decide_eq_true rfl] at this
  exact of_decide_eq_true this.symm
theorem mem_le_sum : ∀ {l : List Nat} {k : Nat}, k ∈ l → k ≤ l.sum
  | x :: l, k, h => by
    rw [List.sum_cons]
    rcases List.mem_cons.mp h with rfl | h
    · omega
    · have := mem_le_sum h
      omega
theorem small_row {q : Bool} : ∀ {ks : List Nat}, (∀ k ∈ ks, k ≤ 100000000000000) → ks.length ≤ 9 → GdA q (ctD ks) 0 400
  | ks, h, hl => by
    have all : ∀ l : List Nat, (∀ k ∈ l, k ≤ 100000000000000) → GdA q (ctD l) 0 (l.length * 2) := by
      intro l
      induction l with
      | nil => intro _; exact .nil
      | cons x l ih =>
        intro hx
        have h1 := hx x List.mem_cons_self
        exact GdA.cons (b1 := 0) (.int (by simp only [intOk, Bool.and_eq_true, decide_eq_true_eq]; exact ⟨by omega, Int.lt_of_le_of_lt (b := 100000000000000) (by omega) (by decide)⟩)) (ih fun y hy => hx y (List.mem_cons_of_mem _ hy)) (by rw [List.length_cons]; omega)
    exact (all ks h).mono (Nat.le_refl _) (by omega)
def LawI (a0 p c : Addr) (j : Nat) (σ : L2.St) (H : Hp) : Prop := ∃ (x2 x3 x4 x5 x6 x7 x8 x9 x10 x11 x12 x13 x14 x15 x16 x17 x18 x19 : Option V), σ = [some (.ref a0), some (.ref p), x2, x3, x4, x5, x6, x7, x8, x9, x10, x11, x12, x13, x14, x15, x16, x17, x18, x19] ∧ Dk p c H
set_option maxHeartbeats 4000000 in
theorem ok_law {f f1 f2 f3 f4 f5 f6 f7 f8 f9 fa fb fc fe : Addr} {fd fd1 fd2 fd3 fd4 fd5 fd6 fd7 fd8 fd9 fda fdb fdc fde : FuncData} (F : Fn K mg "law" s_law ["_law_script"] f fd) (B : Con mg tw tp tg)
    (F__law_dealt : Fn K mg "_law_dealt" s__law_dealt ["_law_script"] f1 fd1) (G__law_dealt : FnOk P w K mg base CX0 1 f1 fd1 ["_law_script"] (spDeck K))
    (F__law_draw : Fn K mg "_law_draw" s__law_draw ["_law_deck", "_law_many"] f2 fd2) (G__law_draw : FnOk P w K mg base CX0 1 f2 fd2 ["_law_deck", "_law_many"] spDraw)
    (F__law_pick : Fn K mg "_law_pick" s__law_pick ["_law_deck", "_law_some"] f3 fd3) (G__law_pick : FnOk P w K mg base CX0 2 f3 fd3 ["_law_deck", "_law_some"] spPick)
    (F__law_pool : Fn K mg "_law_pool" s__law_pool ["_law_deck"] f4 fd4) (G__law_pool : FnOk P w K mg base CX0 3 f4 fd4 ["_law_deck"] spMkPool)
    (F__law_at_time : Fn K mg "_law_at_time" s__law_at_time ["_law_pool_here", "_law_t"] f5 fd5) (G__law_at_time : FnOk P w K mg base CX0 1 f5 fd5 ["_law_pool_here", "_law_t"] spAtTime)
    (F_counts_after : Fn K mg "counts_after" s_counts_after ["pool", "t"] f6 fd6) (G_counts_after : FnOk P w K mg base CX0 5 f6 fd6 ["pool", "t"] spFrom)
    (F__law_tried : Fn K mg "_law_tried" s__law_tried ["_law_pool_here", "_law_counts"] f7 fd7) (G__law_tried : FnOk P w K mg base CX0 7 f7 fd7 ["_law_pool_here", "_law_counts"] spTried)
    (F_next_turn : Fn K mg "next_turn" s_next_turn ["pool", "counts"] f8 fd8) (G_next_turn : FnOk P w K mg base CX0 6 f8 fd8 ["pool", "counts"] spNext) (K_next_turn_counts_pool : KwB K fd8 ["pool", "counts"] ["counts", "pool"] List.reverse List.reverse)
    (F__law_near : Fn K mg "_law_near" s__law_near ["_law_deck", "_law_counts"] f9 fd9) (G__law_near : FnOk P w K mg base CX0 3 f9 fd9 ["_law_deck", "_law_counts"] spNear)
    (F__law_is_whole : Fn K mg "_law_is_whole" s__law_is_whole ["_law_thing", "_law_low", "_law_high"] fa fda) (G__law_is_whole : FnOk P w K mg base CX0 1 fa fda ["_law_thing", "_law_low", "_law_high"] spWhole)
    (F_is_pool : Fn K mg "is_pool" s_is_pool ["thing"] fb fdb) (G_is_pool : FnOk P w K mg base CX0 3 fb fdb ["thing"] spPoolG) (K_is_pool_thing : KwB K fdb ["thing"] ["thing"] (fun u => u) (fun u => u))
    (F__law_bent : Fn K mg "_law_bent" s__law_bent ["_law_deck", "_law_thing"] fc fdc) (G__law_bent : FnOk P w K mg base CX0 6 fc fdc ["_law_deck", "_law_thing"] (spBent 3))
    (F__law_odd : Fn K mg "_law_odd" s__law_odd ["_law_deck"] fe fde) (G__law_odd : FnOk P w K mg base CX0 3 fe fde ["_law_deck"] spOdd)
    {ff : Addr} {fdf : FuncData} (F__law_is_pool : Fn K mg "_law_is_pool" s__law_is_pool ["_law_thing"] ff fdf) (G__law_is_pool : FnOk P w K mg base CX0 2 ff fdf ["_law_thing"] spLPool) :
    FnG P w K mg base 8 f fd ["_law_script"] (spLaw K) := by
  refine okG F.F sc_law (fun vs H Q E h => ?_) (fun cdv A outer s0 H vs Q E hr hG h => ?_)
  · obtain ⟨a, ns, rfl, _⟩ := h
    rfl
  · obtain ⟨a0, sc, rfl, hsc, hn, q⟩ := h
    refine ⟨_, (pss_cons (ps_set (i := 1) sc_law.nd rfl (.inl rfl) (pe_call G__law_dealt (hr.mono (by decide)) (by rfl) F__law_dealt.g F__law_dealt.F.kp F__law_dealt.b .nil pass0 (pa_cons (pv 0) pa_nil)))
      (pss_cons (ps_for PassesOwn.never rfl (pi_range1 (by rfl) B.n_range (pa_cons pe_int pa_nil)) (pg_name (i := 2) sc_law.nd rfl (Or.inl rfl))
      (pss_cons (ps_set (i := 3) sc_law.nd rfl (.inr rfl) (pe_call G__law_pool (hr.mono (by decide)) (by rfl) F__law_pool.g F__law_pool.F.kp F__law_pool.b .nil pass0 (pa_cons (pv 1) pa_nil)))
        (pss_cons (ps_set (i := 4) sc_law.nd rfl (.inl rfl) (pe_callB (cr_sum rfl) (by rfl) B.n_sum (by decide +kernel) (pa_cons (pe_lc (own := [("_law_label", 17), ("_law_weight", 18)]) rfl sc_law.nd (pi_tup (pv 3)) (blkOk_by (N := N_law) (sc := defScope s_law) (by decide +kernel)) (fun _ _ _ _ _ => pg_two (i := 17) (j := 18) K rfl sc_law.nd rfl rfl rfl rfl rfl) (fun _ _ _ _ _ => pts_nil) (fun _ _ _ _ _ => (pv 18))) pa_nil)))
        (pss_cons (ps_set (i := 5) sc_law.nd rfl (.inl rfl) (pe_lst (pa_cons (pe_call G__law_draw (hr.mono (by decide)) (by rfl) F__law_draw.g F__law_draw.F.kp F__law_draw.b .nil pass0 (pa_cons (pv 1) (pa_cons (pe_op op_sub (pe_op op_pow pe_int pe_int) pe_int) pa_nil))) (pa_cons (pe_op op_add (pe_op op_mul (pv 4) (pe_call G__law_draw (hr.mono (by decide)) (by rfl) F__law_draw.g F__law_draw.F.kp F__law_draw.b .nil pass0 (pa_cons (pv 1) (pa_cons (pe_op op_pow pe_int pe_int) pa_nil)))) (pe_call G__law_pick (hr.mono (by decide)) (by rfl) F__law_pick.g F__law_pick.F.kp F__law_pick.b .nil pass0 (pa_cons (pv 1) (pa_cons (pe_lst (pa_cons pe_int (pa_cons pe_int (pa_cons (pe_op op_sub (pv 4) pe_int) pa_nil)))) pa_nil)))) (pa_cons (pe_call G__law_draw (hr.mono (by decide)) (by rfl) F__law_draw.g F__law_draw.F.kp F__law_draw.b .nil pass0 (pa_cons (pv 1) (pa_cons (pe_op op_mul pe_int (pv 4)) pa_nil))) pa_nil)))))
        (pss_cons (ps_for PassesOwn.never rfl (pi_list (pv 5)) (pg_name (i := 6) sc_law.nd rfl (Or.inl rfl))
        (pss_cons (ps_asg (pe_call G__law_at_time (hr.mono (by decide)) (by rfl) F__law_at_time.g F__law_at_time.F.kp F__law_at_time.b .nil pass0 (pa_cons (pv 3) (pa_cons (pv 6) pa_nil))) (pg_tup rfl (pgs_cons (pg_name (i := 7) sc_law.nd rfl (Or.inl rfl)) (pgs_cons (pg_name (i := 8) sc_law.nd rfl (Or.inl rfl)) pgs_nil))))
          (pss_cons (ps_if (pt_cmpR op_ne (pe_callB (call_repr_any (hu66 hr) hG) (by rfl) B.n_repr (by decide +kernel) (pa_cons (pe_tup (pa_cons (pe_call G_counts_after (hr.mono (by decide)) (by rfl) F_counts_after.g F_counts_after.F.kp F_counts_after.b .nil pass0 (pa_cons (pv 3) (pa_cons (pv 6) pa_nil))) (pa_cons (pe_call G__law_tried (hr.mono (by decide)) (by rfl) F__law_tried.g F__law_tried.F.kp F__law_tried.b .nil pass0 (pa_cons (pv 3) (pa_cons (pv 7) pa_nil))) (pa_cons (pe_callKwG (FnG.of G_next_turn) (hr.mono (by decide)) hG (by rfl) F_next_turn.g F_next_turn.F.kp K_next_turn_counts_pool (pk_cons (pv 7) (pk_cons (pv 3) pk_nil))) pa_nil)))) pa_nil)) (pe_callB (call_repr_any (hu66 hr) hG) (by rfl) B.n_repr (by decide +kernel) (pa_cons (pe_tup (pa_cons (pv 7) (pa_cons (pv 8) (pa_cons (pv 8) pa_nil)))) pa_nil)) (nomark _))
          (pss_one (ps_ret pe_bl))
          pss_nil)
          (pss_cons (ps_set (i := 9) sc_law.nd rfl (.inl rfl) (pe_call G__law_near (hr.mono (by decide)) (by rfl) F__law_near.g F__law_near.F.kp F__law_near.b .nil pass0 (pa_cons (pv 1) (pa_cons (pv 7) pa_nil))))
          (pss_cons (ps_set (i := 10) sc_law.nd rfl (.inl rfl) (pe_and (pe_callB call_isi (by rfl) B.n_isinstance (by decide +kernel) (pa_cons (pv 9) (pa_cons (pe_bltn (v := .ty "tuple") (by rfl) B.n_tuple (by decide +kernel) rfl) pa_nil))) (pe_and (pe_cmpR op_eq (pe_callB call_len_seq (by rfl) B.n_len PySem.boot_len (pa_cons (pv 9) pa_nil)) (pe_callB call_len_seq (by rfl) B.n_len PySem.boot_len (pa_cons (pv 3) pa_nil)) (nomark _)) (pe_one (pe_cmpR (op_eqD hr.units) (pe_lc (own := [("_law_k", 19)]) rfl sc_law.nd (pi_tup (pv 9)) (blkOk_by (N := N_law) (sc := defScope s_law) (by decide +kernel)) (fun _ _ _ _ _ => (pg_name (i := 19) sc_law.nd rfl (Or.inl rfl))) (fun _ _ _ _ _ => (pts_one (pt_not (pt_val (pe_call G__law_is_whole (hr.mono (by decide)) (by rfl) F__law_is_whole.g F__law_is_whole.F.kp F__law_is_whole.b .nil pass0 (pa_cons (pv 19) (pa_cons pe_int (pa_cons (pe_op op_pow pe_int pe_int) pa_nil)))))))) (fun _ _ _ _ _ => pe_int)) (pe_lst pa_nil) (nomark _))))))
          (pss_cons (ps_set (i := 11) sc_law.nd rfl (.inl rfl) (pe_ifMid (pt_val (pv 10)) (pe_call G__law_at_time (hr.mono (by decide)) (by rfl) F__law_at_time.g F__law_at_time.F.kp F__law_at_time.b .nil pass0 (pa_cons (pv 3) (pa_cons (pe_callB (cr_sumA rfl) (by rfl) B.n_sum (by decide +kernel) (pa_cons (pv 9) pa_nil)) pa_nil))) (pe_tup (pa_cons pe_non (pa_cons pe_non pa_nil)))))
          (pss_one (ps_if (pt_cmpR op_ne (pe_callB (call_repr_any (hu66 hr) hG) (by rfl) B.n_repr (by decide +kernel) (pa_cons (pe_call G__law_tried (hr.mono (by decide)) (by rfl) F__law_tried.g F__law_tried.F.kp F__law_tried.b .nil pass0 (pa_cons (pv 3) (pa_cons (pv 9) pa_nil))) pa_nil)) (pe_callB (call_repr_any (hu66 hr) hG) (by rfl) B.n_repr (by decide +kernel) (pa_cons (pe_ifMid (PW.pt (pw_and (pt_val (pv 10)) (pw_and1 (pt_cmpR op_eq (pe_callB (call_repr_any (hu66 hr) hG) (by rfl) B.n_repr (by decide +kernel) (pa_cons (pe_ix ix_tup (pv 11) pe_int (fun _ _ => rfl)) pa_nil)) (pe_callB (call_repr_any (hu66 hr) hG) (by rfl) B.n_repr (by decide +kernel) (pa_cons (pv 9) pa_nil)) (nomark _))))) (pe_ix ix_tup (pv 11) pe_int (fun _ _ => rfl)) (pe_tup (pa_cons pe_str (pa_cons (pv 9) pa_nil)))) pa_nil)) (nomark _))
          (pss_one (ps_ret pe_bl))
          pss_nil))))))))
        (pss_cons (ps_setLc (i := 12) (own := [("_law_word", 16)]) rfl sc_law.nd rfl rfl (sw_true rfl rfl rfl (by decide +kernel)) (pi_list (pe_lst (pa_cons pe_str (pa_cons pe_str (pa_cons pe_str (pa_cons pe_str (pa_cons pe_str (pa_cons pe_str (pa_cons pe_str (pa_cons pe_str (pa_cons pe_str (pa_cons pe_str pa_nil)))))))))))) (blkOk_by (N := N_law) (sc := defScope s_law) (by decide +kernel)) (fun _ _ _ _ _ => (pg_name (i := 16) sc_law.nd rfl (Or.inl rfl))) (fun _ _ _ _ _ => (pts_one (pt_cmpR (op_notIn_seqK K rfl) (pv 16) (pe_of_K K (fun K0 => tLc (iTup K0 (tVar 3)) (gTup K 2 (gCons (gName 17) (gCons (gName 18) gNil))) tYes (tVar 17) [17, 18]) rfl <| pe_lc (own := [("_law_label", 17), ("_law_weight", 18)]) rfl sc_law.nd (pi_tup (pv 3)) (blkOk_by (N := N_law) (sc := { kind := .function, names := [(".0", .local), ("_law_word", .local), ("_law_pool_here", .cell)], isGenerator := false, isCoroutine := false }) (by decide +kernel)) (fun _ _ _ _ _ => pg_two (i := 17) (j := 18) K rfl sc_law.nd rfl rfl rfl rfl rfl) (fun _ _ _ _ _ => pts_nil) (fun _ _ _ _ _ => (pv 17))) rfl))) (fun _ _ _ _ _ => (pv 16)))
        (pss_cons (ps_set (i := 13) sc_law.nd rfl (.inl rfl) (pe_op op_catA (pv 3) (pe_callTy call_tuple_of (by rfl) B.n_tuple (by decide +kernel) (pa_cons (pe_slice sl_list (pe_lc (own := [("_law_at", 8), ("_law_word", 16)]) rfl sc_law.nd (pi_enum (by rfl) B.n_enumerate (pa_cons (pv 12) pa_nil)) (blkOk_by (N := N_law) (sc := defScope s_law) (by decide +kernel)) (fun _ _ _ _ _ => pg_two (i := 8) (j := 16) K rfl sc_law.nd rfl rfl rfl rfl rfl) (fun _ _ _ _ _ => pts_nil) (fun _ _ _ _ _ => (pe_tup (pa_cons (pv 16) (pa_cons (pe_op op_add pe_int (pv 8)) pa_nil))))) po_none (po_some (pe_op op_sub (pe_op op_add pe_int (pe_callTy call_int1 (by rfl) B.n_int (by decide +kernel) (pa_cons (pe_cmpR op_eq (pv 2) pe_int (nomark _)) pa_nil))) (pe_callB call_len_seq (by rfl) B.n_len PySem.boot_len (pa_cons (pv 3) pa_nil))))) pa_nil))))
        (pss_cons (ps_if (pt_cmpR op_ne (pe_callB (call_repr_any (hu66 hr) hG) (by rfl) B.n_repr (by decide +kernel) (pa_cons (pe_tup (pa_cons (pe_call G_is_pool (hr.mono (by decide)) (by rfl) F_is_pool.g F_is_pool.F.kp F_is_pool.b .nil pass0 (pa_cons (pv 13) pa_nil)) (pa_cons (pe_callKwG (FnG.of G_is_pool) (hr.mono (by decide)) hG (by rfl) F_is_pool.g F_is_pool.F.kp K_is_pool_thing (pk_cons (pe_slice sl_tupA (pv 13) po_none (po_some pe_int)) pk_nil)) pa_nil))) pa_nil)) (pe_callB (call_repr_any (hu66 hr) hG) (by rfl) B.n_repr (by decide +kernel) (pa_cons (pe_tup (pa_cons pe_bl (pa_cons pe_bl pa_nil))) pa_nil)) (nomark _))
        (pss_one (ps_ret pe_bl))
        pss_nil)
        (pss_cons (ps_set (i := 14) sc_law.nd rfl (.inl rfl) (pe_ifMid (pt_cmpR op_gt (pe_call G__law_draw (hr.mono (by decide)) (by rfl) F__law_draw.g F__law_draw.F.kp F__law_draw.b .nil pass0 (pa_cons (pv 1) (pa_cons pe_int pa_nil))) pe_int (nomark _)) (pe_call G__law_bent (hr.mono (by decide)) (by rfl) F__law_bent.g F__law_bent.F.kp F__law_bent.b .nil pass0 (pa_cons (pv 1) (pa_cons (pv 3) pa_nil))) (pe_call G__law_pick (hr.mono (by decide)) (by rfl) F__law_pick.g F__law_pick.F.kp F__law_pick.b .nil pass0 (pa_cons (pv 1) (pa_cons (pe_lst (pa_cons (pe_call G__law_odd (hr.mono (by decide)) (by rfl) F__law_odd.g F__law_odd.F.kp F__law_odd.b .nil pass0 (pa_cons (pv 1) pa_nil)) (pa_cons (pe_op op_catA (pv 3) (pv 3)) (pa_cons (pe_revT (pv 3)) (pa_cons (pe_tup pa_nil) pa_nil))))) pa_nil)))))
        (pss_cons (ps_set (i := 15) sc_law.nd rfl (.inl rfl) (pe_ifMid (pt_cmpR op_eq (pv 2) pe_int (nomark _)) (pe_call G_is_pool (hr.mono (by decide)) (by rfl) F_is_pool.g F_is_pool.F.kp F_is_pool.b .nil pass0 (pa_cons (pv 14) pa_nil)) (pe_callKwG (FnG.of G_is_pool) (hr.mono (by decide)) hG (by rfl) F_is_pool.g F_is_pool.F.kp K_is_pool_thing (pk_cons (pv 14) pk_nil))))
        (pss_one (ps_if (pt_cmpR op_ne (pe_callB (call_repr_any (hu66 hr) hG) (by rfl) B.n_repr (by decide +kernel) (pa_cons (pe_tup (pa_cons (pv 15) (pa_cons (pe_call G_is_pool (hr.mono (by decide)) (by rfl) F_is_pool.g F_is_pool.F.kp F_is_pool.b .nil pass0 (pa_cons (pv 3) pa_nil)) pa_nil))) pa_nil)) (pe_callB (call_repr_any (hu66 hr) hG) (by rfl) B.n_repr (by decide +kernel) (pa_cons (pe_tup (pa_cons (pe_call G__law_is_pool (hr.mono (by decide)) (by rfl) F__law_is_pool.g F__law_is_pool.F.kp F__law_is_pool.b .nil pass0 (pa_cons (pv 14) pa_nil)) (pa_cons pe_bl pa_nil))) pa_nil)) (nomark _))
        (pss_one (ps_ret pe_bl))
        pss_nil))))))))))))
      (pss_one (ps_ret pe_bl)))), ?_⟩
    refine ⟨_, rfl, a0, sc, rfl, hsc, hn, fun p c H1 hp hc sm1 dk => ?_⟩
    refine ⟨3, rfl, by decide, by decide, for_range (lo := 0) (n := (3 : Int).toNat) (LawI a0 p c) ⟨_, _, _, _, _, _, _, _, _, _, _, _, _, _, _, _, _, _, rfl, dk⟩ ?_ ?_⟩
    · rintro go σ Ha hgo ⟨x2, x3, x4, x5, x6, x7, x8, x9, x10, x11, x12, x13, x14, x15, x16, x17, x18, x19, rfl, da⟩
      refine ⟨_, rfl, p, c, rfl, da, fun a ts ps H2 g2 pl => ?_⟩
      have n8 := pl.ok.n8
      have n1 := pl.ok.n1
      have ln := pl.it.1
      have W8 := tW_le pl.ok
      have W1 := tW_pos pl.ok
      have tl : (ts.map V.ref).length = ps.length := by rw [List.length_map, ln]
      refine ⟨_, rfl, a, rfl, ⟨_, SqT.of pl.at_⟩, fun WL hWL => ?_⟩
      refine lc_sel (walk_tup (K := K) (a := a) (xs := ts.map V.ref)) (fun _ => true) (fun i => .int ((wF ps i : Nat) : Int)) (by rw [List.length_map]; omega) hWL (fun H' s => SqT.of (s _ _ pl.at_)) ?_ ?_
      · rintro j y H3 H4 k k0 hi s1 ⟨rfl, hy⟩ hk _
        obtain ⟨t, e, rfl, _, he, ht⟩ := (pl.it.to s1).get hy
        have hk := hk rfl _ (Same.refl _)
        rw [wF_at he] at hk
        exact ⟨t, _, rfl, SqT.of ht, rfl, _, _, rfl, _, _, rfl, rfl, rfl, _, rfl, hk⟩
      · intro H3 s3 h3
        have e1 : (List.range (ts.map V.ref).length).map (fun i => V.int ((wF ps i : Nat) : Int)) = ctV (wts ps) := by
          unfold ctV wts
          rw [tl, List.map_map]
          rfl
        rw [filt_all, e1] at h3
        refine ⟨WL, (wts ps).map (fun k => ((k : Nat) : Int)), rfl, SqL.of (h3.trans (by rw [ctV_int])), ?_⟩
        rw [wts_sum]
        have d3 := g2.2.same s3
        have pl3 := pl.to s3
        clear h3 hWL pl
        refine ⟨_, rfl, _, _, rfl, rfl, ⟨by decide, by decide, by decide⟩, _, _, rfl, rfl, p, c, _, rfl, d3, by decide, by decide, fun r1 H4 hr1 g4 => ?_⟩
        have pl4 := pl3.gx d3 g4
        refine ⟨_, rfl, _, rfl, _, _, rfl, rfl, ⟨by decide, by decide, by decide⟩, p, c, _, rfl, g4.2, by decide, by decide, fun r2 H5 hr2 g5 => ⟨_, _, rfl, rfl, .inl ⟨by omega, by omega⟩, ?_⟩⟩
        have pl5 := pl4.gx g4.2 g5
        refine ⟨_, rfl, _, rfl, _, _, rfl, rfl, sz (by show 3 ≤ 16000000; decide), fun L hL => ⟨p, c, .ref L, rfl, g5.2.same (same_new hL), .inl ⟨L, _, rfl, At.new g5.2 hL, (by show 1 ≤ 3; decide), (by show 3 ≤ 100000; decide), fun z x H6 hx g6 => ?_⟩⟩⟩
        have pl6 := (pl5.to (same_new hL)).gx (g5.2.same (same_new hL)) g6
        obtain ⟨ad, had, rfl⟩ : ∃ ad : Nat, ad ≤ 800 ∧ x = .int (ad : Int) := by
          match z, hx with
          | 0, hx => exact ⟨0, by decide, (Option.some.inj hx).symm⟩
          | 1, hx => exact ⟨1, by decide, (Option.some.inj hx).symm⟩
          | 2, hx => exact ⟨tW ps - 1, by omega, by rw [← Option.some.inj hx, show ((tW ps - 1 : Nat) : Int) = (tW ps : Int) - 1 by omega]⟩
          | z + 3, hx => cases hx
        clear hx
        refine ⟨_, _, rfl, rfl, _, rfl, _, rfl, _, _, rfl, rfl, .inl ⟨by decide, by decide⟩, p, c, _, rfl, g6.2, by omega, by omega, fun r3 H7 hr3 g7 => ⟨sz (by show 3 ≤ 16000000; decide), fun TL hTL => ?_⟩⟩
        have pl7 := pl6.gx g6.2 g7
        obtain ⟨t1, t2, t3, e1, b1, b2, b3⟩ : ∃ t1 t2 t3 : Nat, ([.int (r1 : Int), .int ((tW ps : Int) * (r2 : Int) + (ad : Int)), .int (r3 : Int)] : List V) = ctV [t1, t2, t3] ∧ t1 ≤ 1000000000 ∧ t2 ≤ 1000000000 ∧ t3 ≤ 1000000000 := by
          have q9 : (10 : Int) ^ Int.toNat 9 = 1000000000 := by decide
          have q6 : (10 : Int) ^ Int.toNat 6 = 1000000 := by decide
          refine ⟨r1, tW ps * r2 + ad, r3, ?_, by omega, ?_, by omega⟩
          · show _ = [V.int ((r1 : Nat) : Int), V.int ((tW ps * r2 + ad : Nat) : Int), V.int ((r3 : Nat) : Int)]
            rw [Int.natCast_add, Int.natCast_mul]
          · have h2 : r2 ≤ 999999 := by omega
            have := Nat.mul_le_mul W8 h2
            omega
        refine ⟨_, rfl, TL, rfl, ⟨_, SqL.of upd_same⟩, ?_⟩
        have nTL := g7.2.ne hTL
        refine for_it (walk_list (K := K) (a := TL) (xs := ctV [t1, t2, t3])) (fun j σ H' => ∃ (x6 x7 x8 x9 x10 x11 y12 y13 y14 y15 y16 y17 y18 y19 : Option V), σ = [some (.ref a0), some (.ref p), some (.int (0 + (go : Int))), some (.ref a), some (.int (tW ps : Nat)), some (.ref TL), x6, x7, x8, x9, x10, x11, y12, y13, y14, y15, y16, y17, y18, y19] ∧ Dk p c H' ∧ Pool a ts ps H' ∧ H' TL = some (.lst (ctV [t1, t2, t3])))
          ⟨_, _, _, _, _, _, _, _, _, _, _, _, _, _, rfl, g7.2.same (same_new hTL), pl7.to (same_new hTL), upd_same.trans (congrArg (fun l => some (HO.lst l)) e1)⟩ (fun j σ H' _ z => ?_) ?_ ?_
        · obtain ⟨_, _, _, _, _, _, _, _, _, _, _, _, _, _, _, _, _, e⟩ := z
          exact SqL.of e
        · rintro j y σ H8 H9 hj ⟨x6, x7, x8, x9, x10, x11, y12, y13, y14, y15, y16, y17, y18, y19, rfl, d8, pl8, hT8⟩ ⟨rfl, hy⟩
          obtain ⟨t, ht9, rfl⟩ : ∃ t : Nat, t ≤ 1000000000 ∧ y = .int (t : Int) := by
            match j, hy with
            | 0, hy => exact ⟨t1, b1, (Option.some.inj hy).symm⟩
            | 1, hy => exact ⟨t2, b2, (Option.some.inj hy).symm⟩
            | 2, hy => exact ⟨t3, b3, (Option.some.inj hy).symm⟩
            | j + 3, hy => simp [ctV] at hy
          refine ⟨_, rfl, _, rfl, a, ts, ps, t, rfl, pl8, fun T Z ks i H10 s10 nT nZ hT hZ hl run pk => ⟨T, _, rfl, SqT.of hT, rfl, _, _, rfl, _, _, rfl, rfl, ?_⟩⟩
          have d10 := d8.same s10
          have pl10 := pl8.to s10
          have hTL10 := s10 _ _ hT8
          have hsum : ks.sum = t := by
            rw [← sum_kF, hl]
            exact (run.inv pl8.ok.n1 pl8.ok.w1).sum
          have kle : ∀ k ∈ ks, k ≤ 1000000000 := fun k hk => Nat.le_trans (mem_le_sum hk) (by omega)
          have hi8 := pk.lt
          have right : Right ps (.tuple (ctD ks)) := ⟨ks, rfl, hl, by rw [hsum]; exact run⟩
          have gK : ∀ qq, Gd qq (.tuple (ctD ks)) 1 400 := fun qq => (Gd.tup (n := 0) (b := 400) (small_row (fun k hk => Nat.le_trans (kle k hk) (by decide)) (by omega)) (by simp; omega)).mono (by decide) (by decide)
          have gI : ∀ qq, Gd qq (.int (i : Nat)) 1 0 := fun qq => .int (by simp only [intOk, Bool.and_eq_true, decide_eq_true_eq]; exact ⟨by omega, Int.lt_of_le_of_lt (b := 8) (by omega) (by decide)⟩)
          obtain ⟨z1, z2, z3, z4⟩ := (Gd.tup (q := true) (GdA.cons (b1 := 400) (b2 := 4) (b := 1000) (gK true) (GdA.cons (b1 := 0) (b2 := 2) (gI true) (GdA.cons (b1 := 0) (b2 := 0) (gI true) .nil (by decide)) (by decide)) (by decide)) (by show 3 ≤ 60; decide)).fit (by decide) (by decide)
          refine ⟨_, rfl, _, rfl, a, ts, ps, t, rfl, pl10, fun Z2 ks2 H11 s11 hZ2 hl2 run2 => ?_⟩
          have ek : ks2 = ks := kF_ext (hl2.trans hl.symm) (run2.uniq run)
          subst ek
          have d11 := d10.same s11
          have pl11 := pl10.to s11
          have hZ11 := s11 _ _ hZ
          have hTL11 := s11 _ _ hTL10
          clear d10 pl10 hTL10 hT
          refine ⟨_, rfl, _, rfl, p, c, a, ts, ps, .ref Z, .tuple (ctD ks2), rfl, pl11, .tup ⟨(d11.tup_ne hZ11).1, (d11.tup_ne hZ11).2, hZ11⟩ (dgct _), fun cs e hcl hrun i2 H12 s12 pk2 => ?_, fun hn => absurd right hn⟩
          have ecs : ks2 = cs := ctD_inj (by injection e)
          subst ecs
          rw [hsum] at pk2
          have ei := pk2.uniq _ _ pk
          subst ei
          have d12 := d11.same s12
          have pl12 := pl11.to s12
          have hZ12 := s12 _ _ hZ11
          have hY12 := s12 _ _ hZ2
          have hTL12 := s12 _ _ hTL11
          clear d11 pl11 hTL11 hZ11
          refine ⟨_, rfl, _, rfl, rfl, a, ts, ps, Z, ks2, rfl, pl12, hZ12, hl, (by rw [hsum]; exact run), fun i3 H13 s13 pk3 => ?_⟩
          rw [hsum] at pk3
          have ei := pk3.uniq _ _ pk
          subst ei
          have d13 := d12.same s13
          have pl13 := pl12.to s13
          have hZ13 := s13 _ _ hZ12
          have hY13 := s13 _ _ hY12
          have hTL13 := s13 _ _ hTL12
          clear d12 pl12 hTL12 hZ12 hY12
          refine ⟨sz (by show 3 ≤ 16000000; decide), fun T3 hT3 => ?_⟩
          have s14 := same_new (o := .tup [.ref Z2, .int i3, .int i3]) hT3
          have at3 := At.new (o := .tup [.ref Z2, .int i3, .int i3]) d13 hT3
          have d14 := d13.same s14
          have pl14 := pl13.to s14
          have hZ14 := s14 _ _ hZ13
          have hY14 := s14 _ _ hY13
          have hTL14 := s14 _ _ hTL13
          clear d13 pl13 hTL13 hZ13 hY13
          generalize upd H13 T3 (.tup [.ref Z2, .int i3, .int i3]) = H14 at s14 at3 d14 pl14 hZ14 hY14 hTL14 ⊢
          refine ⟨.ref T3, _, p, c, rfl, .tup at3 (.cons (.tup ⟨(d14.tup_ne hY14).1, (d14.tup_ne hY14).2, hY14⟩ (dgct _)) (.cons (.int _) (.cons (.int _) .nil))), z1, z2, z3, z4, ?_⟩
          refine ⟨_, rfl, _, rfl, _, rfl, sz (by show 3 ≤ 16000000; decide), fun T4 hT4 => ?_⟩
          have s15 := same_new (o := .tup [.ref Z, .int i3, .int i3]) hT4
          have at4 := At.new (o := .tup [.ref Z, .int i3, .int i3]) d14 hT4
          have d15 := d14.same s15
          have pl15 := pl14.to s15
          have hZ15 := s15 _ _ hZ14
          have hTL15 := s15 _ _ hTL14
          clear d14 pl14 hTL14 hZ14 hY14 at3
          generalize upd H14 T4 (.tup [.ref Z, .int i3, .int i3]) = H15 at s15 at4 d15 pl15 hZ15 hTL15 ⊢
          refine ⟨.ref T4, _, p, c, rfl, .tup at4 (.cons (.tup ⟨(d15.tup_ne hZ15).1, (d15.tup_ne hZ15).2, hZ15⟩ (dgct _)) (.cons (.int _) (.cons (.int _) .nil))), z1, z2, z3, z4, rfl, _, rfl, ?_⟩
          rw [decide_eq_true rfl]
          refine iteF ?_
          -- a value beside them
          refine ⟨_, rfl, _, rfl, p, c, Z, ks2, rfl, d15, hZ15, by omega, by omega, fun k hk => Nat.le_trans (kle k hk) (by decide), fun v d H16 g16 hd hG => ?_⟩
          have pl16 := pl15.gx d15 g16
          have hTL16 : H16 TL = some (.lst (ctV [t1, t2, t3])) := g16.1 _ _ nTL.1 nTL.2 hTL15
          have d16 := g16.2
          clear d15 pl15 hTL15 at4 hZ15
          dsimp only [gName]
          refine seqE (fun u H' => ∃ b, u = .bl b ∧ Same H16 H' ∧ b = rightB ps.length d) (fun Q' hQ' => ?_) ?_
          · refine ⟨v, rfl, v, .ty "tuple", _, _, _, rfl, .ty "tuple", hd.tyx, isi_T d, _, rfl, ?_⟩
            cases hd with
            | tup at_ da =>
              rename_i tn xs ds
              have hl5 := da.len
              obtain ⟨⟨qq, hgd⟩, _⟩ := hG
              obtain ⟨_, l60⟩ := hgd.untup
              refine iteT ⟨_, rfl, tn, _, rfl, .inr (SqT.of at_.2.2), _, rfl, a, _, rfl, .inr (SqT.of pl16.at_), rfl, _, rfl, ?_⟩
              by_cases hle : ds.length = ps.length
              · rw [decide_eq_true (by rw [hl5, tl, hle])]
                refine iteT ⟨_, rfl, tn, rfl, ⟨_, SqT.of at_.2.2⟩, fun D hD => ?_⟩
                refine lc_sel (walk_tup (K := K) (a := tn) (xs := xs)) (fun i => !wholeB 0 (10 ^ Int.toNat 12) (ds.getD i .none)) (fun _ => .int 1) (by omega) hD (fun H' s => SqT.of (s _ _ at_.2.2)) ?_ ?_
                · rintro m y Hx Hy kk k0 hm sx ⟨rfl, hy⟩ hk hk0
                  obtain ⟨dd, hdi, hdg⟩ := da.at_ hy
                  rw [List.getD_eq_getElem?_getD, hdi] at hk hk0
                  refine ⟨rfl, _, rfl, _, _, rfl, rfl, ⟨by decide, by decide, by decide⟩, p, c, y, dd, 0, _, rfl, hdg.to (.same sx), _, rfl, ?_⟩
                  cases hw : wholeB 0 (10 ^ Int.toNat 12) dd with
                  | false => exact iteT (hk (by show (!wholeB 0 (10 ^ Int.toNat 12) dd) = true; rw [hw]; rfl) _ (Same.refl _))
                  | true => exact iteF (hk0 (by show (!wholeB 0 (10 ^ Int.toNat 12) dd) = false; rw [hw]; rfl) _ (Same.refl _))
                · intro Hx sx hx
                  refine ⟨Nat.zero_le _, fun tz htz => ?_⟩
                  have nD := ne_of_none hx htz
                  rw [hl5] at hx
                  refine ⟨.list (((List.range ds.length).filter fun i => !wholeB 0 (10 ^ Int.toNat 12) (ds.getD i .none)).map fun _ => .int 1), .list [], .lst (SqL.of (by rw [upd_ne nD]; exact hx)) (dp_const _), .lst (SqL.of upd_same) .nil, shaped_const _, shaped_ints [], ?_⟩
                  rw [eqv_map_nil, none_at ds (wholeB 0 (10 ^ Int.toNat 12)) .none]
                  exact hQ' _ _ ⟨_, rfl, sx.trans (same_new htz), by simp [rightB, hle]⟩
              · rw [decide_eq_false (fun z => hle (by have := V.int.inj z; rw [hl5, tl] at this; omega))]
                exact iteF (hQ' _ _ ⟨false, rfl, Same.refl _, by simp [rightB, hle]⟩)
            | _ => exact iteF (hQ' _ _ ⟨false, rfl, Same.refl _, rfl⟩)
          · rintro u H17 ⟨rb, rfl, s17, hrb⟩
            have d17 := d16.same s17
            have pl17 := pl16.to s17
            have hd17 := hd.to (Kp.same s17)
            have hTL17 := s17 _ _ hTL16
            clear d16 pl16 hTL16 hd
            refine ⟨fun w' H' => Same H17 H' ∧ (rb = true → ∃ T' Y cs ks' i', w' = .ref T' ∧ d = .tuple (ctD cs) ∧ cs.length = ps.length ∧ H' T' = some (.tup [.ref Y, .int ((i' : Nat) : Int)]) ∧ H' Y = some (.tup (ctV ks')) ∧ ks'.length = ps.length ∧ Fair.Run ps.length (wF ps) (kF ks') cs.sum ∧ Fair.Pick ps.length (wF ps) (kF ks') (cs.sum + 1) i'), fun Q' hQ' => ?_, ?_⟩
            · refine ⟨_, rfl, _, rfl, ?_⟩
              cases rb with
              | false =>
                refine iteF ⟨sz (by show 2 ≤ 16000000; decide), fun T' hT' => hQ' _ _ ⟨same_new hT', fun z => (by cases z)⟩⟩
              | true =>
                cases hd17 with
                | tup at_ da =>
                  rename_i tn xs ds
                  have hr2 : (decide (ds.length = ps.length) && ds.all (wholeB 0 (10 ^ Int.toNat 12))) = true := hrb.symm
                  rw [Bool.and_eq_true, decide_eq_true_eq] at hr2
                  obtain ⟨cs, rfl, rfl⟩ := nats_of_D da (nonneg_of hr2.2)
                  refine iteT ⟨_, rfl, _, rfl, .inr ⟨tn, cs.map (fun k => ((k : Nat) : Int)), rfl, SqT.of (at_.2.2.trans (by rw [ctV_int])), ?_⟩⟩
                  rw [sum_int]
                  exact ⟨a, ts, ps, cs.sum, rfl, pl17, fun T' Y ks' i' H18 s18 nT' nY hT' hY hl' run' pk' => hQ' _ _ ⟨s18, fun _ => ⟨T', Y, cs, ks', i', rfl, rfl, by simpa using hr2.1, hT', hY, hl', run', pk'⟩⟩⟩
                | _ => cases hrb
            · rintro w' H18 ⟨s18, hdue⟩
              have d18 := d17.same s18
              have pl18 := pl17.to s18
              have hd18 := hd17.to (Kp.same s18)
              have hTL18 := s18 _ _ hTL17
              clear d17 pl17 hTL17 hd17
              obtain ⟨⟨qq, hgd⟩, hrow⟩ := hG
              obtain ⟨zd1, zd2, zd3, zd4⟩ := hgd.fit (by decide) (by decide)
              refine ⟨_, rfl, _, rfl, p, c, a, ts, ps, v, d, rfl, pl18, hd18, fun cs e hcl hrun i2 H19 s19 pk2 => ?_, fun hn T' H19 s19 nT' hT' => ?_⟩
              · subst e
                have hi2 := pk2.lt
                have d19 := d18.same s19
                have pl19 := pl18.to s19
                have hd19 := hd18.to (Kp.same s19)
                have hTL19 := s19 _ _ hTL18
                have gI2 : ∀ qq, Gd qq (.int (i2 : Nat)) 1 0 := fun qq => .int (by simp only [intOk, Bool.and_eq_true, decide_eq_true_eq]; exact ⟨by omega, Int.lt_of_le_of_lt (b := 8) (by omega) (by decide)⟩)
                obtain ⟨y1, y2, y3, y4⟩ := (gI2 true).fit (by decide) (by decide)
                have hrb1 : rb = true := by
                  rw [hrb]
                  show (decide ((ctD cs).length = ps.length) && (ctD cs).all (wholeB 0 (10 ^ Int.toNat 12))) = true
                  rw [Bool.and_eq_true, decide_eq_true_eq]
                  refine ⟨by simpa using hcl, List.all_eq_true.mpr fun x hx => ?_⟩
                  obtain ⟨k, hk, rfl⟩ := List.mem_map.mp hx
                  have hs := List.all_eq_true.mp (show (ctD cs).all smI = true from hrow) _ hx
                  have hs : ((k : Nat) : Int) ≤ 1000000000000 := of_decide_eq_true hs
                  simp only [wholeB, Bool.and_eq_true, decide_eq_true_eq]
                  exact ⟨by omega, Int.le_trans hs (by decide)⟩
                obtain ⟨T', Y, cs', ks', i', rfl, e2, hcl2, hT', hY, hkl, hkr, hkp⟩ := hdue hrb1
                have ec : cs = cs' := ctD_inj (by injection e2)
                subst ec
                have ek : ks' = cs := kF_ext (hkl.trans hcl.symm) (hkr.uniq hrun)
                subst ek
                have ei : i' = i2 := hkp.uniq _ _ pk2
                subst ei
                have hT19 := s19 _ _ hT'
                have hY19 := s19 _ _ hY
                refine ⟨.int i', .int i', p, c, rfl, .int _, y1, y2, y3, y4, ?_⟩
                refine ⟨fun w2 H' => w2 = .int i' ∧ H' = H19, fun Q' hQ' => ?_, ?_⟩
                · subst hrb1
                  refine ⟨_, rfl, _, rfl, iteT ?_⟩
                  refine ⟨_, rfl, T', _, _, _, rfl, rfl, SqT.of hT19, atI_nat (j := 0) rfl, .ref Y, .tuple (ctD ks'), p, c, rfl, .tup ⟨(d19.tup_ne hY19).1, (d19.tup_ne hY19).2, hY19⟩ (dgct _), zd1, zd2, zd3, zd4, ?_⟩
                  refine ⟨_, rfl, v, .tuple (ctD ks'), p, c, rfl, hd19, zd1, zd2, zd3, zd4, rfl, _, rfl, ?_⟩
                  rw [decide_eq_true rfl]
                  exact iteT ⟨_, rfl, T', _, _, _, rfl, rfl, SqT.of hT19, atI_nat (j := 1) rfl, hQ' _ _ ⟨rfl, rfl⟩⟩
                · rintro w2 H20 ⟨rfl, rfl⟩
                  refine ⟨.int i', .int i', p, c, rfl, .int _, y1, y2, y3, y4, rfl, _, rfl, ?_⟩
                  rw [decide_eq_true rfl]
                  exact iteF ⟨_, _, _, _, _, _, _, _, _, _, _, _, _, _, rfl, d19, pl19, hTL19⟩
              · have d19 := d18.same s19
                have pl19 := pl18.to s19
                have hd19 := hd18.to (Kp.same s19)
                have hTL19 := s19 _ _ hTL18
                have gB : Gd qq (.tuple [.str (Str.ofString "BadCounts"), d]) 4 1000 := (Gd.tup (n := 3) (b := 1000) (GdA.cons (b1 := 20) (b2 := 500) (.str (by decide +kernel) (by decide +kernel)) (GdA.cons (b1 := 400) (b2 := 0) hgd .nil (by decide)) (by decide)) (by show 2 ≤ 60; decide))
                obtain ⟨y1, y2, y3, y4⟩ := gB.fit (by decide) (by decide)
                refine ⟨.ref T', .tuple [.str (Str.ofString "BadCounts"), d], p, c, rfl, .tup ⟨(d19.tup_ne hT').1, (d19.tup_ne hT').2, hT'⟩ (.cons (.str _) (.cons hd19 .nil)), y1, y2, y3, y4, ?_⟩
                refine ⟨fun w2 H' => ∃ T2, w2 = .ref T2 ∧ Same H19 H' ∧ H' T2 = some (.tup [.str (Str.ofString "BadCounts"), v]), fun Q' hQ' => ?_, ?_⟩
                · cases hrb2 : rb with
                  | false => exact ⟨_, rfl, _, rfl, iteF ⟨_, rfl, sz (by show 2 ≤ 16000000; decide), fun T2 hT2 => hQ' _ _ ⟨T2, rfl, same_new hT2, upd_same⟩⟩⟩
                  | true =>
                    obtain ⟨T3', Y, cs', ks', i', rfl, rfl, hcl2, hT3', hY, hkl, hkr, hkp⟩ := hdue hrb2
                    have hT19 := s19 _ _ hT3'
                    have hY19 := s19 _ _ hY
                    have hr2 : (decide ((ctD cs').length = ps.length) && (ctD cs').all (wholeB 0 (10 ^ Int.toNat 12))) = true := by
                      show rightB ps.length (.tuple (ctD cs')) = true
                      rw [← hrb, hrb2]
                    rw [Bool.and_eq_true] at hr2
                    have hc12 : ∀ k ∈ cs', k ≤ 1000000000000 := fun k hk => by
                      have := List.all_eq_true.mp hr2.2 _ (List.mem_map_of_mem hk)
                      simp only [wholeB, Bool.and_eq_true, decide_eq_true_eq] at this
                      have q12 : (10 : Int) ^ Int.toNat 12 = 1000000000000 := by decide
                      omega
                    have hs1 := sum_le_mul hc12
                    have hs2 : ks'.sum = cs'.sum := by
                      rw [← sum_kF, hkl]
                      exact (hkr.inv pl19.ok.n1 pl19.ok.w1).sum
                    have hk14 : ∀ k ∈ ks', k ≤ 100000000000000 := fun k hk => by
                      have := mem_le_sum hk
                      omega
                    obtain ⟨x1, x2, x3, x4⟩ := (Gd.tup (q := true) (n := 0) (b := 400) (small_row hk14 (by omega)) (by simp; omega)).fit (by decide) (by decide)
                    refine ⟨_, rfl, _, rfl, iteT ?_⟩
                    refine ⟨_, rfl, T3', _, _, _, rfl, rfl, SqT.of hT19, atI_nat (j := 0) rfl, .ref Y, .tuple (ctD ks'), p, c, rfl, .tup ⟨(d19.tup_ne hY19).1, (d19.tup_ne hY19).2, hY19⟩ (dgct _), x1, x2, x3, x4, ?_⟩
                    refine ⟨_, rfl, v, .tuple (ctD cs'), p, c, rfl, hd19, zd1, zd2, zd3, zd4, rfl, _, rfl, ?_⟩
                    rw [decide_eq_false (fun z => hn ⟨cs', rfl, hcl2, by
                      have e := shown_inj (hkl.trans hcl2.symm) (V.str.inj z)
                      rw [← e, hs2]
                      exact hkr⟩)]
                    exact iteF ⟨_, rfl, sz (by show 2 ≤ 16000000; decide), fun T2 hT2 => hQ' _ _ ⟨T2, rfl, same_new hT2, upd_same⟩⟩
                · rintro w2 H20 ⟨T2, rfl, s20, hT2⟩
                  have d20 := d19.same s20
                  refine ⟨.ref T2, .tuple [.str (Str.ofString "BadCounts"), d], p, c, rfl, .tup ⟨(d20.tup_ne hT2).1, (d20.tup_ne hT2).2, hT2⟩ (.cons (.str _) (.cons (hd19.to (Kp.same s20)) .nil)), y1, y2, y3, y4, rfl, _, rfl, ?_⟩
                  rw [decide_eq_true rfl]
                  exact iteF ⟨_, _, _, _, _, _, _, _, _, _, _, _, _, _, rfl, d20, pl19.to s20, s20 _ _ hTL19⟩
        · rintro σ H8 ⟨x6, x7, x8, x9, x10, x11, y12, y13, y14, y15, y16, y17, y18, y19, rfl, d8, pl8, hT8⟩
          have n8 := pl8.ok.n8
          have n1 := pl8.ok.n1
          have hlL := newL_len ps
          refine ⟨sz (by show 10 ≤ 16000000; decide), fun W0 hW0 => ⟨_, rfl, ⟨_, SqL.of upd_same⟩, fun D1 hD1 => ?_⟩⟩
          have s9 := same_new (o := .lst [.str (Str.ofString "ab"), .str (Str.ofString "cd"), .str (Str.ofString "ef"), .str (Str.ofString "gh"), .str (Str.ofString "ij"), .str (Str.ofString "kl"), .str (Str.ofString "mn"), .str (Str.ofString "op"), .str (Str.ofString "qr"), .str (Str.ofString "st")]) hW0
          rw [tenL_V] at hD1 s9 ⊢
          have hW9 : upd H8 W0 (.lst (tenL.map fun l => V.str (S l))) W0 = some (.lst (tenL.map fun l => V.str (S l))) := upd_same
          have d9 := d8.same s9
          have pl9 := pl8.to s9
          generalize upd H8 W0 (.lst (tenL.map fun l => V.str (S l))) = H9 at hD1 s9 hW9 d9 pl9 ⊢
          refine lc_sel (walk_list (K := K) (a := W0) (xs := tenL.map fun l => V.str (S l))) (fun i => !decide (tenL.getD i [] ∈ ps.map Prod.fst)) (fun i => .str (S (tenL.getD i []))) (by decide) hD1 (fun H' s => SqL.of (s _ _ hW9)) ?_ ?_
          · rintro j y H10 H11 k k0 hj s10 ⟨rfl, hy⟩ hk hk0
            have hy' : y = .str (S (tenL.getD j [])) := by
              rw [List.getElem?_map] at hy
              rw [List.getD_eq_getElem?_getD]
              cases e : tenL[j]? with
              | none => rw [e] at hy; cases hy
              | some l => rw [e] at hy; exact (Option.some.inj hy).symm
            subst hy'
            refine ⟨rfl, _, rfl, _, rfl, a, rfl, ⟨_, SqT.of (s10 _ _ pl9.at_)⟩, fun D2 hD2 => ?_⟩
            refine lc_sel (walk_tup (K := K) (a := a) (xs := ts.map V.ref)) (fun _ => true) (fun i => .str (S ((ps.getD i ([], 0)).1))) (by rw [List.length_map]; have := pl9.it.1; omega) hD2 (fun H' s => SqT.of (s _ _ (s10 _ _ pl9.at_))) ?_ ?_
            · rintro j2 y2 H12 H13 k2 k20 hi2 s12 ⟨rfl, hy2⟩ hk2 _
              obtain ⟨t, e, rfl, _, he, ht⟩ := ((pl9.it.to s10).to s12).get hy2
              have hk2 := hk2 rfl _ (Same.refl _)
              rw [List.getD_eq_getElem?_getD, he] at hk2
              exact ⟨t, _, rfl, SqT.of ht, rfl, _, _, rfl, _, _, rfl, rfl, rfl, _, rfl, hk2⟩
            · intro H12 s12 h12
              rw [filt_all, List.length_map, pl9.it.1, labs_row] at h12
              refine ⟨D2, _, rfl, .inl (SqL.of h12), rfl, flat_words _, ?_⟩
              refine ⟨_, rfl, ?_⟩
              show if (!inV (.str (S (tenL.getD j []))) ((ps.map Prod.fst).map fun l => V.str (S l))) = true then _ else _
              rw [in_words]
              cases hm : decide (tenL.getD j [] ∈ ps.map Prod.fst) with
              | true => exact iteF (hk0 (by show (!decide (tenL.getD j [] ∈ ps.map Prod.fst)) = false; rw [hm]; rfl) _ s12)
              | false => exact iteT ⟨_, rfl, hk (by show (!decide (tenL.getD j [] ∈ ps.map Prod.fst)) = true; rw [hm]; rfl) _ s12⟩
          · intro H10 s10 h10
            rw [words_row] at h10
            have d10 := d9.same s10
            have pl10 := pl9.to s10
            clear d8 pl8 hT8 hW0 hD1 s9 hW9 d9 pl9 s10
            -- the wide one
            refine ⟨_, rfl, _, rfl, D1, (newL ps).map fun l => V.str (S l), rfl, SqL.of h10, fun D2 hD2 => ?_⟩
            have nD := ne_of_none h10 hD2
            refine lc_allH (walk_enum (K := K) (a := D1) (xs := (newL ps).map fun l => V.str (S l))) (fun H' => Same H10 H') (newP D2 (newL ps)) (by rw [List.length_map]; have : (newL ps).length ≤ 10 := List.length_filter_le _ _; omega) (Same.refl _) (fun H' o s b u e => by rw [upd_ne (ne_of_none e hD2)]; exact s b u e)
              (fun H' o j y z => by obtain ⟨T, e1, e2, e3⟩ := z; exact ⟨T, e1, e2, by rw [upd_ne e2]; exact e3⟩) (fun H' s => SqL.of (s _ _ h10)) ?_ ?_
            · rintro j y H11 H12 acc k hj s11 hacc ⟨T, x, z, rfl, hT, rfl, hx, hz⟩ hk
              have hx : V.int (j : Nat) = x := Option.some.inj hx
              subst hx
              have hz' : z = .str (S ((newL ps).getD j [])) := by
                have hz : ((newL ps).map fun l => V.str (S l))[j]? = some z := hz
                rw [List.getElem?_map] at hz
                rw [List.getD_eq_getElem?_getD]
                cases e : (newL ps)[j]? with
                | none => rw [e] at hz; cases hz
                | some l => rw [e] at hz; exact (Option.some.inj hz).symm
              subst hz'
              refine ⟨T, _, rfl, SqT.of upd_same, rfl, _, _, rfl, _, _, rfl, rfl, rfl, _, rfl, _, rfl, _, _, rfl, rfl, sz (by show 2 ≤ 16000000; decide), fun T2 hT2 => ?_⟩
              have nT2 : T2 ≠ D2 := fun e => by
                rw [e, upd_ne (ne_of_none hacc hT)] at hT2
                rw [hT2] at hacc
                cases hacc
              have sT : Same H11 (upd (upd H11 T (.tup [.int (j : Nat), .str (S ((newL ps).getD j []))])) T2 (.tup [.str (S ((newL ps).getD j [])), .int (1 + (j : Nat))])) := (same_new hT).trans (same_new hT2)
              refine hk _ _ (fun i z hz => ?_) ⟨T2, rfl, nT2, by rw [upd_same]; rfl⟩ (s11.trans sT) (sT _ _ hacc)
              obtain ⟨T', e1, e2, e3⟩ := hz
              exact ⟨T', e1, e2, sT _ _ e3⟩
            · intro H11 xs hxl hxs s11 h11
              obtain ⟨us, rfl, hus⟩ := news_pl (by rw [hxl, List.length_map]) hxs
              refine ⟨_, rfl, rfl, .inr ⟨_, rfl, _, _, rfl, rfl, _, rfl, a, _, rfl, .inr (SqT.of (s11 _ _ pl10.at_)), _, _, rfl, rfl, _, rfl, D2, _, rfl, SqL.of h11, fun C hC => ?_⟩⟩
              obtain ⟨m, hm2, hm1, em⟩ : ∃ m : Nat, m + ps.length ≤ 10 ∧ 9 ≤ m + ps.length ∧ ((9 : Int) + (if decide (V.int (0 + (go : Int)) = V.int 1) = true then 1 else 0) - (((ts.map V.ref).length : Nat) : Int)) = (m : Int) := by
                rw [List.length_map, pl10.it.1]
                split
                · exact ⟨10 - ps.length, by omega, by omega, by omega⟩
                · exact ⟨9 - ps.length, by omega, by omega, by omega⟩
              have s12 := same_new (o := .lst (cutV (us.map V.ref) none (some ((9 : Int) + (if decide (V.int (0 + (go : Int)) = V.int 1) = true then 1 else 0) - (((ts.map V.ref).length : Nat) : Int))))) hC
              have hC12 : upd H11 C (.lst (cutV (us.map V.ref) none (some ((9 : Int) + (if decide (V.int (0 + (go : Int)) = V.int 1) = true then 1 else 0) - (((ts.map V.ref).length : Nat) : Int))))) C = some (.lst ((us.map V.ref).take m)) := by
                rw [upd_same, em, cutV_to]
              have d12 := (d10.same s11).same s12
              have pl12 := (pl10.to s11).to s12
              have hu12 : PlI (upd H11 C (.lst (cutV (us.map V.ref) none (some ((9 : Int) + (if decide (V.int (0 + (go : Int)) = V.int 1) = true then 1 else 0) - (((ts.map V.ref).length : Nat) : Int)))))) us (newS (newL ps)) := hus.to s12
              generalize upd H11 C (.lst (cutV (us.map V.ref) none (some ((9 : Int) + (if decide (V.int (0 + (go : Int)) = V.int 1) = true then 1 else 0) - (((ts.map V.ref).length : Nat) : Int))))) = H12 at hC12 d12 pl12 hu12 ⊢
              clear d10 pl10 h10 hD2 s11 h11 hxl hxs hus hC s12
              refine ⟨C, _, rfl, .inl ⟨SqL.of hC12, fun U hU => ?_⟩⟩
              have sU := same_new (o := .tup ((us.map V.ref).take m)) hU
              have dU := d12.same sU
              refine cat_any dU ((pl12.to sU).tat dU) (At.new d12 hU) (by rw [List.length_map, List.length_take, List.length_map]; have := pl12.it.1; omega) fun a' H13 s13 ha' => ?_
              have s13 := sU.trans s13
              have d13 := d12.same s13
              have pl13 := pl12.to s13
              have dgW : Dg p c H13 (.ref a') (.tuple (plD (ps ++ (newS (newL ps)).take m))) := .tup ha' (by
                rw [← List.map_take, ← List.map_append]
                exact ((pl12.it.to s13).app ((hu12.to s13).take m)).dg d13)
              clear d12 pl12 hu12 s13 hU hC12 sU dU
              refine ⟨_, rfl, p, c, .ref a', _, true, 2, 300, rfl, dgW, pl_gd (wide_ok pl13.ok m) (by rw [wide_len hm1 hm2]; omega), fun H14 s14 => ?_⟩
              rw [wide_no pl13.ok hm1 hm2]
              have d14 := d13.same s14
              have pl14 := pl13.to s14
              refine ⟨_, rfl, _, rfl, sl_any d14 (ha'.kp (Kp.same s14)) fun a2 H15 s15 ha2 => ⟨rfl, p, c, .ref a2, .tuple (plD ((ps ++ (newS (newL ps)).take m).take 8)), true, 2, 300, rfl, .tup ha2 ?_, pl_gd (take_ok (wide_ok pl13.ok m) 8) (by rw [List.length_take, wide_len hm1 hm2]; omega), fun H16 s16 => ?_⟩⟩
              · have dg2 := dgW.to (Kp.same (s14.trans s15))
                obtain ⟨xs, hxs, dxs⟩ := dg2.tupE
                have e := ((ha'.kp (Kp.same (s14.trans s15))).2.2).symm.trans hxs.2.2
                injection e with e
                injection e with e
                subst e
                have := dxs.take 8
                rw [show plD ((ps ++ (newS (newL ps)).take m).take 8) = (plD (ps ++ (newS (newL ps)).take m)).take 8 from List.map_take]
                rw [show cutV ((ts.map V.ref) ++ (us.map V.ref).take m) none (some (8 : Int)) = ((ts.map V.ref) ++ (us.map V.ref).take m).take 8 from cutV_to _ 8]
                exact this
              rw [wide_yes pl13.ok hm1 hm2]
              have d16 := (d14.same s15).same s16
              have pl16 := (pl14.to s15).to s16
              obtain ⟨z1, z2, z3, z4⟩ := (gd_bls (q := true) false true).fit (by decide) (by decide)
              refine ⟨sz (by show 2 ≤ 16000000; decide), fun T hT => ⟨.ref T, .tuple [.bool false, .bool true], p, c, rfl, .tup (At.new d16 hT) (.cons (.bl _) (.cons (.bl _) .nil)), z1, z2, z3, z4, ?_⟩⟩
              have d17 := d16.same (same_new (o := .tup [.bl false, .bl true]) hT)
              have pl17 := pl16.to (same_new (o := .tup [.bl false, .bl true]) hT)
              generalize upd H16 T (.tup [.bl false, .bl true]) = H17 at d17 pl17 ⊢
              refine ⟨sz (by show 2 ≤ 16000000; decide), fun T hT => ⟨.ref T, .tuple [.bool false, .bool true], p, c, rfl, .tup (At.new d17 hT) (.cons (.bl _) (.cons (.bl _) .nil)), z1, z2, z3, z4, rfl, _, rfl, ?_⟩⟩
              rw [decide_eq_true rfl]
              refine iteF ?_
              have d18 := d17.same (same_new (o := .tup [.bl false, .bl true]) hT)
              have pl18 := pl17.to (same_new (o := .tup [.bl false, .bl true]) hT)
              generalize upd H17 T (.tup [.bl false, .bl true]) = H18 at d18 pl18 ⊢
              clear d13 pl13 d14 pl14 d16 pl16 d17 pl17 dgW ha'
              refine ⟨Thing p c H18, fun Q' hQ' => ?_, ?_⟩
              · refine ⟨_, rfl, p, c, _, rfl, d18, by decide, by decide, fun r4 H19 hr4 g19 => ⟨_, _, rfl, rfl, _, rfl, ?_⟩⟩
                have d19 := g19.2
                have pl19 := pl18.gx d18 g19
                cases decide ((0 : Int) < (r4 : Int)) with
                | true =>
                  refine iteT ⟨_, rfl, _, rfl, p, c, .ref a, .tuple (plD ps), rfl, d19, pl19.dg d19, cl_tup pl19.ok, ?_, ?_, fun v d H20 g20 hd hG => ?_⟩
                  · exact (pl_gd (q := true) pl19.ok.sh (by omega)).dp
                  · exact Nat.le_trans (pl_gd (q := true) pl19.ok.sh (by omega)).dp (by decide)
                  · obtain ⟨qq, hG⟩ := hG
                    exact hQ' _ _ ⟨g19.trans g20, d, qq, _, _, hd, hG⟩
                | false =>
                  refine iteF ⟨_, rfl, _, rfl, p, c, rfl, d19, fun v1 e1 H20 g20 hd1 hG1 => ?_⟩
                  have d20 := g20.2
                  have pl20 := pl19.gx d19 g20
                  refine ⟨_, rfl, _, rfl, cat_any d20 (pl20.tat d20) (pl20.tat d20) (by rw [List.length_map]; have := pl20.it.1; omega) fun a2 H21 s21 ha2 => ?_⟩
                  have d21 := d20.same s21
                  have pl21 := pl20.to s21
                  have hd21 := hd1.to (Kp.same s21)
                  have dg2 : Dg p c H21 (.ref a2) (.tuple (plD (ps ++ ps))) := .tup ha2 (by
                    rw [← List.map_append]
                    exact (pl21.it.app pl21.it).dg d21)
                  refine ⟨_, rfl, a, _, rfl, SqT.of pl21.at_, fun R hR => ?_⟩
                  have sR := same_new (o := .tup (ts.map V.ref).reverse) hR
                  have dg3 : Dg p c (upd H21 R (.tup (ts.map V.ref).reverse)) (.ref R) (.tuple (plD ps.reverse)) := .tup (At.new d21 hR) (by
                    have := ((pl21.to sR).it.dg (d21.same sR)).rev
                    unfold plD at this ⊢
                    rw [List.map_reverse]
                    exact this)
                  have d22 := d21.same sR
                  have hd22 := hd21.to (Kp.same sR)
                  have dg22 := dg2.to (Kp.same sR)
                  generalize upd H21 R (.tup (ts.map V.ref).reverse) = H22 at sR dg3 d22 hd22 dg22 ⊢
                  refine ⟨Nat.zero_le _, fun R2 hR2 => ⟨sz (by show 4 ≤ 16000000; decide), fun L hL => ?_⟩⟩
                  have sR2 := same_new (o := .tup []) hR2
                  have d23 := d22.same sR2
                  have dg4 : Dg p c (upd H22 R2 (.tup [])) (.ref R2) (.tuple []) := .tup (At.new d22 hR2) .nil
                  have g23 : Gx p c H18 (upd H22 R2 (.tup [])) := g19.trans (g20.trans ⟨Kp.same ((s21.trans sR).trans sR2), d23⟩)
                  refine ⟨p, c, .ref L, rfl, d23.same (same_new hL), .inl ⟨L, _, rfl, At.new d23 hL, (by show 1 ≤ 4; decide), (by show 4 ≤ 100000; decide), fun z x H24 hx g24 => ?_⟩⟩
                  have gN := Gx.new (o := .lst [v1, .ref a2, .ref R, .ref R2]) d23 hL
                  have gA := (g23.trans gN).trans g24
                  have kA : Kp p c (upd H22 R2 (.tup [])) H24 := (gN.trans g24).1
                  match z, hx with
                  | 0, hx =>
                    obtain ⟨qq, hG1⟩ := hG1
                    rw [← Option.some.inj hx]
                    exact hQ' _ _ ⟨gA, e1, qq, _, _, (hd22.to (Kp.same sR2)).to kA, hG1⟩
                  | 1, hx =>
                    rw [← Option.some.inj hx]
                    exact hQ' _ _ ⟨gA, _, true, _, _, (dg22.to (Kp.same sR2)).to kA, pl_gd (app_ok pl19.ok.sh pl19.ok.sh) (by rw [List.length_append]; omega)⟩
                  | 2, hx =>
                    rw [← Option.some.inj hx]
                    exact hQ' _ _ ⟨gA, _, true, _, _, (dg3.to (Kp.same sR2)).to kA, pl_gd (rev_ok pl19.ok.sh) (by rw [List.length_reverse]; omega)⟩
                  | 3, hx =>
                    rw [← Option.some.inj hx]
                    exact hQ' _ _ ⟨gA, _, true, 1, 0, dg4.to kA, Gd.tup .nil (by decide)⟩
                  | z + 4, hx => cases hx
              · rintro v H19 ⟨g19, d, qq, nn, bb, hd, hg⟩
                have d19 := g19.2
                have pl19 := pl18.gx d18 g19
                refine ⟨fun w H' => w = .bl (poolB d) ∧ Same H19 H', fun Q' hQ' => ?_, ?_⟩
                · refine ⟨_, rfl, rfl, _, rfl, ?_⟩
                  cases decide (V.int (0 + (go : Int)) = V.int 1) with
                  | true => exact iteT ⟨_, rfl, p, c, v, d, qq, nn, bb, rfl, hd, hg, fun H' s => hQ' _ _ ⟨rfl, s⟩⟩
                  | false => exact iteF ⟨_, rfl, rfl, p, c, v, d, qq, nn, bb, rfl, hd, hg, fun H' s => hQ' _ _ ⟨rfl, s⟩⟩
                · rintro w H20 ⟨rfl, s20⟩
                  have d20 := d19.same s20
                  have pl20 := pl19.to s20
                  refine ⟨_, rfl, _, rfl, p, c, .ref a, _, true, 2, 300, rfl, pl20.dg d20, pl_gd pl20.ok.sh (by omega), fun H21 s21 => ?_⟩
                  rw [pool_yes pl20.ok]
                  have d21 := d20.same s21
                  have pl21 := pl20.to s21
                  obtain ⟨z1, z2, z3, z4⟩ := (gd_bls (q := true) (poolB d) true).fit (by decide) (by decide)
                  refine ⟨sz (by show 2 ≤ 16000000; decide), fun T hT => ⟨.ref T, .tuple [.bool (poolB d), .bool true], p, c, rfl, .tup (At.new d21 hT) (.cons (.bl _) (.cons (.bl _) .nil)), z1, z2, z3, z4, ?_⟩⟩
                  have sT := same_new (o := .tup [.bl (poolB d), .bl true]) hT
                  have d22 := d21.same sT
                  have pl22 := pl21.to sT
                  have hd22 := hd.to (Kp.same ((s20.trans s21).trans sT))
                  generalize upd H21 T (.tup [.bl (poolB d), .bl true]) = H22 at d22 pl22 hd22 ⊢
                  refine ⟨_, rfl, p, c, v, d, qq, nn, bb, rfl, hd22, hg, fun H23 s23 => ?_⟩
                  have d23 := d22.same s23
                  have pl23 := pl22.to s23
                  refine ⟨sz (by show 2 ≤ 16000000; decide), fun T hT => ⟨.ref T, .tuple [.bool (poolB d), .bool true], p, c, rfl, .tup (At.new d23 hT) (.cons (.bl _) (.cons (.bl _) .nil)), z1, z2, z3, z4, rfl, _, rfl, ?_⟩⟩
                  rw [decide_eq_true rfl]
                  exact iteF ⟨_, _, _, _, _, _, _, _, _, _, _, _, _, _, _, _, _, _, rfl, d23.same (same_new hT)⟩
    · rintro σ Ha ⟨x2, x3, x4, x5, x6, x7, x8, x9, x10, x11, x12, x13, x14, x15, x16, x17, x18, x19, rfl, da⟩
      exact q _
end
end Ag

end
/-! ## E -/
section
set_option linter.all false
set_option maxRecDepth 100000
namespace Ag
open PySem PySem.Spec PyProof.Rows L2
theorem vals_app : ∀ {a : List V} {b : List Value} {c : List V} {d : List Value}, Vals a b → Vals c d → Vals (a ++ c) (b ++ d)
  | [], [], _, _, _, h => h
  | _ :: _, _ :: _, _, _, .cons h t, k => .cons h (vals_app t k)
theorem vals_rev : ∀ {a : List V} {b : List Value}, Vals a b → Vals a.reverse b.reverse
  | [], [], _ => .nil
  | _ :: _, _ :: _, .cons h t => by
    rw [List.reverse_cons, List.reverse_cons]
    exact vals_app (vals_rev t) (.cons h .nil)
theorem exm_self {K : PySem.W.Frag} {C : Addr} {cd : ClassData} (h1 : PySem.W.subIn K (.ref C) (.type "BaseException") = some true) (h2 : PySem.W.clsIn K C = some cd) (h3 : PySem.W.typeIn K (.ref C) = some (.type "type")) (h4 : PySem.W.subIn K (.ref C) (.ref C) = some true) :
    PySem.W.exmOne K (.ref C) (.ref C) = some true := by
  simp [PySem.W.exmOne, PySem.W.kitCls, h1, h2, h3, h4]
set_option maxHeartbeats 4000000 in
theorem all_mk {l : PySem.W.OpenLaw} {w : World} {K : PySem.W.Frag} {h : Heap} {mg : Str → Option Value} {fa f0 f1 f2 f3 f4 f5 f6 f7 f8 f9 f10 f11 f12 f13 f14 f15 f16 f17 f18 f19 f20 f21 f22 f23 f24 : Addr} (X : K.In h) (G : h.Ns mainGlobals mg) (hfa : mg "law" = some (.ref fa))
    {od0 an0 od1 an1 od2 an2 od3 an3 od4 an4 od5 an5 od6 an6 od7 an7 od8 an8 od9 an9 od10 an10 od11 an11 od12 an12 od13 an13 od14 an14 od15 an15 od16 an16 od17 an17 od18 an18 od19 an19 od20 an20 od21 an21 od22 an22 od23 an23 od24 an24 : Option Addr} {sl0 sl1 sl2 sl3 sl4 sl5 sl6 sl7 sl8 sl9 sl10 sl11 sl12 sl13 sl14 sl15 sl16 sl17 sl18 sl19 sl20 sl21 sl22 sl23 sl24 : Array (Option Value)} {oc0 kV0 dc0 pm0 ct0 cd0 oc1 kV1 dc1 pm1 ct1 cd1 oc2 kV2 dc2 pm2 ct2 cd2 oc3 kV3 dc3 pm3 ct3 cd3 oc4 kV4 dc4 pm4 ct4 cd4 oc5 kV5 dc5 pm5 ct5 cd5 oc6 kV6 dc6 pm6 ct6 cd6 oc7 kV7 dc7 pm7 ct7 cd7 oc8 kV8 dc8 pm8 ct8 cd8 oc9 kV9 dc9 pm9 ct9 cd9 oc10 kV10 dc10 pm10 ct10 cd10 oc11 kV11 dc11 pm11 ct11 cd11 oc12 kV12 dc12 pm12 ct12 cd12 oc13 kV13 dc13 pm13 ct13 cd13 oc14 kV14 dc14 pm14 ct14 cd14 oc15 kV15 dc15 pm15 ct15 cd15 oc16 kV16 dc16 pm16 ct16 cd16 oc17 kV17 dc17 pm17 ct17 cd17 oc18 kV18 dc18 pm18 ct18 cd18 oc19 kV19 dc19 pm19 ct19 cd19 oc20 kV20 dc20 pm20 ct20 cd20 oc21 kV21 dc21 pm21 ct21 cd21 oc22 kV22 dc22 pm22 ct22 cd22 oc23 kV23 dc23 pm23 ct23 cd23 oc24 kV24 dc24 pm24 ct24 cd24 : Value} {tk0 tk1 tk2 : Tok}
    (a0 : PySem.W.nsIn K mainGlobals "is_integer" = some (some (.ref f0))) (l0 : K.lookup f0 = some ⟨oc0, od0, .func (PySem.W.fnOf "is_integer" "is_integer" (defArgs s_is_integer) (defBody s_is_integer) (defScope s_is_integer) .none kV0 dc0 pm0 an0 cd0 ct0), sl0⟩) (c0 : PySem.W.codeIn K cd0 "is_integer" = true) (k0 : PySem.W.keepIn K (.ref f0) = true)
    (a1 : PySem.W.nsIn K mainGlobals "is_word" = some (some (.ref f1))) (l1 : K.lookup f1 = some ⟨oc1, od1, .func (PySem.W.fnOf "is_word" "is_word" (defArgs s_is_word) (defBody s_is_word) (defScope s_is_word) .none kV1 dc1 pm1 an1 cd1 ct1), sl1⟩) (c1 : PySem.W.codeIn K cd1 "is_word" = true) (k1 : PySem.W.keepIn K (.ref f1) = true)
    (a2 : PySem.W.nsIn K mainGlobals "is_pool" = some (some (.ref f2))) (l2 : K.lookup f2 = some ⟨oc2, od2, .func (PySem.W.fnOf "is_pool" "is_pool" (defArgs s_is_pool) (defBody s_is_pool) (defScope s_is_pool) .none kV2 dc2 pm2 an2 cd2 ct2), sl2⟩) (c2 : PySem.W.codeIn K cd2 "is_pool" = true) (k2 : PySem.W.keepIn K (.ref f2) = true)
    (a3 : PySem.W.nsIn K mainGlobals "is_share" = some (some (.ref f3))) (l3 : K.lookup f3 = some ⟨oc3, od3, .func (PySem.W.fnOf "is_share" "is_share" (defArgs s_is_share) (defBody s_is_share) (defScope s_is_share) .none kV3 dc3 pm3 an3 cd3 ct3), sl3⟩) (c3 : PySem.W.codeIn K cd3 "is_share" = true) (k3 : PySem.W.keepIn K (.ref f3) = true)
    (a4 : PySem.W.nsIn K mainGlobals "are_loads" = some (some (.ref f4))) (l4 : K.lookup f4 = some ⟨oc4, od4, .func (PySem.W.fnOf "are_loads" "are_loads" (defArgs s_are_loads) (defBody s_are_loads) (defScope s_are_loads) .none kV4 dc4 pm4 an4 cd4 ct4), sl4⟩) (c4 : PySem.W.codeIn K cd4 "are_loads" = true) (k4 : PySem.W.keepIn K (.ref f4) = true)
    (a5 : PySem.W.nsIn K mainGlobals "are_counts" = some (some (.ref f5))) (l5 : K.lookup f5 = some ⟨oc5, od5, .func (PySem.W.fnOf "are_counts" "are_counts" (defArgs s_are_counts) (defBody s_are_counts) (defScope s_are_counts) .none kV5 dc5 pm5 an5 cd5 ct5), sl5⟩) (c5 : PySem.W.codeIn K cd5 "are_counts" = true) (k5 : PySem.W.keepIn K (.ref f5) = true)
    (a6 : PySem.W.nsIn K mainGlobals "weight_sum" = some (some (.ref f6))) (l6 : K.lookup f6 = some ⟨oc6, od6, .func (PySem.W.fnOf "weight_sum" "weight_sum" (defArgs s_weight_sum) (defBody s_weight_sum) (defScope s_weight_sum) .none kV6 dc6 pm6 an6 cd6 ct6), sl6⟩) (c6 : PySem.W.codeIn K cd6 "weight_sum" = true) (k6 : PySem.W.keepIn K (.ref f6) = true)
    (a7 : PySem.W.nsIn K mainGlobals "turn_after" = some (some (.ref f7))) (l7 : K.lookup f7 = some ⟨oc7, od7, .func (PySem.W.fnOf "turn_after" "turn_after" (defArgs s_turn_after) (defBody s_turn_after) (defScope s_turn_after) .none kV7 dc7 pm7 an7 cd7 ct7), sl7⟩) (c7 : PySem.W.codeIn K cd7 "turn_after" = true) (k7 : PySem.W.keepIn K (.ref f7) = true)
    (a8 : PySem.W.nsIn K mainGlobals "first_turns" = some (some (.ref f8))) (l8 : K.lookup f8 = some ⟨oc8, od8, .func (PySem.W.fnOf "first_turns" "first_turns" (defArgs s_first_turns) (defBody s_first_turns) (defScope s_first_turns) .none kV8 dc8 pm8 an8 cd8 ct8), sl8⟩) (c8 : PySem.W.codeIn K cd8 "first_turns" = true) (k8 : PySem.W.keepIn K (.ref f8) = true)
    (a9 : PySem.W.nsIn K mainGlobals "counts_from_start" = some (some (.ref f9))) (l9 : K.lookup f9 = some ⟨oc9, od9, .func (PySem.W.fnOf "counts_from_start" "counts_from_start" (defArgs s_counts_from_start) (defBody s_counts_from_start) (defScope s_counts_from_start) .none kV9 dc9 pm9 an9 cd9 ct9), sl9⟩) (c9 : PySem.W.codeIn K cd9 "counts_from_start" = true) (k9 : PySem.W.keepIn K (.ref f9) = true)
    (a10 : PySem.W.nsIn K mainGlobals "next_turn" = some (some (.ref f10))) (l10 : K.lookup f10 = some ⟨oc10, od10, .func (PySem.W.fnOf "next_turn" "next_turn" (defArgs s_next_turn) (defBody s_next_turn) (defScope s_next_turn) .none kV10 dc10 pm10 an10 cd10 ct10), sl10⟩) (c10 : PySem.W.codeIn K cd10 "next_turn" = true) (k10 : PySem.W.keepIn K (.ref f10) = true)
    (a11 : PySem.W.nsIn K mainGlobals "counts_after" = some (some (.ref f11))) (l11 : K.lookup f11 = some ⟨oc11, od11, .func (PySem.W.fnOf "counts_after" "counts_after" (defArgs s_counts_after) (defBody s_counts_after) (defScope s_counts_after) .none kV11 dc11 pm11 an11 cd11 ct11), sl11⟩) (c11 : PySem.W.codeIn K cd11 "counts_after" = true) (k11 : PySem.W.keepIn K (.ref f11) = true)
    (a12 : PySem.W.nsIn K mainGlobals "_law_dealt" = some (some (.ref f12))) (l12 : K.lookup f12 = some ⟨oc12, od12, .func (PySem.W.fnOf "_law_dealt" "_law_dealt" (defArgs s__law_dealt) (defBody s__law_dealt) (defScope s__law_dealt) .none kV12 dc12 pm12 an12 cd12 ct12), sl12⟩) (c12 : PySem.W.codeIn K cd12 "_law_dealt" = true) (k12 : PySem.W.keepIn K (.ref f12) = true)
    (a13 : PySem.W.nsIn K mainGlobals "_law_draw" = some (some (.ref f13))) (l13 : K.lookup f13 = some ⟨oc13, od13, .func (PySem.W.fnOf "_law_draw" "_law_draw" (defArgs s__law_draw) (defBody s__law_draw) (defScope s__law_draw) .none kV13 dc13 pm13 an13 cd13 ct13), sl13⟩) (c13 : PySem.W.codeIn K cd13 "_law_draw" = true) (k13 : PySem.W.keepIn K (.ref f13) = true)
    (a14 : PySem.W.nsIn K mainGlobals "_law_pick" = some (some (.ref f14))) (l14 : K.lookup f14 = some ⟨oc14, od14, .func (PySem.W.fnOf "_law_pick" "_law_pick" (defArgs s__law_pick) (defBody s__law_pick) (defScope s__law_pick) .none kV14 dc14 pm14 an14 cd14 ct14), sl14⟩) (c14 : PySem.W.codeIn K cd14 "_law_pick" = true) (k14 : PySem.W.keepIn K (.ref f14) = true)
    (a15 : PySem.W.nsIn K mainGlobals "_law_is_whole" = some (some (.ref f15))) (l15 : K.lookup f15 = some ⟨oc15, od15, .func (PySem.W.fnOf "_law_is_whole" "_law_is_whole" (defArgs s__law_is_whole) (defBody s__law_is_whole) (defScope s__law_is_whole) .none kV15 dc15 pm15 an15 cd15 ct15), sl15⟩) (c15 : PySem.W.codeIn K cd15 "_law_is_whole" = true) (k15 : PySem.W.keepIn K (.ref f15) = true)
    (a16 : PySem.W.nsIn K mainGlobals "_law_is_word" = some (some (.ref f16))) (l16 : K.lookup f16 = some ⟨oc16, od16, .func (PySem.W.fnOf "_law_is_word" "_law_is_word" (defArgs s__law_is_word) (defBody s__law_is_word) (defScope s__law_is_word) .none kV16 dc16 pm16 an16 cd16 ct16), sl16⟩) (c16 : PySem.W.codeIn K cd16 "_law_is_word" = true) (k16 : PySem.W.keepIn K (.ref f16) = true)
    (a17 : PySem.W.nsIn K mainGlobals "_law_odd" = some (some (.ref f17))) (l17 : K.lookup f17 = some ⟨oc17, od17, .func (PySem.W.fnOf "_law_odd" "_law_odd" (defArgs s__law_odd) (defBody s__law_odd) (defScope s__law_odd) .none kV17 dc17 pm17 an17 cd17 ct17), sl17⟩) (c17 : PySem.W.codeIn K cd17 "_law_odd" = true) (k17 : PySem.W.keepIn K (.ref f17) = true)
    (a18 : PySem.W.nsIn K mainGlobals "_law_bent" = some (some (.ref f18))) (l18 : K.lookup f18 = some ⟨oc18, od18, .func (PySem.W.fnOf "_law_bent" "_law_bent" (defArgs s__law_bent) (defBody s__law_bent) (defScope s__law_bent) .none kV18 dc18 pm18 an18 cd18 ct18), sl18⟩) (c18 : PySem.W.codeIn K cd18 "_law_bent" = true) (k18 : PySem.W.keepIn K (.ref f18) = true)
    (a19 : PySem.W.nsIn K mainGlobals "_law_pool" = some (some (.ref f19))) (l19 : K.lookup f19 = some ⟨oc19, od19, .func (PySem.W.fnOf "_law_pool" "_law_pool" (defArgs s__law_pool) (defBody s__law_pool) (defScope s__law_pool) .none kV19 dc19 pm19 an19 cd19 ct19), sl19⟩) (c19 : PySem.W.codeIn K cd19 "_law_pool" = true) (k19 : PySem.W.keepIn K (.ref f19) = true)
    (a20 : PySem.W.nsIn K mainGlobals "_law_is_pool" = some (some (.ref f20))) (l20 : K.lookup f20 = some ⟨oc20, od20, .func (PySem.W.fnOf "_law_is_pool" "_law_is_pool" (defArgs s__law_is_pool) (defBody s__law_is_pool) (defScope s__law_is_pool) .none kV20 dc20 pm20 an20 cd20 ct20), sl20⟩) (c20 : PySem.W.codeIn K cd20 "_law_is_pool" = true) (k20 : PySem.W.keepIn K (.ref f20) = true)
    (a21 : PySem.W.nsIn K mainGlobals "_law_at_time" = some (some (.ref f21))) (l21 : K.lookup f21 = some ⟨oc21, od21, .func (PySem.W.fnOf "_law_at_time" "_law_at_time" (defArgs s__law_at_time) (defBody s__law_at_time) (defScope s__law_at_time) .none kV21 dc21 pm21 an21 cd21 ct21), sl21⟩) (c21 : PySem.W.codeIn K cd21 "_law_at_time" = true) (k21 : PySem.W.keepIn K (.ref f21) = true)
    (a22 : PySem.W.nsIn K mainGlobals "_law_tried" = some (some (.ref f22))) (l22 : K.lookup f22 = some ⟨oc22, od22, .func (PySem.W.fnOf "_law_tried" "_law_tried" (defArgs s__law_tried) (defBody s__law_tried) (defScope s__law_tried) .none kV22 dc22 pm22 an22 cd22 ct22), sl22⟩) (c22 : PySem.W.codeIn K cd22 "_law_tried" = true) (k22 : PySem.W.keepIn K (.ref f22) = true)
    (a23 : PySem.W.nsIn K mainGlobals "_law_near" = some (some (.ref f23))) (l23 : K.lookup f23 = some ⟨oc23, od23, .func (PySem.W.fnOf "_law_near" "_law_near" (defArgs s__law_near) (defBody s__law_near) (defScope s__law_near) .none kV23 dc23 pm23 an23 cd23 ct23), sl23⟩) (c23 : PySem.W.codeIn K cd23 "_law_near" = true) (k23 : PySem.W.keepIn K (.ref f23) = true)
    (a24 : PySem.W.nsIn K mainGlobals "law" = some (some (.ref f24))) (l24 : K.lookup f24 = some ⟨oc24, od24, .func (PySem.W.fnOf "law" "law" (defArgs s_law) (defBody s_law) (defScope s_law) .none kV24 dc24 pm24 an24 cd24 ct24), sl24⟩) (c24 : PySem.W.codeIn K cd24 "law" = true) (k24 : PySem.W.keepIn K (.ref f24) = true)
    (z0 : PySem.W.nsIn K mainGlobals "len" = some none)
    (z1 : PySem.W.nsIn K mainGlobals "int" = some none)
    (z2 : PySem.W.nsIn K mainGlobals "str" = some none)
    (z3 : PySem.W.nsIn K mainGlobals "isinstance" = some none)
    (z4 : PySem.W.nsIn K mainGlobals "range" = some none)
    (z5 : PySem.W.nsIn K mainGlobals "tuple" = some none)
    (z6 : PySem.W.nsIn K mainGlobals "list" = some none)
    (z7 : PySem.W.nsIn K mainGlobals "max" = some none)
    (z8 : PySem.W.nsIn K mainGlobals "min" = some none)
    (z9 : PySem.W.nsIn K mainGlobals "repr" = some none)
    (z10 : PySem.W.nsIn K mainGlobals "bool" = some none)
    (z11 : PySem.W.nsIn K mainGlobals "all" = some none)
    (z12 : PySem.W.nsIn K mainGlobals "set" = some none)
    (z13 : PySem.W.nsIn K mainGlobals "sum" = some none)
    (z14 : PySem.W.nsIn K mainGlobals "enumerate" = some none)
    (z15 : PySem.W.nsIn K mainGlobals "zip" = some none)
    (z16 : PySem.W.nsIn K mainGlobals "divmod" = some none)
    (x0 : PySem.W.nsIn K mainGlobals "WORD_MOST" = some (some (.int 10 tk0)))
    (x1 : PySem.W.nsIn K mainGlobals "POOL_MOST" = some (some (.int 8 tk1)))
    (x2 : PySem.W.nsIn K mainGlobals "WEIGHT_MOST" = some (some (.int 100 tk2)))
    {C0 fI0 : Addr} {nm0 qn0 : Str} {Nn0 : Addr} {bs0 bm0 : List Value} {sn0 : List Str} {su0 : List Value} {ab0 : Bool} {co0 : Option Bool} {dd0 : Option Addr} {qa0 qb0 qc0 qd0 qe0 : Option Value} {cC0 : ClassData} {oI0 kI0 dI0 pI0 cI0 tI0 : Value} {odI0 anI0 : Option Addr} {slI0 : Array (Option Value)}
    (e0_0 : PySem.W.nsIn K mainGlobals "BadCounts" = some (some (.ref C0))) (e0_1 : K.lookup C0 = some (excClassObj nm0 qn0 C0 Nn0 bs0 bm0 true sn0 su0 ab0 co0 dd0 qa0 qb0 qc0 qd0 qe0 "Exception.__new__")) (e0_2 : PySem.W.excTail exT bm0 = true) (e0_3 : PySem.W.findIn K (.ref C0) "__setattr__" = some (some (.builtin "object.__setattr__")))
    (e0_4 : PySem.W.subIn K (.ref C0) (.type "BaseException") = some true) (e0_5 : PySem.W.typeIn K (.ref C0) = some (.type "type")) (e0_6 : PySem.W.keepIn K (.ref C0) = true) (e0_7 : PySem.W.findIn K (.ref C0) "__getattribute__" = some (some (.builtin "BaseException.__getattribute__"))) (e0_8 : PySem.W.findIn K (.ref C0) "__getattr__" = some none)
    (e0_9 : PySem.W.hasDictIn K C0 = true) (e0_10 : PySem.W.findIn K (.ref C0) "thing" = some none) (e0_11 : PySem.W.findIn K (.ref C0) "__init__" = some (some (.ref fI0))) (e0_12 : PySem.W.typeIn K (.ref fI0) = some (.type "function")) (e0_13 : PySem.W.clsIn K C0 = some cC0) (e0_14 : PySem.W.subIn K (.ref C0) (.ref C0) = some true)
    (e0_15 : K.lookup fI0 = some ⟨oI0, odI0, .func (PySem.W.fnOf "__init__" "BadCounts.__init__" (defArgs s_BC) (defBody s_BC) (defScope s_BC) .none kI0 dI0 pI0 anI0 cI0 tI0), slI0⟩) (e0_16 : PySem.W.codeIn K cI0 "BadCounts.__init__" = true) (e0_17 : PySem.W.keepIn K (.ref fI0) = true)
    :
    ∃ fd : FuncData, (∀ (s : Shared) (v : Value), BindsTo s fd ⟨[v], []⟩ [("_law_script", v)]) ∧ ∀ base : Heap, K.In base → base.Ns mainGlobals mg → FnG l.prog w K mg base 8 fa fd ["_law_script"] (spLaw K) := by
  have e := hfa.symm.trans (PySem.W.mg_of X G a24)
  cases e
  have B : Blt mg := ⟨PySem.W.mg_none_of X G z0, PySem.W.mg_none_of X G z1, PySem.W.mg_none_of X G z2, PySem.W.mg_none_of X G z3, PySem.W.mg_none_of X G z4, PySem.W.mg_none_of X G z5, PySem.W.mg_none_of X G z6, PySem.W.mg_none_of X G z7, PySem.W.mg_none_of X G z8, PySem.W.mg_none_of X G z9, PySem.W.mg_none_of X G z10, PySem.W.mg_none_of X G z11, PySem.W.mg_none_of X G z12, PySem.W.mg_none_of X G z13, PySem.W.mg_none_of X G z14, PySem.W.mg_none_of X G z15, PySem.W.mg_none_of X G z16⟩
  have Cn : Con mg tk0 tk1 tk2 := ⟨B, PySem.W.mg_of X G x0, PySem.W.mg_of X G x1, PySem.W.mg_of X G x2⟩
  have U0 := fun_mk (st := s_is_integer) l0 c0 k0
  have b0 := U0.binds (ps := ["thing"]) fun _ _ _ _ _ _ us hl => match us, hl with | [_], _ => rfl
  have F0 : Fn K mg "is_integer" s_is_integer ["thing"] _ _ := ⟨U0, b0, PySem.W.mg_of X G a0⟩
  have U1 := fun_mk (st := s_is_word) l1 c1 k1
  have b1 := U1.binds (ps := ["thing"]) fun _ _ _ _ _ _ us hl => match us, hl with | [_], _ => rfl
  have F1 : Fn K mg "is_word" s_is_word ["thing"] _ _ := ⟨U1, b1, PySem.W.mg_of X G a1⟩
  have U2 := fun_mk (st := s_is_pool) l2 c2 k2
  have b2 := U2.binds (ps := ["thing"]) fun _ _ _ _ _ _ us hl => match us, hl with | [_], _ => rfl
  have F2 : Fn K mg "is_pool" s_is_pool ["thing"] _ _ := ⟨U2, b2, PySem.W.mg_of X G a2⟩
  have U3 := fun_mk (st := s_is_share) l3 c3 k3
  have b3 := U3.binds (ps := ["thing"]) fun _ _ _ _ _ _ us hl => match us, hl with | [_], _ => rfl
  have F3 : Fn K mg "is_share" s_is_share ["thing"] _ _ := ⟨U3, b3, PySem.W.mg_of X G a3⟩
  have U4 := fun_mk (st := s_are_loads) l4 c4 k4
  have b4 := U4.binds (ps := ["pool", "thing"]) fun _ _ _ _ _ _ us hl => match us, hl with | [_, _], _ => rfl
  have F4 : Fn K mg "are_loads" s_are_loads ["pool", "thing"] _ _ := ⟨U4, b4, PySem.W.mg_of X G a4⟩
  have U5 := fun_mk (st := s_are_counts) l5 c5 k5
  have b5 := U5.binds (ps := ["pool", "thing"]) fun _ _ _ _ _ _ us hl => match us, hl with | [_, _], _ => rfl
  have F5 : Fn K mg "are_counts" s_are_counts ["pool", "thing"] _ _ := ⟨U5, b5, PySem.W.mg_of X G a5⟩
  have U6 := fun_mk (st := s_weight_sum) l6 c6 k6
  have b6 := U6.binds (ps := ["pool"]) fun _ _ _ _ _ _ us hl => match us, hl with | [_], _ => rfl
  have F6 : Fn K mg "weight_sum" s_weight_sum ["pool"] _ _ := ⟨U6, b6, PySem.W.mg_of X G a6⟩
  have U7 := fun_mk (st := s_turn_after) l7 c7 k7
  have b7 := U7.binds (ps := ["pool", "counts"]) fun _ _ _ _ _ _ us hl => match us, hl with | [_, _], _ => rfl
  have F7 : Fn K mg "turn_after" s_turn_after ["pool", "counts"] _ _ := ⟨U7, b7, PySem.W.mg_of X G a7⟩
  have U8 := fun_mk (st := s_first_turns) l8 c8 k8
  have b8 := U8.binds (ps := ["pool", "many"]) fun _ _ _ _ _ _ us hl => match us, hl with | [_, _], _ => rfl
  have F8 : Fn K mg "first_turns" s_first_turns ["pool", "many"] _ _ := ⟨U8, b8, PySem.W.mg_of X G a8⟩
  have U9 := fun_mk (st := s_counts_from_start) l9 c9 k9
  have b9 := U9.binds (ps := ["pool", "many"]) fun _ _ _ _ _ _ us hl => match us, hl with | [_, _], _ => rfl
  have F9 : Fn K mg "counts_from_start" s_counts_from_start ["pool", "many"] _ _ := ⟨U9, b9, PySem.W.mg_of X G a9⟩
  have U10 := fun_mk (st := s_next_turn) l10 c10 k10
  have b10 := U10.binds (ps := ["pool", "counts"]) fun _ _ _ _ _ _ us hl => match us, hl with | [_, _], _ => rfl
  have F10 : Fn K mg "next_turn" s_next_turn ["pool", "counts"] _ _ := ⟨U10, b10, PySem.W.mg_of X G a10⟩
  have U11 := fun_mk (st := s_counts_after) l11 c11 k11
  have b11 := U11.binds (ps := ["pool", "t"]) fun _ _ _ _ _ _ us hl => match us, hl with | [_, _], _ => rfl
  have F11 : Fn K mg "counts_after" s_counts_after ["pool", "t"] _ _ := ⟨U11, b11, PySem.W.mg_of X G a11⟩
  have U12 := fun_mk (st := s__law_dealt) l12 c12 k12
  have b12 := U12.binds (ps := ["_law_script"]) fun _ _ _ _ _ _ us hl => match us, hl with | [_], _ => rfl
  have F12 : Fn K mg "_law_dealt" s__law_dealt ["_law_script"] _ _ := ⟨U12, b12, PySem.W.mg_of X G a12⟩
  have U13 := fun_mk (st := s__law_draw) l13 c13 k13
  have b13 := U13.binds (ps := ["_law_deck", "_law_many"]) fun _ _ _ _ _ _ us hl => match us, hl with | [_, _], _ => rfl
  have F13 : Fn K mg "_law_draw" s__law_draw ["_law_deck", "_law_many"] _ _ := ⟨U13, b13, PySem.W.mg_of X G a13⟩
  have U14 := fun_mk (st := s__law_pick) l14 c14 k14
  have b14 := U14.binds (ps := ["_law_deck", "_law_some"]) fun _ _ _ _ _ _ us hl => match us, hl with | [_, _], _ => rfl
  have F14 : Fn K mg "_law_pick" s__law_pick ["_law_deck", "_law_some"] _ _ := ⟨U14, b14, PySem.W.mg_of X G a14⟩
  have U15 := fun_mk (st := s__law_is_whole) l15 c15 k15
  have b15 := U15.binds (ps := ["_law_thing", "_law_low", "_law_high"]) fun _ _ _ _ _ _ us hl => match us, hl with | [_, _, _], _ => rfl
  have F15 : Fn K mg "_law_is_whole" s__law_is_whole ["_law_thing", "_law_low", "_law_high"] _ _ := ⟨U15, b15, PySem.W.mg_of X G a15⟩
  have U16 := fun_mk (st := s__law_is_word) l16 c16 k16
  have b16 := U16.binds (ps := ["_law_thing"]) fun _ _ _ _ _ _ us hl => match us, hl with | [_], _ => rfl
  have F16 : Fn K mg "_law_is_word" s__law_is_word ["_law_thing"] _ _ := ⟨U16, b16, PySem.W.mg_of X G a16⟩
  have U17 := fun_mk (st := s__law_odd) l17 c17 k17
  have b17 := U17.binds (ps := ["_law_deck"]) fun _ _ _ _ _ _ us hl => match us, hl with | [_], _ => rfl
  have F17 : Fn K mg "_law_odd" s__law_odd ["_law_deck"] _ _ := ⟨U17, b17, PySem.W.mg_of X G a17⟩
  have U18 := fun_mk (st := s__law_bent) l18 c18 k18
  have b18 := U18.binds (ps := ["_law_deck", "_law_thing"]) fun _ _ _ _ _ _ us hl => match us, hl with | [_, _], _ => rfl
  have F18 : Fn K mg "_law_bent" s__law_bent ["_law_deck", "_law_thing"] _ _ := ⟨U18, b18, PySem.W.mg_of X G a18⟩
  have U19 := fun_mk (st := s__law_pool) l19 c19 k19
  have b19 := U19.binds (ps := ["_law_deck"]) fun _ _ _ _ _ _ us hl => match us, hl with | [_], _ => rfl
  have F19 : Fn K mg "_law_pool" s__law_pool ["_law_deck"] _ _ := ⟨U19, b19, PySem.W.mg_of X G a19⟩
  have U20 := fun_mk (st := s__law_is_pool) l20 c20 k20
  have b20 := U20.binds (ps := ["_law_thing"]) fun _ _ _ _ _ _ us hl => match us, hl with | [_], _ => rfl
  have F20 : Fn K mg "_law_is_pool" s__law_is_pool ["_law_thing"] _ _ := ⟨U20, b20, PySem.W.mg_of X G a20⟩
  have U21 := fun_mk (st := s__law_at_time) l21 c21 k21
  have b21 := U21.binds (ps := ["_law_pool_here", "_law_t"]) fun _ _ _ _ _ _ us hl => match us, hl with | [_, _], _ => rfl
  have F21 : Fn K mg "_law_at_time" s__law_at_time ["_law_pool_here", "_law_t"] _ _ := ⟨U21, b21, PySem.W.mg_of X G a21⟩
  have U22 := fun_mk (st := s__law_tried) l22 c22 k22
  have b22 := U22.binds (ps := ["_law_pool_here", "_law_counts"]) fun _ _ _ _ _ _ us hl => match us, hl with | [_, _], _ => rfl
  have F22 : Fn K mg "_law_tried" s__law_tried ["_law_pool_here", "_law_counts"] _ _ := ⟨U22, b22, PySem.W.mg_of X G a22⟩
  have U23 := fun_mk (st := s__law_near) l23 c23 k23
  have b23 := U23.binds (ps := ["_law_deck", "_law_counts"]) fun _ _ _ _ _ _ us hl => match us, hl with | [_, _], _ => rfl
  have F23 : Fn K mg "_law_near" s__law_near ["_law_deck", "_law_counts"] _ _ := ⟨U23, b23, PySem.W.mg_of X G a23⟩
  have U24 := fun_mk (st := s_law) l24 c24 k24
  have b24 := U24.binds (ps := ["_law_script"]) fun _ _ _ _ _ _ us hl => match us, hl with | [_], _ => rfl
  have F24 : Fn K mg "law" s_law ["_law_script"] _ _ := ⟨U24, b24, PySem.W.mg_of X G a24⟩
  have UI0 := fun_mk (st := s_BC) e0_15 e0_16 e0_17
  have bI0 := UI0.binds (ps := ["self", "thing"]) fun _ _ _ _ _ _ us hl => match us, hl with | [_, _], _ => rfl
  have T0 : ExcI K mg "BadCounts" "BadCounts.__init__" s_BC C0 fI0 _ := ⟨⟨⟨nm0, qn0, Nn0, bs0, bm0, sn0, su0, ab0, co0, dd0, qa0, qb0, qc0, qd0, qe0, e0_1, e0_2⟩, e0_3, e0_4, e0_5, e0_6⟩, ⟨e0_7, e0_8, e0_4, e0_9⟩, e0_10, ⟨e0_11, e0_12⟩, UI0, bI0, PySem.W.mg_of X G e0_0, exm_self e0_4 e0_13 e0_5 e0_14⟩
  have Kn : KwB K (PySem.W.fnOf "next_turn" "next_turn" (defArgs s_next_turn) (defBody s_next_turn) (defScope s_next_turn) .none kV10 dc10 pm10 an10 cd10 ct10) ["pool", "counts"] ["counts", "pool"] List.reverse List.reverse := ⟨fun s ws hl => match ws, hl with | [y0, y1], _ => .of_eq rfl, fun _ r => vals_rev r⟩
  have Kp : KwB K (PySem.W.fnOf "is_pool" "is_pool" (defArgs s_is_pool) (defBody s_is_pool) (defScope s_is_pool) .none kV2 dc2 pm2 an2 cd2 ct2) ["thing"] ["thing"] (fun u => u) (fun u => u) := ⟨fun s ws hl => match ws, hl with | [y0], _ => .of_eq rfl, fun _ r => r⟩
  refine ⟨PySem.W.fnOf "law" "law" (defArgs s_law) (defBody s_law) (defScope s_law) .none kV24 dc24 pm24 an24 cd24 ct24, fun s v => .of_eq rfl, fun base _ _ => ?_⟩
  have Gint : FnOk l.prog w K mg base CX0 _ _ _ _ _ := ok_is_integer F0 B
  have Gshare : FnOk l.prog w K mg base CX0 _ _ _ _ _ := ok_is_share F3 Cn F1 F0
  have Gpool : FnOk l.prog w K mg base CX0 _ _ _ _ _ := ok_is_pool F2 Cn F3 Gshare
  have Gloads : FnOk l.prog w K mg base CX0 _ _ _ _ _ := ok_loads F4 B F0
  have Gafter : FnOk l.prog w K mg base CX0 _ _ _ _ _ := ok_after F7 B F6
  have Gfirst : FnOk l.prog w K mg base CX0 _ _ _ _ _ := ok_first F8 B F7 Gafter
  have Gfrom : FnOk l.prog w K mg base CX0 _ _ _ _ _ := ok_from F9 B F6 F8 Gfirst
  have Gcounts : FnOk l.prog w K mg base CX0 _ _ _ _ _ := ok_counts F5 B F4 Gloads F9 Gfrom
  have Gnext : FnOk l.prog w K mg base CX0 _ _ _ _ _ := ok_next F10 Cn F2 Gpool F5 Gcounts F7 Gafter
  have Gca : FnOk l.prog w K mg base CX0 _ _ _ _ _ := ok_ca F11 Cn F2 Gpool F0 Gint F9 Gfrom
  have GshareG : FnOk l.prog w K mg base CX0 _ _ _ _ _ := ok_shareG F3 Cn F1 F0
  have GpoolG : FnOk l.prog w K mg base CX0 _ _ _ _ _ := ok_poolG F2 Cn F3 GshareG
  have GloadsG : FnOk l.prog w K mg base CX0 _ _ _ _ _ := ok_loadsG F4 Cn F0
  have GcountsG : FnOk l.prog w K mg base CX0 _ _ _ _ _ := ok_countsG F5 B F4 GloadsG F9 Gfrom
  have GnextG : FnOk l.prog w K mg base (L2.CX l.prog w) _ _ _ _ _ := ok_nextG F10 Cn F2 Gpool F5 GcountsG F7 Gafter T0
  have Gtried : FnOk l.prog w K mg base CX0 _ _ _ _ _ := ok_tried F22 Cn F10 GnextG T0
  have Gdeck : FnOk l.prog w K mg base CX0 _ _ _ _ _ := ok_deck F12 B
  have Gdraw : FnOk l.prog w K mg base CX0 _ _ _ _ _ := ok_draw F13 B
  have Gpick : FnOk l.prog w K mg base CX0 _ _ _ _ _ := ok_pick F14 B F13
  have Gwhole : FnOk l.prog w K mg base CX0 _ _ _ _ _ := ok_whole F15 B
  have Glword : FnOk l.prog w K mg base CX0 _ _ _ _ _ := ok_lword F16 B
  have Glpool : FnOk l.prog w K mg base CX0 _ _ _ _ _ := ok_lpool F20 B F16 Glword F15 Gwhole
  have Gat : FnOk l.prog w K mg base CX0 _ _ _ _ _ := ok_attime F21 B
  have Godd : FnOk l.prog w K mg base CX0 _ _ _ _ _ := ok_odd F17 B F13 F14
  have Gbent : FnOk l.prog w K mg base CX0 6 _ _ _ _ := ok_bent F18 B F13 F14 F17 3
  have Gmk : FnOk l.prog w K mg base CX0 _ _ _ _ _ := ok_mkpool F19 B F14 Gpick F13 Gdraw
  have Gnear : FnOk l.prog w K mg base CX0 _ _ _ _ _ := ok_near F23 B F13 Gdraw F14 Gpick
  exact ok_law F24 Cn F12 Gdeck F13 Gdraw F14 Gpick F19 Gmk F21 Gat F11 Gca F22 Gtried F10 Gnext Kn F23 Gnear F15 Gwhole F2 GpoolG Kp F18 Gbent F17 Godd F20 Glpool
end Ag

end
/-! ## Tail -/
open PySem PySem.W PyProof.Rows
set_option maxRecDepth 100000 in
set_option maxHeartbeats 0 in
theorem PySem.Challenge.cw_answergate_k19_whole_turns_at_great_time_holds : PySem.Challenge.rw_answergate_k19_whole_turns_at_great_time.Holds := by
  w_on; o_law; k_head; (case hw => w_witness2)
  k_fill
  refine Ag.walkG (l := PySem.Challenge.rw_answergate_k19_whole_turns_at_great_time) (n := 63) (k := 8) (x := "_law_script") (sp := Ag.spLaw) rfl (by decide) rfl ⟨rfl, by decide, by decide⟩ (fun w h Y => PySem.W.kIn_of Y) ?F (fun K H a ns hl hS => ⟨a, ns, rfl, hS, hl, fun _ => rfl⟩)
  case F =>
    intro w mg fa h KX G hmg
    refine' Ag.all_mk KX G hmg ?ya0 ?yl0 ?yc0 ?yk0 ?ya1 ?yl1 ?yc1 ?yk1 ?ya2 ?yl2 ?yc2 ?yk2 ?ya3 ?yl3 ?yc3 ?yk3 ?ya4 ?yl4 ?yc4 ?yk4 ?ya5 ?yl5 ?yc5 ?yk5 ?ya6 ?yl6 ?yc6 ?yk6 ?ya7 ?yl7 ?yc7 ?yk7 ?ya8 ?yl8 ?yc8 ?yk8 ?ya9 ?yl9 ?yc9 ?yk9 ?ya10 ?yl10 ?yc10 ?yk10 ?ya11 ?yl11 ?yc11 ?yk11 ?ya12 ?yl12 ?yc12 ?yk12 ?ya13 ?yl13 ?yc13 ?yk13 ?ya14 ?yl14 ?yc14 ?yk14 ?ya15 ?yl15 ?yc15 ?yk15 ?ya16 ?yl16 ?yc16 ?yk16 ?ya17 ?yl17 ?yc17 ?yk17 ?ya18 ?yl18 ?yc18 ?yk18 ?ya19 ?yl19 ?yc19 ?yk19 ?ya20 ?yl20 ?yc20 ?yk20 ?ya21 ?yl21 ?yc21 ?yk21 ?ya22 ?yl22 ?yc22 ?yk22 ?ya23 ?yl23 ?yc23 ?yk23 ?ya24 ?yl24 ?yc24 ?yk24 ?yz0 ?yz1 ?yz2 ?yz3 ?yz4 ?yz5 ?yz6 ?yz7 ?yz8 ?yz9 ?yz10 ?yz11 ?yz12 ?yz13 ?yz14 ?yz15 ?yz16 ?yx0 ?yx1 ?yx2 ?ye0_0 ?ye0_1 ?ye0_2 ?ye0_3 ?ye0_4 ?ye0_5 ?ye0_6 ?ye0_7 ?ye0_8 ?ye0_9 ?ye0_10 ?ye0_11 ?ye0_12 ?ye0_13 ?ye0_14 ?ye0_15 ?ye0_16 ?ye0_17
    (case ya0 => k_is); (case yl0 => k_is); (case yc0 => k_is); (case yk0 => k_is)
    (case ya1 => k_is); (case yl1 => k_is); (case yc1 => k_is); (case yk1 => k_is)
    (case ya2 => k_is); (case yl2 => k_is); (case yc2 => k_is); (case yk2 => k_is)
    (case ya3 => k_is); (case yl3 => k_is); (case yc3 => k_is); (case yk3 => k_is)
    (case ya4 => k_is); (case yl4 => k_is); (case yc4 => k_is); (case yk4 => k_is)
    (case ya5 => k_is); (case yl5 => k_is); (case yc5 => k_is); (case yk5 => k_is)
    (case ya6 => k_is); (case yl6 => k_is); (case yc6 => k_is); (case yk6 => k_is)
    (case ya7 => k_is); (case yl7 => k_is); (case yc7 => k_is); (case yk7 => k_is)
    (case ya8 => k_is); (case yl8 => k_is); (case yc8 => k_is); (case yk8 => k_is)
    (case ya9 => k_is); (case yl9 => k_is); (case yc9 => k_is); (case yk9 => k_is)
    (case ya10 => k_is); (case yl10 => k_is); (case yc10 => k_is); (case yk10 => k_is)
    (case ya11 => k_is); (case yl11 => k_is); (case yc11 => k_is); (case yk11 => k_is)
    (case ya12 => k_is); (case yl12 => k_is); (case yc12 => k_is); (case yk12 => k_is)
    (case ya13 => k_is); (case yl13 => k_is); (case yc13 => k_is); (case yk13 => k_is)
    (case ya14 => k_is); (case yl14 => k_is); (case yc14 => k_is); (case yk14 => k_is)
    (case ya15 => k_is); (case yl15 => k_is); (case yc15 => k_is); (case yk15 => k_is)
    (case ya16 => k_is); (case yl16 => k_is); (case yc16 => k_is); (case yk16 => k_is)
    (case ya17 => k_is); (case yl17 => k_is); (case yc17 => k_is); (case yk17 => k_is)
    (case ya18 => k_is); (case yl18 => k_is); (case yc18 => k_is); (case yk18 => k_is)
    (case ya19 => k_is); (case yl19 => k_is); (case yc19 => k_is); (case yk19 => k_is)
    (case ya20 => k_is); (case yl20 => k_is); (case yc20 => k_is); (case yk20 => k_is)
    (case ya21 => k_is); (case yl21 => k_is); (case yc21 => k_is); (case yk21 => k_is)
    (case ya22 => k_is); (case yl22 => k_is); (case yc22 => k_is); (case yk22 => k_is)
    (case ya23 => k_is); (case yl23 => k_is); (case yc23 => k_is); (case yk23 => k_is)
    (case ya24 => k_is); (case yl24 => k_is); (case yc24 => k_is); (case yk24 => k_is)
    (case yz0 => k_is); (case yz1 => k_is); (case yz2 => k_is); (case yz3 => k_is); (case yz4 => k_is); (case yz5 => k_is); (case yz6 => k_is); (case yz7 => k_is); (case yz8 => k_is); (case yz9 => k_is); (case yz10 => k_is); (case yz11 => k_is); (case yz12 => k_is); (case yz13 => k_is); (case yz14 => k_is); (case yz15 => k_is); (case yz16 => k_is)
    (case yx0 => k_is); (case yx1 => k_is); (case yx2 => k_is)
    (case ye0_0 => k_is); (case ye0_1 => k_is); (case ye0_2 => rfl); (case ye0_3 => k_is); (case ye0_4 => k_is); (case ye0_5 => k_is); (case ye0_6 => k_is); (case ye0_7 => k_is); (case ye0_8 => k_is); (case ye0_9 => k_is); (case ye0_10 => k_is); (case ye0_11 => k_is); (case ye0_12 => k_is); (case ye0_13 => k_is); (case ye0_14 => k_is); (case ye0_15 => k_is); (case ye0_16 => k_is); (case ye0_17 => k_is)

