import PyProof.Rows.All
import Wide.All
import OpenK.AllK
import Wide.FinOn
import HandS.ForMost
import HandS.IsInst
import HandS.FStr
import HandS.StrMore
import HandS.Style
import HandS.SortInts
import HandS.Wide
import HandS.TupAny
import HandS.TupMul
import PyProof.StrBlock2
import PyProof.ReprRoads
import PyProof.ReprText
import HandS.Codes
import HandS.Walk
import PyProof.Draws
import PyProof.EnumFor
import PyProof.EnumMake
import PyProof.ListStr
import HandS.Conv
import HandS.Strs
import HandS.SetFor
import PyProof.SetRoads
import KE.GoesMore
import KE.GoesEnum
import PyProof.SumWalkG
import PyProof.WalksMore
import KE.GoesZip
import HandS.Zip
import HandS.Star
import PySem.Challenge.RW_answergate_k18_whole_turns_within_their
set_option Elab.async false
/-! ## Base0 -/
section
set_option linter.all false
set_option maxRecDepth 100000
namespace Ag
open PySem PySem.Spec PyProof.Rows L2
/-! ### a def's promise where it is known that no repr runs around the call -/
structure FnG (P : Program) (w : World) (K : PySem.W.Frag) (mg : Str → Option Value) (base : Heap) (k : Nat) (f : Addr) (fd : FuncData) (ps : List Str) (sp : Sp) : Prop where
  len : ∀ vs H Q E, sp vs H Q E → vs.length = ps.length
  run : ∀ (A : Around) (outer : List Env) (s : Shared) (H : Hp) (args : Args) (us : List Value) (vs : List V) (Q : VK) (E : XK), Room k A → A.guards = some [] →
    Env0 P w K mg base A outer s H → BindsTo s fd args (ps.zip us) → Vals vs us → sp vs H Q E → codeAny (model P w) A (.call (.ref f) args) (CR CX0 outer P w H s Q E) s
theorem FnG.of {P : Program} {w : World} {K : PySem.W.Frag} {mg : Str → Option Value} {base : Heap} {k : Nat} {f : Addr} {fd : FuncData} {ps : List Str} {sp : Sp} (F : FnOk P w K mg base CX0 k f fd ps sp) :
    FnG P w K mg base k f fd ps sp := ⟨F.len, fun A outer s H args us vs Q E hr _ => F.run A outer s H args us vs Q E hr⟩
theorem g_deeper {A : Around} {env : Env} (h : A.guards = some []) : (A.deeper env).guards = some [] := by
  first | exact h | (simp [Around.deeper, h])
section
variable {P : Program} {w : World} {K : PySem.W.Frag} {mg : Str → Option Value} {base : Heap}
theorem okG {x qual : Str} {st : Stmt} {f : Addr} {fd : FuncData} {N ps : List Str} {k : Nat} {sp : Sp} (F : Fun K x qual st f fd) (S : FnScope N ps (defScope st))
    (len : ∀ vs H Q E, sp vs H Q E → vs.length = ps.length)
    (hbody : ∀ (cdv : Value) (A : Around) (outer : List Env) (s : Shared) (H : Hp) (vs : List V) (Q : VK) (E : XK), Room k (A.deeper (envOfC qual (defScope st) s.heap.objs.size f cdv)) →
      (A.deeper (envOfC qual (defScope st) s.heap.objs.size f cdv)).guards = some [] → sp vs H Q E →
      ∃ t, PSs (cxOf CX0 P w K mg base N qual (defScope st) f cdv A outer s H E).nox (defBody st) t ∧ t { nx := fun _ H' => Q .non H', rt := Q } (start N vs) H) :
    FnG P w K mg base (k + 1) f fd ps sp := by
  obtain ⟨oc, od, kV, doc, pm, an, cdv, ct, osl, rfl, lk, hcd⟩ := F.ex
  refine ⟨len, ?_⟩
  intro A outer s H args us vs Q E hr hg env0 hb rel hsp
  have hlen := len vs H Q E hsp
  have below : ∀ b o, base.get? b = some o → s.heap.get? b = some o := fun b o e => (env0.bs b o e).1
  have KX : K.In s.heap := env0.mod.kin.keeps below
  have noLim : s.heap.NoLimit := env0.mod.nolimit.keeps below
  have kinds : ∀ y ∈ ps.zip us, (defScope st).names.lookup y.1 = some .local ∨ ((defScope st).names.lookup y.1 = some .cell ∧ ((cellsFrom (s.heap.objs.size + 1) (defScope st).names []).lookup y.1).isSome = true) := by
    rintro ⟨n, v⟩ hy
    exact (S.par n (List.of_mem_zip hy).1).imp id fun q => ⟨q, PySem.W.cellsFrom_some _ _ _ (.inl q)⟩
  refine codeAny_call_function hr.depth (KX f _ lk) rfl S.co S.gen rfl (PySem.W.codeRec_of KX hcd) (hb _ _ _ _ (wpAny_newFunctionEnv_cells S.kind kinds ?_))
  intro env he s1 x
  subst he
  refine ⟨noLim.keeps x.toInCall.keep, codeAny_func ?_⟩
  obtain ⟨t, ht, hq⟩ := hbody cdv A outer s H vs Q E (hr.deeper _) (g_deeper hg) hsp
  have I := inv_start (CX := CX0) (E := E) S hr.hd env0 hlen rel x
  refine wpAny_mono (ht.nox.run [] s1 (start N vs) H _ I hq) (fun fl s' hs => ?_) (fun e s' hs => hs)
  cases fl with
  | brk => exact hs.elim fun _ z => z.elim fun _ z => z.2.elim
  | cont => exact hs.elim fun _ z => z.elim fun _ z => z.2.elim
  | next =>
    obtain ⟨σ', H', J, q⟩ := hs
    exact ⟨.non, H', J.os, J.bare, J.base, J.hok, rfl, q⟩
  | ret u =>
    obtain ⟨v, σ', H', J, rv, q⟩ := hs
    exact ⟨v, H', J.os, J.bare, J.base, J.hok, rv, q⟩
end
section
variable {X : Cx} {k : Nat} {f : Addr} {fd : FuncData} {ps : List Str} {sp : Sp} {x : Str} {p pos : Pos} {e : Expr} {es : List Expr} {t : TA}
theorem run_G {pins : List (Addr × Obj)} {σ : L2.St} {H : Hp} {s : Shared} {Q : VK} {us : List Value} {vs : List V} {args : Args} (F : FnG X.prog X.w X.K X.mg X.base k f fd ps sp) (hr : Room k X.A) (hG : X.A.guards = some [])
    (I : Inv X pins σ H s) (hb : BindsTo s fd args (ps.zip us)) (r : Vals vs us) (h : sp vs H Q E0) : codeAny (model X.prog X.w) X.A (.call (.ref f) args) (fun r s' => ∃ u, r = .ok (.ret u) ∧ EP X pins σ Q u s') s := by
  refine codeAny_mono (F.run X.A X.stack s H args us vs Q E0 hr hG I.env0 hb r h) ?_
  intro r s' hq
  match r, hq with
  | .error e, hq => exact hq.elim
  | .ok (.ret u), hq => exact ⟨u, rfl, I.after hq⟩
/-- f(e, ..) -/
theorem pe_callG (F : FnG X.prog X.w X.K X.mg X.base k f fd ps sp) (hr : Room k X.A) (hG : X.A.guards = some []) (hg : Gl X x) (hm : X.mg x = some (.ref f)) (hk : PySem.W.keepIn X.K (.ref f) = true) (hb : Binds X.K fd ps [])
    (ha : PA X (e :: es) t) (hdb : (x == ("__debug__" : Str)) = false := by decide) (he : starEach (e :: es) X.env = (false, eval e X.env) :: starEach es X.env := by rfl) (hpl : (backTo pos (starEach es X.env)).any (·.1) = false := by rfl) :
    PE X (.Call (.Name x p) (e :: es) [] pos) (tCall sp [] E0 t) := by
  constructor
  intro pins s σ H Q I h
  refine wpAny_Call_Name_kw (ld_glob I hg hm (PySem.W.callWith_K (h₀ := X.base) I.ok.mod.kin hk (thn (ha.run pos pins s σ H _ I h) ?_) he hpl) hdb)
  rintro us s1 ⟨vs, H1, I1, r, q⟩
  rw [List.append_nil] at q
  have hl : us.length = ps.length := by rw [← r.length]; exact F.len _ _ _ _ q
  have z := hb s1 us I1.kIn (by rw [List.append_nil]; exact hl)
  rw [List.append_nil] at z
  refine ⟨I1.kIn, ?_⟩
  show wpAny _ _ (call (.ref f) us) _ _ _
  refine wpAny_call (codeAny_mono (run_G F hr hG I1 z r q) ?_)
  rintro r s' ⟨u, rfl, z⟩
  exact z
/-- f(k = e, ..), keywords alone -/
structure KwB (K : PySem.W.Frag) (fd : FuncData) (ps ks : List Str) (gv : List Value → List Value) (gV : List V → List V) : Prop where
  to : ∀ (s : Shared) (ws : List Value), ws.length = ks.length → BindsTo s fd ⟨[], ks.zip ws⟩ (ps.zip (gv ws))
  rel : ∀ {zs : List V} {ws : List Value}, zs.length = ks.length → Vals zs ws → Vals (gV zs) (gv ws)
def tCallKw (sp : Sp) (n : Nat) (gV : List V → List V) (t : TA) : TE := fun σ H Q => t σ H fun zs H2 => zs.length = n ∧ sp (gV zs) H2 Q E0
variable {ks : List Str} {gv : List Value → List Value} {gV : List V → List V} {kws : List Keyword}
theorem pe_callKwG (F : FnG X.prog X.w X.K X.mg X.base k f fd ps sp) (hr : Room k X.A) (hG : X.A.guards = some []) (hg : Gl X x) (hm : X.mg x = some (.ref f)) (hk : PySem.W.keepIn X.K (.ref f) = true) (hb : KwB X.K fd ps ks gv gV)
    (ha : PK X kws t) (hall : (backToKw pos (keywordEach kws X.env)).all (·.1.isSome) = true := by rfl) (hks : (backToKw pos (keywordEach kws X.env)).filterMap (·.1) = ks := by rfl) (hdb : (x == ("__debug__" : Str)) = false := by decide)
    (hpl : ((backTo pos (starEach [] X.env)).any (·.1) || (backToKw pos (keywordEach kws X.env)).any (·.1.isNone)) = false := by rfl) : PE X (.Call (.Name x p) [] kws pos) (tCallKw sp ks.length gV t) := by
  constructor
  intro pins s σ H Q I h
  refine wpAny_Call_Name_kw (ld_glob I hg hm (PySem.W.callWith_KW0 (h₀ := X.base) I.ok.mod.kin hk hall (thn (ha.run pos pins s σ H _ I h) ?_) hpl) hdb)
  rintro ws s2 ⟨zs, H2, I2, rz, l, q⟩
  refine ⟨I2.kIn, ?_⟩
  rw [hks]
  refine wpAny_call (codeAny_mono (run_G (args := ⟨[], ks.zip ws⟩) F hr hG I2 (hb.to s2 ws (by rw [← rz.length]; exact l)) (hb.rel l rz) q) ?_)
  rintro r s' ⟨u, rfl, z⟩
  exact z
/-! ### repr of data -/
theorem call_repr_data (hu : X.A.units + 66 < cLine) (hG : X.A.guards = some []) : CallR X (.builtin "repr") (fun xs H Q => ∃ x d, xs = [x] ∧ Dp X.K H x d ∧ d.showable = true ∧ d.hasDict = false ∧ d.depth ≤ 64 ∧ d.shown.length ≤ sizeLine ∧ Q (.str d.shown) H) := by
  intro pins s σ H vs us Q I r h
  obtain ⟨x, d, rfl, hd, h1, h2, h3, h4, q⟩ := h
  obtain ⟨u, rfl, ru⟩ := vals1 r
  cases x with
  | ref a =>
    obtain ⟨as, rd⟩ := Dp.reads I d (.ref a) u hd ru
    obtain rfl : u = Value.ref a := ru
    refine repr_of_reads' rd h1 (fun z => by rw [h2] at z; cases z) hG (by omega) (fun _ _ e => e) (fun h' u tk kp => ?_) h4
    exact ⟨.str d.shown, H, I.kept kp, ⟨_, rfl⟩, q⟩
  | non =>
    cases hd
    obtain rfl : u = Value.none := ru
    exact PySem.P.repr_of_none ⟨.str _, H, I.tok _, ⟨_, rfl⟩, by rw [PyData.shown_none] at q; exact q⟩
  | bl b =>
    cases hd
    obtain rfl : u = Value.bool b := ru
    exact PySem.P.repr_of_bool ⟨.str _, H, I.tok _, ⟨_, rfl⟩, by rw [PyData.shown_bool] at q; exact q⟩
  | int i =>
    cases hd
    obtain ⟨t, rfl⟩ := ru
    exact PySem.P.repr_of_int (by simpa [PyData.showable] using h1) ⟨.str _, H, I.tok _, ⟨_, rfl⟩, by rw [PyData.shown_int] at q; exact q⟩
  | str z =>
    cases hd
    obtain ⟨t, rfl⟩ := ru
    rw [PyData.shown_str] at q h4
    exact PySem.P.repr_of_str ⟨.str _, H, I.tok _, ⟨_, rfl⟩, q⟩ h4
  | byt b => cases hd
  | flt b => cases hd
  | ty n => cases hd
end
end Ag

end
/-! ## Math1 -/
section
set_option linter.all false
namespace Ag
open PySem
/-! ### decimal texts -/
abbrev numL := TL.numL
abbrev digitsVal := NumText.digitsVal
def plainC (c : Nat) : Bool := decide (32 ≤ c) && decide (c ≤ 126)
def digC (c : Nat) : Bool := decide (48 ≤ c) && decide (c ≤ 57)
def plainL (l : List Nat) : Bool := l.all plainC
def isDec (l : List Nat) (m : Nat) : Bool := decide (numL (digitsVal l) = l) && decide (digitsVal l ≤ m)
theorem dv_snoc (l : List Nat) (c : Nat) : digitsVal (l ++ [c]) = digitsVal l * 10 + (c - 48) := by
  show List.foldl _ 0 (l ++ [c]) = _
  rw [List.foldl_append]
  rfl
theorem isDec_iff {l : List Nat} {m : Nat} : isDec l m = true ↔ ∃ k, k ≤ m ∧ l = numL k := by
  unfold isDec
  rw [Bool.and_eq_true, decide_eq_true_eq, decide_eq_true_eq]
  constructor
  · rintro ⟨a, b⟩
    exact ⟨_, b, a.symm⟩
  · rintro ⟨k, hk, rfl⟩
    have e : digitsVal (numL k) = k := TL.numL_val k
    rw [e]
    exact ⟨rfl, hk⟩
theorem numL_all (k : Nat) : ∀ c ∈ numL k, 48 ≤ c ∧ c ≤ 57 := TL.numL_digits k
theorem numL_ne (k : Nat) : numL k ≠ [] := TL.numL_ne k
theorem numL_val (k : Nat) : digitsVal (numL k) = k := TL.numL_val k
theorem numL_zero_head : ∀ (k : Nat) (l : List Nat), numL k = 48 :: l → k = 0 := by
  intro k
  induction k using Nat.strongRecOn with
  | ind k ih =>
    intro l h
    by_cases hk : k < 10
    · have e : numL k = [48 + k] := TL.numL_lt hk
      rw [e] at h
      injection h with h1 h2
      omega
    · have e : numL k = numL (k / 10) ++ [48 + k % 10] := TL.numL_step (by omega)
      rw [e] at h
      have hne := numL_ne (k / 10)
      cases hq : numL (k / 10) with
      | nil => exact absurd hq hne
      | cons d r =>
        rw [hq] at h
        injection h with h1 h2
        subst h1
        have z := ih (k / 10) (by omega) r hq
        omega
/-- one more digit -/
theorem isDec_snoc {s : List Nat} {c m : Nat} (hs : s = [] ∨ ∃ k, s = numL k) :
    isDec (s ++ [c]) m = (digC c && decide (s ≠ [48]) && decide (digitsVal (s ++ [c]) ≤ m)) := by
  rw [Bool.eq_iff_iff, isDec_iff]
  simp only [Bool.and_eq_true, decide_eq_true_eq, digC]
  constructor
  · rintro ⟨k, hk, e⟩
    have hc : 48 ≤ c ∧ c ≤ 57 := numL_all k c (by rw [← e]; simp)
    refine ⟨⟨hc, ?_⟩, ?_⟩
    · rintro rfl
      have z := numL_zero_head k [c] e.symm
      subst z
      have e2 : numL 0 = [48] := TL.numL_lt (by decide)
      rw [e2] at e
      simp at e
    · rw [e, numL_val]
      exact hk
  · rintro ⟨⟨hc, hne⟩, hv⟩
    refine ⟨digitsVal (s ++ [c]), hv, ?_⟩
    rw [dv_snoc]
    rcases hs with rfl | ⟨k, rfl⟩
    · show [c] = numL (0 * 10 + (c - 48))
      have e : numL (0 * 10 + (c - 48)) = [48 + (0 * 10 + (c - 48))] := TL.numL_lt (by omega)
      rw [e]
      congr 1
      omega
    · rw [numL_val]
      have hk : k ≠ 0 := by
        rintro rfl
        exact hne (TL.numL_lt (by decide))
      have e : numL (k * 10 + (c - 48)) = numL ((k * 10 + (c - 48)) / 10) ++ [48 + (k * 10 + (c - 48)) % 10] := TL.numL_step (by omega)
      rw [e, show (k * 10 + (c - 48)) / 10 = k by omega, show 48 + (k * 10 + (c - 48)) % 10 = c by omega]
theorem isDec_nil (m : Nat) : isDec [] m = false := by
  cases h : isDec [] m with
  | false => rfl
  | true =>
    obtain ⟨k, _, e⟩ := isDec_iff.mp h
    exact absurd e.symm (numL_ne k)
theorem numL_len3 {k : Nat} (h : k ≤ 200) : (numL k).length ≤ 3 := TL.numL_len (by decide) (by omega)
/-! ### reading, sign by sign -/
inductive Out where
  | read (ts : List (List Nat)) (r : List Nat)
  | wrong (ts : List (List Nat)) (k : Nat)
  deriving DecidableEq
def Out.pre (ts : List (List Nat)) (i : Nat) : Out → Out
  | .read us r => .read (ts ++ us) r
  | .wrong us k => .wrong (ts ++ us) (i + k)
theorem Out.pre_pre (ts us : List (List Nat)) (i j : Nat) (o : Out) : (o.pre us j).pre ts i = o.pre (ts ++ us) (i + j) := by
  cases o <;> simp [Out.pre, Nat.add_assoc]
theorem Out.pre_nil (o : Out) : o.pre [] 0 = o := by cases o <;> simp [Out.pre]
def glue (s : List Nat) : Option (List Nat) → List Nat
  | none => s
  | some t => s ++ 58 :: t
/-- one sign: none if it is wrong; else the text that is complete, if there is one, and the next state -/
def stp (s : List Nat) (t : Option (List Nat)) (c : Nat) : Option (Option (List Nat) × List Nat × Option (List Nat)) :=
  match t with
  | none => if c = 58 ∧ s ≠ [] then some (none, s, some []) else if isDec (s ++ [c]) 200 = true then some (none, s ++ [c], none) else none
  | some t => if t.length < digitsVal s then (if plainC c = true then some (none, s, some (t ++ [c])) else none) else if c = 44 then some (some t, [], none) else none
def lr (s : List Nat) (t : Option (List Nat)) : List Nat → Out
  | [] => .read [] (glue s t)
  | c :: cs => match stp s t c with
    | none => .wrong [] 0
    | some (o, s', t') => (lr s' t' cs).pre o.toList 1
/-- states that can be -/
def Vd (s : List Nat) : Option (List Nat) → Prop
  | none => s = [] ∨ ∃ k, k ≤ 200 ∧ s = numL k
  | some t => (∃ k, k ≤ 200 ∧ s = numL k ∧ t.length ≤ k) ∧ plainL t = true
theorem plainL_snoc {t : List Nat} {c : Nat} : plainL (t ++ [c]) = (plainL t && plainC c) := by
  simp [plainL, List.all_append]
theorem Vd.step {s : List Nat} {t : Option (List Nat)} {c : Nat} (v : Vd s t) {o : Option (List Nat)} {s' : List Nat} {t' : Option (List Nat)} (h : stp s t c = some (o, s', t')) : Vd s' t' := by
  cases t with
  | none =>
    simp only [stp] at h
    split at h
    · rename_i q
      cases h
      rcases v with rfl | ⟨k, hk, e⟩
      · exact absurd rfl q.2
      · exact ⟨⟨k, hk, e, Nat.zero_le _⟩, rfl⟩
    · split at h
      · rename_i q
        cases h
        exact .inr (isDec_iff.mp q)
      · cases h
  | some t =>
    simp only [stp] at h
    obtain ⟨⟨k, hk, e, hl⟩, hp⟩ := v
    split at h
    · rename_i q
      split at h
      · rename_i hc
        cases h
        refine ⟨⟨k, hk, e, ?_⟩, by rw [plainL_snoc, hp, hc]; rfl⟩
        rw [e, numL_val] at q
        simp
        omega
      · cases h
    · split at h
      · cases h
        exact .inl rfl
      · cases h
/-- the state of a rest -/
def spS (r : List Nat) : List Nat := match TL.par [58] [] r with | some (p, _) => p | none => r
def spT (r : List Nat) : Option (List Nat) := match TL.par [58] [] r with | some (_, q) => some q | none => none
theorem colon_free {k : Nat} : 58 ∉ numL k := TL.numL_free (.inr (by decide))
theorem Vd.free {s : List Nat} {t : Option (List Nat)} (v : Vd s t) : 58 ∉ s := by
  cases t with
  | none =>
    rcases v with rfl | ⟨k, _, rfl⟩
    · exact List.not_mem_nil
    · exact colon_free
  | some t =>
    obtain ⟨⟨k, _, rfl, _⟩, _⟩ := v
    exact colon_free
theorem par_glue {s : List Nat} {t : Option (List Nat)} (h : 58 ∉ s) : TL.par [58] [] (glue s t) = t.map fun t => (s, t) := by
  cases t with
  | none => exact SX.par_head_none h
  | some t => exact SX.par_head t h
theorem sp_glue {s : List Nat} {t : Option (List Nat)} (v : Vd s t) : spS (glue s t) = s ∧ spT (glue s t) = t := by
  unfold spS spT
  rw [par_glue v.free]
  cases t <;> exact ⟨rfl, rfl⟩
/-- reading leads to a rest -/
theorem lr_rest : ∀ (l : List Nat) {s : List Nat} {t : Option (List Nat)} {ts : List (List Nat)} {r : List Nat}, Vd s t → lr s t l = .read ts r → ∃ s' t', Vd s' t' ∧ r = glue s' t'
  | [], s, t, ts, r, v, h => by
    simp only [lr] at h
    cases h
    exact ⟨s, t, v, rfl⟩
  | c :: cs, s, t, ts, r, v, h => by
    simp only [lr] at h
    cases hs : stp s t c with
    | none => rw [hs] at h; cases h
    | some p =>
      obtain ⟨o, s', t'⟩ := p
      rw [hs] at h
      simp only at h
      cases hl : lr s' t' cs with
      | wrong us k => rw [hl] at h; cases h
      | read us r' =>
        rw [hl] at h
        cases h
        exact lr_rest cs (v.step hs) hl
/-- two strings, one behind the other -/
def Out.thn (n : Nat) (o : Out) (k : List Nat → Out) : Out := match o with
  | .read ts r => (k r).pre ts n
  | .wrong ts i => .wrong ts i
theorem lr_app : ∀ (a b : List Nat) {s : List Nat} {t : Option (List Nat)}, Vd s t → lr s t (a ++ b) = (lr s t a).thn a.length fun r => lr (spS r) (spT r) b
  | [], b, s, t, v => by
    show lr s t b = (lr (spS (glue s t)) (spT (glue s t)) b).pre [] 0
    rw [(sp_glue v).1, (sp_glue v).2, Out.pre_nil]
  | c :: cs, b, s, t, v => by
    show lr s t (c :: (cs ++ b)) = _
    simp only [lr]
    cases hs : stp s t c with
    | none => rfl
    | some p =>
      obtain ⟨o, s', t'⟩ := p
      simp only
      rw [lr_app cs b (v.step hs)]
      cases lr s' t' cs with
      | wrong us k => rfl
      | read us r' =>
        show Out.pre o.toList 1 (Out.pre us cs.length (lr (spS r') (spT r') b)) = Out.pre (o.toList ++ us) (cs.length + 1) (lr (spS r') (spT r') b)
        rw [Out.pre_pre, Nat.add_comm 1]
/-! ### the program's way: one frame after the other -/
/-- how many of the signs are digits of a length -/
def dgs (s : List Nat) : List Nat → Nat
  | [] => 0
  | c :: cs => if isDec (s ++ [c]) 200 = true then dgs (s ++ [c]) cs + 1 else 0
theorem dgs_le : ∀ (l s : List Nat), dgs s l ≤ l.length
  | [], _ => Nat.le_refl _
  | c :: cs, s => by
    unfold dgs
    split
    · have := dgs_le cs (s ++ [c])
      simp
      exact this
    · exact Nat.zero_le _
theorem lr_dgs : ∀ (l : List Nat) {s : List Nat}, Vd s none → lr s none l = (lr (s ++ l.take (dgs s l)) none (l.drop (dgs s l))).pre [] (dgs s l) ∧ Vd (s ++ l.take (dgs s l)) none ∧
    (∀ c cs, l.drop (dgs s l) = c :: cs → isDec (s ++ l.take (dgs s l) ++ [c]) 200 = false)
  | [], s, v => by
    refine ⟨?_, ?_, fun c cs h => ?_⟩
    · simp [dgs, Out.pre_nil]
    · simpa [dgs] using v
    · simp at h
  | c :: cs, s, v => by
    by_cases h : isDec (s ++ [c]) 200 = true
    · have hd : dgs s (c :: cs) = dgs (s ++ [c]) cs + 1 := by
        show (if isDec (s ++ [c]) 200 = true then _ else _) = _
        rw [if_pos h]
      have hc : c ≠ 58 := by
        obtain ⟨k, _, e⟩ := isDec_iff.mp h
        have := numL_all k c (by rw [← e]; simp)
        omega
      have v' : Vd (s ++ [c]) none := .inr (isDec_iff.mp h)
      obtain ⟨i1, i2, i3⟩ := lr_dgs cs v'
      have es : stp s none c = some (none, s ++ [c], none) := by
        show (if c = 58 ∧ s ≠ [] then _ else if isDec (s ++ [c]) 200 = true then _ else _) = _
        rw [if_neg (fun z => hc z.1), if_pos h]
      have el : lr s none (c :: cs) = (lr (s ++ [c]) none cs).pre [] 1 := by
        simp only [lr, es]
        rfl
      have ea : s ++ [c] ++ cs.take (dgs (s ++ [c]) cs) = s ++ (c :: cs).take (dgs (s ++ [c]) cs + 1) := by simp
      rw [hd, el, i1, Out.pre_pre, ea]
      rw [ea] at i2 i3
      refine ⟨?_, i2, fun d ds hq => i3 d ds (by simpa using hq)⟩
      rw [List.drop_succ_cons, Nat.add_comm]
      rfl
    · have hd : dgs s (c :: cs) = 0 := by
        show (if isDec (s ++ [c]) 200 = true then _ else _) = _
        rw [if_neg h]
      rw [hd]
      refine ⟨by simp [Out.pre_nil], by simpa using v, fun d ds hq => ?_⟩
      simp at hq
      obtain ⟨rfl, rfl⟩ := hq
      simpa using h
/-- how many signs ahead of the first one that no text has -/
def pls : List Nat → Nat
  | [] => 0
  | c :: cs => if plainC c = true then pls cs + 1 else 0
theorem pls_le : ∀ l : List Nat, pls l ≤ l.length
  | [] => Nat.le_refl _
  | c :: cs => by
    unfold pls
    split
    · have := pls_le cs
      simp
      exact this
    · exact Nat.zero_le _
theorem pls_all {l : List Nat} (h : plainL l = true) : pls l = l.length := by
  induction l with
  | nil => rfl
  | cons c cs ih =>
    have h' : plainC c = true ∧ plainL cs = true := by simpa [plainL] using h
    show (if plainC c = true then pls cs + 1 else 0) = _
    rw [if_pos h'.1, ih h'.2]
    rfl
theorem pls_lt {l : List Nat} (h : plainL l = false) : pls l < l.length ∧ ∃ c, l[pls l]? = some c ∧ plainC c = false := by
  induction l with
  | nil => cases h
  | cons c cs ih =>
    by_cases hc : plainC c = true
    · have h' : plainL cs = false := by
        have z : (plainC c && plainL cs) = false := h
        rw [hc] at z
        exact z
      obtain ⟨a, d, b1, b2⟩ := ih h'
      have e : pls (c :: cs) = pls cs + 1 := by
        show (if plainC c = true then pls cs + 1 else 0) = _
        rw [if_pos hc]
      rw [e]
      exact ⟨by simp; exact a, d, by simpa using b1, b2⟩
    · have e : pls (c :: cs) = 0 := by
        show (if plainC c = true then pls cs + 1 else 0) = _
        rw [if_neg hc]
      rw [e]
      exact ⟨by simp, c, by simp, by simpa using hc⟩
theorem pls_plain : ∀ l : List Nat, plainL (l.take (pls l)) = true
  | [] => rfl
  | c :: cs => by
    by_cases hc : plainC c = true
    · have e : pls (c :: cs) = pls cs + 1 := by
        show (if plainC c = true then pls cs + 1 else 0) = _
        rw [if_pos hc]
      rw [e, List.take_succ_cons]
      show (plainC c && plainL (cs.take (pls cs))) = true
      rw [hc, pls_plain cs]
      rfl
    · have e : pls (c :: cs) = 0 := by
        show (if plainC c = true then pls cs + 1 else 0) = _
        rw [if_neg hc]
      rw [e]
      rfl
/-- the signs of a text -/
theorem lr_text : ∀ (a : List Nat) (l : List Nat) {s t : List Nat}, plainL a = true → t.length + a.length ≤ digitsVal s → lr s (some t) (a ++ l) = (lr s (some (t ++ a)) l).pre [] a.length
  | [], l, s, t, _, _ => by simp [Out.pre_nil]
  | c :: cs, l, s, t, hp, hl => by
    have hp' : plainC c = true ∧ plainL cs = true := by simpa [plainL] using hp
    simp only [List.length_cons] at hl
    have es : stp s (some t) c = some (none, s, some (t ++ [c])) := by
      show (if t.length < digitsVal s then _ else _) = _
      rw [if_pos (by omega), if_pos hp'.1]
    have el : lr s (some t) (c :: (cs ++ l)) = (lr s (some (t ++ [c])) (cs ++ l)).pre [] 1 := by
      simp only [lr, es]
      rfl
    show lr s (some t) (c :: (cs ++ l)) = _
    rw [el, lr_text cs l hp'.2 (by simp; omega), Out.pre_pre]
    simp [Nat.add_comm]
/-- what next_frame tells of the signs from its start on -/
inductive Nf where
  | part (at_ : Nat) | wrong (at_ : Nat) | whole (t : List Nat) (at_ : Nat)
def nf (l : List Nat) : Nf :=
  let k := dgs [] l
  if k = l.length then .part k else
  if k = 0 ∨ l[k]? ≠ some 58 then .wrong k else
  let n := digitsVal (l.take k)
  let part := (l.drop (k + 1)).take n
  let e := k + 1 + pls part
  if e = l.length then .part e else
  if l[e]? ≠ some 44 then .wrong e else .whole part (k + 1 + n + 1)
theorem nf_lr (l : List Nat) : match nf l with
    | .part _ => ∃ r, lr [] none l = .read [] r ∧ r = l
    | .wrong k => lr [] none l = .wrong [] k ∧ k < l.length
    | .whole t k => lr [] none l = (lr [] none (l.drop k)).pre [t] k ∧ k ≤ l.length ∧ 0 < k := by
  obtain ⟨h1, h2, h3⟩ := lr_dgs l (s := []) (.inl rfl)
  simp only [List.nil_append] at h1 h2 h3
  have hk := dgs_le l []
  generalize hkk : dgs [] l = k at h1 h2 h3 hk
  unfold nf
  rw [hkk]
  by_cases e1 : k = l.length
  · simp only [e1, if_true]
    rw [h1, e1, List.take_length, List.drop_length]
    exact ⟨l, by simp [lr, glue, Out.pre], rfl⟩
  · simp only [if_neg e1]
    have hlt : k < l.length := by omega
    obtain ⟨c, hc⟩ : ∃ c, l[k]? = some c := ⟨l[k], by simp [hlt]⟩
    have hd : l.drop k = c :: l.drop (k + 1) := by
      rw [List.drop_eq_getElem_cons hlt]
      congr 1
      rw [List.getElem?_eq_getElem hlt] at hc
      exact Option.some.inj hc
    have nd := h3 c _ hd
    by_cases e2 : k = 0 ∨ l[k]? ≠ some 58
    · simp only [if_pos e2]
      refine ⟨?_, hlt⟩
      rw [h1, hd]
      have es : stp (l.take k) none c = none := by
        show (if c = 58 ∧ l.take k ≠ [] then _ else if isDec (l.take k ++ [c]) 200 = true then _ else none) = _
        rw [if_neg, if_neg (by rw [nd]; decide)]
        rintro ⟨rfl, hn⟩
        rcases e2 with rfl | e2
        · exact hn rfl
        · exact e2 hc
      simp only [lr, es]
      simp [Out.pre]
    · simp only [if_neg e2]
      have hk0 : k ≠ 0 := fun z => e2 (.inl z)
      have hc58 : c = 58 := by
        by_cases q : c = 58
        · exact q
        · exact absurd (.inr (by rw [hc]; simpa using q)) e2
      subst hc58
      have hne : l.take k ≠ [] := by
        intro z
        have := congrArg List.length z
        rw [List.length_take, List.length_nil] at this
        omega
      have es : stp (l.take k) none 58 = some (none, l.take k, some []) := by
        show (if 58 = 58 ∧ l.take k ≠ [] then _ else _) = _
        rw [if_pos ⟨rfl, hne⟩]
      have h4 : lr [] none l = (lr (l.take k) (some []) (l.drop (k + 1))).pre [] (k + 1) := by
        rw [h1, hd]
        simp only [lr, es]
        rw [Out.pre_pre]
        rfl
      generalize hn : digitsVal (l.take k) = n
      generalize hm : l.drop (k + 1) = m at h4
      have hml : m.length = l.length - (k + 1) := by rw [← hm, List.length_drop]
      generalize hp : m.take n = part
      have hpm : m = part ++ m.drop n := by rw [← hp, List.take_append_drop]
      have hpl : part.length ≤ n := by rw [← hp, List.length_take]; omega
      have hb := pls_le part
      have hsp : m = part.take (pls part) ++ m.drop (pls part) := by
        have e : part.take (pls part) = m.take (pls part) := by
          rw [← hp, List.take_take, Nat.min_eq_left (by rw [hp]; omega)]
        rw [e, List.take_append_drop]
      have h5 : lr [] none l = (lr (l.take k) (some (part.take (pls part))) (m.drop (pls part))).pre [] (k + 1 + pls part) := by
        rw [h4]
        conv => lhs; rw [hsp]
        rw [lr_text _ _ (pls_plain part) (by rw [hn, List.length_take]; simp; omega), Out.pre_pre, List.length_take, Nat.min_eq_left hb]
        simp
      have hpm2 : part.length ≤ m.length := by rw [← hp, List.length_take]; omega
      by_cases e3 : k + 1 + pls part = l.length
      · simp only [if_pos e3]
        refine ⟨l, ?_, rfl⟩
        have hd0 : m.drop (pls part) = [] := List.drop_eq_nil_of_le (by omega)
        have ht0 : part.take (pls part) = m := by
          rw [hd0, List.append_nil] at hsp
          exact hsp.symm
        rw [h5, hd0, ht0]
        simp only [lr, glue, Out.pre, List.append_nil]
        rw [← hm]
        congr 1
        rw [← hd, List.take_append_drop]
      · simp only [if_neg e3]
        have hlt3 : k + 1 + pls part < l.length := by omega
        have hget : l[k + 1 + pls part]? = m[pls part]? := by rw [← hm, List.getElem?_drop]
        obtain ⟨d, hdd⟩ : ∃ d, m[pls part]? = some d := ⟨m[pls part]'(by omega), by rw [List.getElem?_eq_getElem (by omega)]⟩
        have hmd : m.drop (pls part) = d :: m.drop (pls part + 1) := by
          rw [List.drop_eq_getElem_cons (by omega)]
          congr 1
          rw [List.getElem?_eq_getElem (by omega)] at hdd
          exact Option.some.inj hdd
        rw [hget, hdd]
        have hcase : (pls part = n ∧ part.length = n) ∨ (pls part < n ∧ plainC d = false) := by
          cases hpp : plainL part with
          | true =>
            have e := pls_all hpp
            left
            have : part.length = n := by
              rw [e] at hlt3
              rw [← hp, List.length_take] at hlt3 ⊢
              omega
            omega
          | false =>
            obtain ⟨a, c', b1, b2⟩ := pls_lt hpp
            right
            refine ⟨by omega, ?_⟩
            have : part[pls part]? = m[pls part]? := by
              conv => rhs; rw [hpm]
              rw [List.getElem?_append_left a]
            rw [this, hdd] at b1
            rw [Option.some.inj b1]
            exact b2
        have htl : (part.take (pls part)).length = pls part := by rw [List.length_take, Nat.min_eq_left hb]
        by_cases e4 : d = 44
        · subst e4
          rw [if_neg (by simp)]
          rcases hcase with ⟨q1, q2⟩ | ⟨q1, q2⟩
          · refine ⟨?_, by omega, by omega⟩
            have et : part.take (pls part) = part := List.take_of_length_le (by omega)
            have es2 : stp (l.take k) (some part) 44 = some (some part, [], none) := by
              show (if part.length < digitsVal (l.take k) then _ else _) = _
              rw [if_neg (by rw [hn]; omega)]
              rfl
            have ed : m.drop (pls part + 1) = l.drop (k + 1 + n + 1) := by
              rw [← hm, List.drop_drop]
              congr 1
              omega
            rw [h5, et, hmd]
            simp only [lr, es2]
            rw [Out.pre_pre, ed]
            simp only [Option.toList, List.nil_append]
            congr 1
            omega
          · exact absurd q2 (by decide)
        · rw [if_pos (by simpa using e4)]
          refine ⟨?_, hlt3⟩
          have es2 : stp (l.take k) (some (part.take (pls part))) d = none := by
            show (if (part.take (pls part)).length < digitsVal (l.take k) then _ else if d = 44 then _ else none) = _
            rcases hcase with ⟨q1, q2⟩ | ⟨q1, q2⟩
            · rw [if_neg (by rw [hn, htl]; omega), if_neg e4]
            · rw [if_pos (by rw [hn, htl]; omega), if_neg (by rw [q2]; decide)]
          rw [h5, hmd]
          simp only [lr, es2]
          simp [Out.pre]
end Ag

end
/-! ## Kit -/
section
set_option linter.all false
set_option maxRecDepth 100000
namespace Ag
open PySem PySem.Spec PyProof.Rows L2
open SX (S S_len S_cat S_inj)
section
variable {J : It} {n : Nat} {G : Hp → Prop} {Y : Nat → Hp → V → Hp → Prop}
/-- a comprehension without tests: R stays, each item is as v says of its place -/
theorem lc_all (w : Walk J n G Y) {g : TG} {te : TE} {vs : List Nat} {σ : L2.St} {H1 : Hp} {D : Addr} {Qd : Hp → Prop} (R : Hp → Prop) (v : Nat → V → Prop) (hn : n ≤ 16000000) (r0 : R H1) (rD : ∀ H o, R H → R (upd H D o)) (hG : ∀ H, R H → G H)
    (hs : ∀ i x H H' xs (k : VK), i < n → R H → H D = some (.lst xs) → Y i H x H' → (∀ y H4, v i y → R H4 → H4 D = some (.lst xs) → k y H4) → g x (wipe σ vs) H' fun σ2 H2 => wipe σ2 vs = wipe σ vs ∧ te σ2 H2 k)
    (hd : ∀ H xs, xs.length = n → (∀ i y, xs[i]? = some y → v i y) → R H → H D = some (.lst xs) → Qd H) :
    ∃ W : Nat → Nat → Hp → Prop, (∃ m, W 0 m (upd H1 D (.lst []))) ∧ ∀ i m H, W i m H →
      (J.stop i H ∧ Qd H) ∨ (J.go i H ∧ ∃ Nx : Hp → Prop, (∀ H', Nx H' → ∃ m', m' < m ∧ W (i + 1) m' H') ∧ ∀ x H', J.yld i H x H' → g x (wipe σ vs) H' fun σ2 H2 => wipe σ2 vs = wipe σ vs ∧ tYes σ2 H2 fun b H3 =>
        if b = true then te σ2 H3 fun y H4 => ∃ acc, H4 D = some (.lst acc) ∧ acc.length < sizeLine ∧ Nx (upd H4 D (.lst (acc ++ [y]))) else Nx H3) := by
  refine lc_it (g := g) (tt := tYes) (te := te) (vs := vs) (σ := σ) w (fun i H => ∃ xs : List V, xs.length = i ∧ (∀ j y, xs[j]? = some y → v j y) ∧ R H ∧ H D = some (.lst xs)) ⟨[], rfl, fun j y h => by simp at h, rD _ _ r0, upd_same⟩ (fun i H hi p => ?_) (fun i x H H' hi p hy => ?_) (fun H p => ?_)
  · obtain ⟨xs, _, _, r, _⟩ := p
    exact hG H r
  · obtain ⟨xs, hl, hv, r, hD⟩ := p
    refine hs i x H H' xs _ hi r hD hy ?_
    rintro y H4 hvy r4 h4
    refine ⟨xs, h4, ?_, xs ++ [y], by simp [hl], fun j z hz => ?_, rD _ _ r4, upd_same⟩
    · rw [sizeLine_eq]; omega
    · rw [List.getElem?_append] at hz
      split at hz
      · exact hv j z hz
      · rename_i hj
        have e : j - xs.length = 0 := by
          cases hq : j - xs.length with
          | zero => rfl
          | succ k => rw [hq] at hz; simp at hz
        rw [e] at hz
        simp at hz
        subst hz
        have : j = i := by omega
        subst this
        exact hvy
  · obtain ⟨xs, hl, hv, r, hD⟩ := p
    exact hd H xs hl hv r hD
end
/-! ### cuts of texts -/
theorem sIx_at {n d a : Nat} (h : a ≤ n) : HT.sIx n d (some (a : Int)) = a := by rw [HT.sIx_nat, Nat.min_eq_left h]
theorem cut_S {l : List Nat} {a b : Nat} (ha : a ≤ l.length) : cutS (S l) (some (a : Int)) (some (b : Int)) = S ((l.drop a).take (b - a)) := by
  unfold cutS
  rw [S_len, sIx_at ha, HT.sIx_nat]
  congr 1
  congr 1
  by_cases hb : b ≤ l.length
  · rw [Nat.min_eq_left hb]
  · rw [Nat.min_eq_right (by omega), List.take_of_length_le (by rw [List.length_drop]; exact Nat.le_refl _), List.take_of_length_le (by rw [List.length_drop]; omega)]
theorem cut_from {l : List Nat} {a : Nat} (ha : a ≤ l.length) : cutS (S l) (some (a : Int)) none = S (l.drop a) := by
  unfold cutS
  rw [S_len, sIx_at ha, HT.sIx_none]
  congr 1
  congr 1
  rw [List.take_of_length_le (by rw [List.length_drop]; exact Nat.le_refl _)]
theorem cut_to {l : List Nat} {b : Nat} : cutS (S l) none (some (b : Int)) = S (l.take b) := by
  unfold cutS
  rw [S_len, HT.sIx_none, HT.sIx_nat, List.drop_zero, Nat.sub_zero]
  congr 1
  congr 1
  by_cases hb : b ≤ l.length
  · rw [Nat.min_eq_left hb]
  · rw [Nat.min_eq_right (by omega), List.take_of_length_le (Nat.le_refl _), List.take_of_length_le (by omega)]
end Ag

end
/-! ## Kit2 -/
section
set_option linter.all false
set_option maxRecDepth 100000
namespace Ag
open PySem PySem.Spec PyProof.Rows L2
open SX (S S_len S_cat S_inj)
/-! ### str * int -/
theorem foldl_cps (z : List Nat) (n : Nat) : (List.replicate n (S z).cps).foldl (· ++ ·) #[] = (List.replicate n z).flatten.toArray := by
  have key : ∀ (n : Nat) (acc : Array Nat), (List.replicate n (S z).cps).foldl (· ++ ·) acc = acc ++ (List.replicate n z).flatten.toArray := by
    intro n
    induction n with
    | zero => intro acc; simp
    | succ n ih =>
      intro acc
      rw [List.replicate_succ, List.foldl_cons, ih, List.replicate_succ, List.flatten_cons]
      apply Array.ext'
      simp
  rw [key n #[]]
  simp
theorem mul_S (z : List Nat) (n : Nat) : Txt.mul (S z) (n : Int) = S (List.replicate n z).flatten := by
  unfold Txt.mul
  by_cases h0 : n = 0
  · subst h0
    rfl
  · rw [if_neg (by omega)]
    split
    · rename_i h
      simp only [Bool.or_eq_true, beq_iff_eq] at h
      rcases h with h | h
      · have : n = 1 := by omega
        subst this
        simp
      · rw [S_len] at h
        have : z = [] := List.length_eq_zero_iff.mp h
        subst this
        simp
    · rw [show ((n : Int)).toNat = n by simp, foldl_cps]
theorem op_rep_str {X : Cx} : OpR X (binaryOp .Mult) (fun x y H Q => ∃ (z : List Nat) (n : Nat), x = .str (S z) ∧ y = .int (n : Int) ∧ z.length * n ≤ 16000000 ∧ n ≤ 16000000 ∧ z.length ≤ 16000000 ∧ Q (.str (S (List.replicate n z).flatten)) H) := by
  intro pins s σ H x y v u Q I rx ry h
  obtain ⟨z, n, rfl, rfl, h1, h2, h3, q⟩ := h
  obtain ⟨t, rfl⟩ := rx
  obtain ⟨t', rfl⟩ := ry
  refine SB.mul ⟨?_, fun _ _ => ?_, fun _ _ => ?_⟩ (fun a k => ?_)
  · rw [Bool.or_eq_false_iff, decide_eq_false_iff_not, decide_eq_false_iff_not]
    omega
  · rename_i a b
    have hn : (1 : Int) ≤ (n : Int) := by omega
    have : (2 ^ 63 - 1) / (n : Int) ≥ (2 ^ 63 - 1) / 16000000 := by
      rw [ge_iff_le, Int.le_ediv_iff_mul_le (by omega)]
      have e : ((2 ^ 63 - 1 : Int) / 16000000) = 576460752303 := by decide
      rw [e]
      omega
    have e : ((2 ^ 63 - 1 : Int) / 16000000) = 576460752303 := by decide
    rw [S_len]
    omega
  · rw [S_len]
    show decide (z.length * (n : Int).toNat > sizeLine) = false
    rw [decide_eq_false_iff_not, sizeLine_eq, show ((n : Int)).toNat = n by simp]
    omega
  · rw [mul_S]
    exact ⟨.str _, H, I.tok _, ⟨_, rfl⟩, q⟩
/-! ### for i, c in enumerate(text) -/
def Ites (x : Str) : It :=
  ⟨fun i _ => i < x.cps.size, fun i H v H' => ∃ T c, v = .ref T ∧ H T = none ∧ H' = upd H T (.tup [.int (i : Nat), .str ⟨#[c]⟩]) ∧ x.cps[i]? = some c, fun i _ => i = x.cps.size⟩
theorem walk_enumS {x : Str} : Walk (Ites x) x.cps.size (fun _ => True) (fun i H v H' => ∃ T c, v = .ref T ∧ H T = none ∧ H' = upd H T (.tup [.int (i : Nat), .str ⟨#[c]⟩]) ∧ x.cps[i]? = some c) :=
  ⟨fun _ _ h _ => h, fun _ _ => rfl, fun _ _ _ _ _ _ z => z⟩
theorem draws_str {P : Program} {w : World} {A : Around} (hh : A.handled = none) (it : Addr) (x : Str) (t : Tok) {ty : String} (hty : ty = "str_ascii_iterator" ∨ ty = "str_iterator") :
    Draws P w A it [it] x.cps.size (fun i v => ∃ c u, x.cps[i]? = some c ∧ v = .str ⟨#[c]⟩ u) (fun i h => h.IsStrIter it ty x t i) := by
  rcases hty with rfl | rfl
  · exact Draws.strAscii hh it x t
  · exact Draws.strWide hh it x t
theorem turn_enumS {P : Program} {w : World} {K : PySem.W.Frag} {elts : List Expr} {kk : Nat} {tpos : Pos} (x : Str) (t : Tok) (ty : String) (hty : ty = "str_ascii_iterator" ∨ ty = "str_iterator") (e it : Addr) :
    Turn P w K (.Tuple elts kk tpos) (Ites x) [e, it] e (fun i h => (∃ old, IsEnum h e it ((i : Nat) : Int) old) ∧ h.IsStrIter it ty x t i ∧ e ≠ it) where
  mem := List.mem_cons_self
  obj := by
    rintro i h ⟨⟨old, he⟩, ⟨o, ho, hc, hd⟩, _⟩ b hb
    rcases List.mem_cons.mp hb with rfl | hb
    · exact ⟨_, he, fun v q => by cases q⟩
    · obtain rfl := List.mem_singleton.mp hb
      exact ⟨o, ho, fun v q => by rw [hd] at q; cases q⟩
  keep := by
    rintro i h h' ⟨⟨old, he⟩, ⟨o, ho, r⟩, hne⟩ k
    exact ⟨⟨old, k e List.mem_cons_self _ he⟩, ⟨o, k it (List.mem_cons_of_mem _ List.mem_cons_self) o ho, r⟩, hne⟩
  item := by
    intro X hP hw hK hc i pins s σ H E I hf st hg
    subst hP hw hK
    obtain ⟨⟨old, he⟩, hit, hne⟩ := st
    have hel : e < s.heap.objs.size := Heap.lt_size he
    have hil : it < s.heap.objs.size := by obtain ⟨_, q, _⟩ := hit; exact Heap.lt_size q
    have D := draws_str (P := X.prog) (w := X.w) (A := X.A.in1) (I.ok.hd hc) it x t hty
    refine wpAny_pyNext_enum_itemD D he hit hg hne (fun z => hne (List.mem_singleton.mp z)) ?_
    rintro v h' tk ⟨c, u, hcx, rfl⟩ ho hit' hT hsz hk
    refine ⟨_, rfl, wpAny_letOwnedTupleGo_enum (s := { s with heap := h', toks := tk + 1 }) ho ?_⟩
    intro h'' he' sb
    have hT2 : h''.get? s.heap.objs.size = some { cls := .type "tuple", data := .seq #[.int i tk, .str ⟨#[c]⟩ u] } := (sb.2 _ (Nat.ne_of_gt hel)).trans hT
    have ok : ObjOk X.prog X.w (upd H s.heap.objs.size (.tup [.int (i : Nat), .str ⟨#[c]⟩])) h'' s.heap.objs.size (.tup [.int (i : Nat), .str ⟨#[c]⟩]) :=
      ⟨by show 2 ≤ sizeLine; decide, [.int i tk, .str ⟨#[c]⟩ u], .cons ⟨_, rfl⟩ (.cons ⟨_, rfl⟩ .nil), ⟨_, hT2, rfl, _, rfl⟩⟩
    have I1 : Inv X pins σ (upd H s.heap.objs.size (.tup [.int (i : Nat), .str ⟨#[c]⟩])) { s with heap := h'', toks := tk + 1 } :=
      I.turnedNew (ch := [e, it]) (fun b ob hb q => (sb.2 b (fun z => hb (by rw [z]; exact List.mem_cons_self))).trans (hk b ob (fun z => hb (by rw [z]; exact List.mem_cons_self)) (fun z => hb (by rw [z]; exact List.mem_cons_of_mem _ List.mem_cons_self)) q)) hf (Nat.le_refl _) ok
    have e1 : ((i + 1 : Nat) : Int) = (i : Int) + 1 := by omega
    have hit2 : h''.IsStrIter it ty x t (i + 1) := by
      obtain ⟨o, q1, q2⟩ := hit'
      exact ⟨o, (sb.2 it hne.symm).trans q1, q2⟩
    refine ⟨.ref s.heap.objs.size, _, I1, rfl, ⟨_, c, rfl, I.hok.fresh (Nat.le_refl _), rfl, hcx⟩, ⟨⟨_, by rw [e1]; exact he'⟩, hit2, hne⟩, fun b hb => ?_⟩
    have hb' : b < s.heap.objs.size := by
      rcases List.mem_cons.mp hb with rfl | z
      · exact hel
      · rw [List.mem_singleton.mp z]
        exact hil
    rw [upd_ne (Nat.ne_of_lt hb')]
    exact (hf b hb).1
  done := by
    intro X hP hw hK hc i pins s σ H E I hf st hg
    subst hP hw hK
    obtain ⟨⟨old, he⟩, hit, hne⟩ := st
    obtain ⟨f0, f1, f2, f3, f4, f5⟩ := hf it (List.mem_cons_of_mem _ List.mem_cons_self)
    obtain rfl : i = x.cps.size := hg
    have D := draws_str (P := X.prog) (w := X.w) (A := X.A.in1) (I.ok.hd hc) it x t hty
    exact wpAny_pyNext_enum_endD D he hit fun h' eb => ⟨rfl, I.turned (t' := s.toks) (fun b o hb q => eb b o hb q) f0 f1 f3 f4 f5⟩
  self := fun A i s Q E st h => st.1.elim fun _ z => wpAny_pyIter_enum z h
def iEnumS (ta : TA) : TI := fun σ H R => ta σ H fun vs H1 => ∃ x, vs = [.str x] ∧ R (Ites x) H1
theorem pi_enumS {X : Cx} {e : Expr} {ta : TA} {p pos tpos : Pos} {elts : List Expr} {kk : Nat} (hg : Gl X "enumerate") (hm : X.mg "enumerate" = none) (ha : PA X [e] ta) (hs : starEach [e] X.env = [(false, eval e X.env)] := by rfl) :
    PI X (.Tuple elts kk tpos) (.Call (.Name "enumerate" p) [e] [] pos) (iEnumS ta) := by
  constructor
  intro pins s σ H R I h
  refine Call_ (ld_blt I hg hm boot_enumerate (PyProof.Rows.callWith_type1 (thn (ha.run pos pins s σ H _ I h) ?_) hs rfl))
  rintro us s1 ⟨vs, H1, I1, r1, x, rfl, q⟩
  obtain ⟨u, rfl, t, rfl⟩ := vals1 r1
  refine call_enumerate_str fun h' he hit hsz hk => wpAny_pyIter_enum he ?_
  have I2 : Inv X pins σ H1 { s1 with heap := h' } := I1.kept (t' := s1.toks) hk
  have hty : strIterType x = "str_ascii_iterator" ∨ strIterType x = "str_iterator" := by
    unfold strIterType
    split
    · exact .inl rfl
    · exact .inr rfl
  refine ⟨s1.heap.objs.size + 1, [s1.heap.objs.size + 1, s1.heap.objs.size], _, _, H1, rfl, I2, turn_enumS x t _ hty (s1.heap.objs.size + 1) s1.heap.objs.size, ⟨⟨.none, he⟩, hit, Nat.succ_ne_self _⟩, ?_, q⟩
  intro b hb
  have hle : s1.heap.objs.size ≤ b := by
    rcases List.mem_cons.mp hb with rfl | z
    · exact Nat.le_succ _
    · rw [List.mem_singleton.mp z]
      exact Nat.le_refl _
  exact I1.fpOk hle (I1.hok.fresh hle)
/-- a target of two names, where a comprehension's block runs -/
theorem pg_two {X : Cx} (K : PySem.W.Frag) {i j : Nat} {x y : Str} {px py pt : Pos} {k : Nat} (hc : X.calm = true) (hN : X.N.Nodup) (hi : X.N[i]? = some x) (hj : X.N[j]? = some y) (hx : X.env.scope.names.lookup x = some .local) (hy : X.env.scope.names.lookup y = some .local) (hK : X.K = K) :
    PG X (.Tuple [.Name x px, .Name y py] k pt) (gTup K 2 (gCons (gName i) (gCons (gName j) gNil))) := by
  subst hK
  exact pg_tup hc (pgs_cons (pg_name hN hi (.inl hx) (.inr hx)) (pgs_cons (pg_name hN hj (.inl hy) (.inr hy)) pgs_nil))
end Ag

end
/-! ## Kit3 -/
section
set_option linter.all false
set_option maxRecDepth 100000
namespace Ag
open PySem PySem.Spec PyProof.Rows L2
open SX (S S_len S_cat S_inj)
def chars (z : List Nat) : List V := z.map fun c => V.str (S [c])
theorem call_list_S {X : Cx} (hc : X.calm = true) : CallR X (.type "list") (fun xs H Q => ∃ z : List Nat, xs = [.str (S z)] ∧ z.length ≤ 16000000 ∧ ∀ l, H l = none → Q (.ref l) (upd H l (.lst (chars z)))) := by
  intro pins s σ H xs us Q I r h
  obtain ⟨z, rfl, hz, q⟩ := h
  obtain ⟨u, rfl, t, rfl⟩ := vals1 r
  have hsz : (S z).cps.size = z.length := by simp
  refine PySem.call_list_str (I.ok.hd hc) (S z) t (fun h' tk acc c' kp e ha => ?_) (by rw [hsz, sizeLine_eq]; omega)
  have rv : Vals (chars z) acc.toList := by
    refine L2.vals_of_at ?_ ?_
    · have e1 := ha.1
      rw [hsz] at e1
      unfold chars
      rw [List.length_map, Array.length_toList]
      exact e1.symm
    · intro j x u hx hu
      obtain ⟨c, tk', hc', rfl⟩ := ha.2 j u (by simpa using hu)
      unfold chars at hx
      rw [List.getElem?_map] at hx
      have : z[j]? = some c := by simpa using hc'
      rw [this] at hx
      cases hx
      exact ⟨_, rfl⟩
  refine ⟨.ref s.heap.objs.size, upd H s.heap.objs.size (.lst (chars z)), I.laid kp (Nat.le_refl _) ⟨?_, acc.toList, c', rv, ?_⟩, rfl, q _ (I.hok.fresh (Nat.le_refl _))⟩
  · unfold chars
    rw [List.length_map, sizeLine_eq]
    omega
  · simpa using e
end Ag

end
/-! ## End0 -/
section
set_option linter.all false
set_option maxRecDepth 100000
namespace Ag
open PySem PySem.Spec PyProof.Rows L2
/-! ### the end of a law's row, over FnG -/
/-- the heap at the law's entry: the script alone is known -/
def hScr (K : PySem.W.Frag) (a : Addr) (o : Obj) (xs : List V) : Hp := fun b => if b = a ∧ K.lookup a = none then some (.frz o (.lst xs)) else none
theorem hScr_at {K : PySem.W.Frag} {a b : Addr} {o : Obj} {xs : List V} {u : HO} (h : hScr K a o xs b = some u) : b = a ∧ K.lookup a = none ∧ u = .frz o (.lst xs) := by
  unfold hScr at h
  split at h
  · rename_i c
    exact ⟨c.1, c.2, (Option.some.inj h).symm⟩
  · cases h
theorem hScr_only {K : PySem.W.Frag} {a b : Addr} {o : Obj} {xs : List V} : hScr K a o xs b = none ∨ hScr K a o xs b = some (.frz o (.lst xs)) := by
  cases h : hScr K a o xs b with
  | none => exact .inl rfl
  | some u => exact .inr (by rw [(hScr_at h).2.2])
theorem lawG {P : Program} {w : World} {K : PySem.W.Frag} {mg mb : Str → Option Value} {k : Nat} {fa a : Addr} {fd : FuncData} {x : Str} {sp : Sp} {s₁ : Shared} {vs : List Value} {ns : List Int}
    (KX : K.In s₁.heap) (hns : s₁.heap.Ns mainGlobals mg) (hb : s₁.heap.Ns builtinsNs mb) (hbb : ∀ x : Str, x ≠ "__name__" → mb x = bootBuiltins x) (hlim : s₁.heap.NoLimit) (gens : s₁.gens = #[])
    (ha : s₁.heap.get? a = some { cls := .type "list", data := .seq vs.toArray }) (hi : IntsAre vs ns) (hl : ns.length ≤ sizeLine) (hr : Room k callerA)
    (F : ∀ base : Heap, K.In base → base.Ns mainGlobals mg → FnG P w K mg base k fa fd [x] sp) (hbind : ∀ (s : Shared) (u : Value), BindsTo s fd ⟨[u], []⟩ [(x, u)])
    (hsp : ∀ H : Hp, SqL K H a (ns.map V.int) → sp [.ref a] H (fun v _ => v = .bl true) E0) :
    codeAny (model P w) callerA (.call (.ref fa) ⟨[.ref a], []⟩) (fun r s' => r = .ok (.ret (.bool true)) ∧ OldK s₁.heap s'.heap ∧ s'.os = s₁.os ∧ AllBare s'.gens) s₁ := by
  generalize hH : hScr K a { cls := .type "list", data := .seq vs.toArray } (ns.map V.int) = H
  have at_ : ∀ {b u}, H b = some u → b = a ∧ K.lookup a = none ∧ u = .frz { cls := .type "list", data := .seq vs.toArray } (.lst (ns.map V.int)) := fun h => hScr_at (by rw [hH]; exact h)
  have rv : Vals (ns.map V.int) vs := vals_ints hi
  have hok : HOk P w H s₁.heap := fun b u e => by
    obtain ⟨rfl, _, rfl⟩ := at_ e
    exact ⟨ha, by rw [List.length_map]; exact hl, vs, _, rv, ha⟩
  have sq : SqL K H a (ns.map V.int) := by
    cases hk : K.lookup a with
    | some o =>
      have e := KX a o hk
      rw [ha] at e
      cases e
      exact .inr ⟨_, vs.toArray, _, hk, rfl, rfl, rfl, by rw [List.size_toArray, hi.length]; exact hl, by simpa using rv⟩
    | none => exact .inl (.inr ⟨_, by rw [← hH]; exact if_pos ⟨rfl, hk⟩⟩)
  have keepB : ∀ {b : Addr} {o : Obj}, s₁.heap.get? b = some o → H b = none → (hidT s₁.heap H).get? b = some o := fun e n => hidT_get e n
  have dicts : ∀ {b : Addr} {o : Obj} {es : Array DictEntry} {ep : Nat}, s₁.heap.get? b = some o → o.data = .dict es ep → H b = none := by
    intro b o es ep e d
    cases q : H b with
    | none => rfl
    | some u =>
      obtain ⟨rfl, _, _⟩ := at_ q
      rw [ha] at e
      cases e
      cases d
  have nsB : ∀ {b : Addr} {m : Str → Option Value}, s₁.heap.Ns b m → (hidT s₁.heap H).Ns b m := by
    rintro b m ⟨o, es, ep, e, d, r⟩
    exact ⟨o, es, ep, keepB e (dicts e d), d, r⟩
  have kinB : K.In (hidT s₁.heap H) := by
    intro b o e
    refine keepB (KX b o e) ?_
    cases q : H b with
    | none => rfl
    | some u =>
      obtain ⟨rfl, n, _⟩ := at_ q
      rw [n] at e
      cases e
  have modB : Mod K mg (hidT s₁.heap H) := ⟨kinB, nsB hns, ⟨mb, nsB hb, hbb⟩, hlim.elim fun mc z => ⟨mc, nsB z.1, z.2⟩⟩
  have env : Env0 P w K mg (hidT s₁.heap H) callerA [] s₁ H :=
    ⟨rfl, modB, fun _ _ e => of_hidT e, Nat.le_of_eq (hidT_size s₁.heap H), trivial, (fun b z => by cases z), hok, .of_eq gens⟩
  refine codeAny_mono ((F _ kinB (nsB hns)).run callerA [] s₁ H ⟨[.ref a], []⟩ [.ref a] [.ref a] _ _ hr rfl env (hbind s₁ (.ref a)) (.cons rfl .nil) (hsp H sq)) ?_
  intro r s' h
  match r, h with
  | .error e, h => exact h.elim
  | .ok (.ret u), h =>
    obtain ⟨v, H', os, bare, un, hok', r', rfl⟩ := h
    obtain rfl : u = Value.bool true := r'
    refine ⟨rfl, OldK.of_keep fun b o e => ?_, os, bare⟩
    cases q : H b with
    | none => exact un.keep b o e q (fun z => by cases z) (fun z => by cases z)
    | some u =>
      obtain ⟨rfl, _, rfl⟩ := at_ q
      have e1 := (hok b _ q).1
      have e2 := (hok' b _ (un.frzs b _ _ q)).1
      rw [e] at e1
      rw [Option.some.inj e1]
      exact e2
theorem walkG {l : PySem.W.OpenLaw} {n k : Nat} {q : Program} {loose : List Str} {XP : (Str → Option Value) → Heap → Prop} {YP : World → Heap → Prop} {d : DefRec} {K : Params → PySem.W.Frag} {sp : PySem.W.Frag → Sp} {x : Str}
    (hn : l.most = some n) (hn2 : n ≤ sizeLine) (hdf : d.params.defaults = []) (hr : Room k callerA) (hY : ∀ (w : World) (h : Heap), YP w h → (K w.params).In h)
    (F : ∀ (w : World) (mg : Str → Option Value) (fa : Addr) (h : Heap), (K w.params).In h → h.Ns mainGlobals mg → mg d.name = some (.ref fa) →
      ∃ fd : FuncData, (∀ (s : Shared) (u : Value), BindsTo s fd ⟨[u], []⟩ [(x, u)]) ∧ ∀ base : Heap, (K w.params).In base → base.Ns mainGlobals mg → FnG l.prog w (K w.params) mg base k fa fd [x] (sp (K w.params)))
    (hsp : ∀ (K : PySem.W.Frag) (H : Hp) (a : Addr) (ns : List Int), ns.length ≤ n → SqL K H a (ns.map V.int) → sp K [.ref a] H (fun v _ => v = .bl true) E0) :
    PySem.W.WalkO q loose XP YP l.row.toRowW d [] (fun f vs => PySem.call f vs) := by
  refine Att.attach_call hn hdf ?_
  intro w s₀ s₁ mg mb fa o pm cd doc a vs ns G Y ho hd hcd hmg hobj hints hlen hg
  obtain ⟨fd, hb, hF⟩ := F w mg fa _ (hY w _ Y) G.T.g hmg
  exact lawG (hY w _ Y) G.T.g G.T.b G.T.builtins G.T.nolimit hg hobj hints (Nat.le_trans hlen hn2) hr hF hb (fun H sq => hsp _ H a ns hlen sq)
end Ag

end
/-! ## Sel -/
section
set_option linter.all false
set_option maxRecDepth 100000
namespace Ag
open PySem PySem.Spec PyProof.Rows L2
/-- a comprehension with a pure test and a pure value at each place, under which things may be made -/
theorem lc_sel {J : It} {n : Nat} {G : Hp → Prop} {Y : Nat → Hp → V → Hp → Prop} (w : Walk J n G Y) {g : TG} {tt : TT} {te : TE} {vs : List Nat} {σ : L2.St} {H1 : Hp} {D : Addr} {Qd : Hp → Prop}
    (t : Nat → Bool) (e : Nat → V) (hn : n ≤ 16000000) (hD : H1 D = none) (hG : ∀ H, Same H1 H → G H)
    (hs : ∀ i x H H' (k : VK) (k0 : Hp → Prop), i < n → Same H1 H → Y i H x H' → (t i = true → ∀ H4, Same H H4 → k (e i) H4) → (t i = false → ∀ H4, Same H H4 → k0 H4) →
      g x (wipe σ vs) H' fun σ2 H2 => wipe σ2 vs = wipe σ vs ∧ tt σ2 H2 fun b H3 => if b = true then te σ2 H3 k else k0 H3)
    (hd : ∀ H, Same H1 H → H D = some (.lst (((List.range n).filter t).map e)) → Qd H) :
    ∃ W : Nat → Nat → Hp → Prop, (∃ m, W 0 m (upd H1 D (.lst []))) ∧ ∀ i m H, W i m H →
      (J.stop i H ∧ Qd H) ∨ (J.go i H ∧ ∃ Nx : Hp → Prop, (∀ H', Nx H' → ∃ m', m' < m ∧ W (i + 1) m' H') ∧ ∀ x H', J.yld i H x H' → g x (wipe σ vs) H' fun σ2 H2 => wipe σ2 vs = wipe σ vs ∧ tt σ2 H2 fun b H3 =>
        if b = true then te σ2 H3 fun y H4 => ∃ acc, H4 D = some (.lst acc) ∧ acc.length < sizeLine ∧ Nx (upd H4 D (.lst (acc ++ [y]))) else Nx H3) := by
  have put : ∀ (H : Hp) (o : HO), Same H1 H → Same H1 (upd H D o) := fun H o s b u eb => by
    rw [upd_ne (ne_of_none eb hD)]
    exact s b u eb
  have step : ∀ i, (List.range (i + 1)).filter t = (List.range i).filter t ++ (if t i = true then [i] else []) := fun i => by
    rw [List.range_succ, List.filter_append]
    cases h : t i <;> simp [h]
  refine lc_it (g := g) (tt := tt) (te := te) (vs := vs) (σ := σ) w (fun i H => Same H1 H ∧ H D = some (.lst (((List.range i).filter t).map e))) ⟨put _ _ (Same.refl _), by simpa using upd_same⟩ (fun i H _ h => hG H h.1) (fun i x H H' hi h hy => ?_) (fun H h => hd H h.1 h.2)
  obtain ⟨s1, h1⟩ := h
  have hl : (((List.range i).filter t).map e).length ≤ i := by
    rw [List.length_map]
    exact Nat.le_trans (List.length_filter_le _ _) (by rw [List.length_range]; exact Nat.le_refl _)
  refine hs i x H H' _ _ hi s1 hy (fun ht H4 s4 => ?_) (fun ht H4 s4 => ?_)
  · refine ⟨_, s4 _ _ h1, by rw [sizeLine_eq]; omega, put _ _ (s1.trans s4), ?_⟩
    rw [upd_same, step, if_pos ht, List.map_append]
    rfl
  · refine ⟨s1.trans s4, ?_⟩
    rw [step, if_neg (by rw [ht]; decide), List.append_nil]
    exact s4 _ _ h1
/-- len of a list or a tuple, where a comprehension's block runs -/
def rLenK (K : PySem.W.Frag) : List V → Hp → VK → Prop := fun xs H Q => ∃ p ys, xs = [.ref p] ∧ (SqL K H p ys ∨ SqT K H p ys) ∧ Q (.int ys.length) H
theorem call_lenK {X : Cx} (K : PySem.W.Frag) (hK : X.K = K) : CallR X (.builtin "len") (rLenK K) := by
  subst hK
  exact call_len_seq
theorem filt_all {n : Nat} (e : Nat → V) : ((List.range n).filter fun _ => true).map e = (List.range n).map e := by rw [List.filter_eq_self.mpr fun _ _ => rfl]
/-- bools by place -/
theorem bls_map {n : Nat} (b : Nat → Bool) : (List.range n).map (fun i => V.bl (b i)) = ((List.range n).map b).map V.bl := by rw [List.map_map]; rfl
theorem all_at {α : Type} (l : List α) (t : α → Bool) (d : α) : ((List.range l.length).map fun i => t (l.getD i d)).all id = l.all t := by
  induction l with
  | nil => rfl
  | cons a l ih =>
    rw [List.length_cons, List.range_succ_eq_map, List.map_cons, List.all_cons, List.map_map, List.all_cons, ← ih]
    rfl
theorem none_at {α : Type} (l : List α) (t : α → Bool) (d : α) : decide (((List.range l.length).filter fun i => !t (l.getD i d)) = []) = l.all t := by
  rw [Bool.eq_iff_iff, decide_eq_true_eq, List.filter_eq_nil_iff, List.all_eq_true]
  constructor
  · intro h a ha
    obtain ⟨i, hi, rfl⟩ := List.mem_iff_getElem.mp ha
    have := h i (List.mem_range.mpr hi)
    rw [List.getD_eq_getElem?_getD, List.getElem?_eq_getElem hi] at this
    simpa using this
  · intro h i hi
    have hi := List.mem_range.mp hi
    rw [List.getD_eq_getElem?_getD, List.getElem?_eq_getElem hi]
    simpa using h _ (List.getElem_mem hi)
theorem eqv_map_nil {α : Type} (l : List α) (e : α → PyData) : PyData.eqv (.list (l.map e)) (.list []) = decide (l = []) := by
  cases l <;> simp [PyData.eqv, PyData.eqvAll]
theorem dp_const {K : PySem.W.Frag} {H : Hp} {α : Type} : ∀ l : List α, DpAll K H (l.map fun _ => V.int 1) (l.map fun _ => PyData.int 1)
  | [] => .nil
  | _ :: l => .cons (.int 1) (dp_const l)
end Ag

end
/-! ## Fair -/
section
/-! turns by weights: a ready turn that is due first keeps every turn in its window -/
namespace Fair
def sumN : Nat → (Nat → Nat) → Nat
  | 0, _ => 0
  | n + 1, f => sumN n f + f n
theorem sum_le {n : Nat} {f g : Nat → Nat} (h : ∀ i, i < n → f i ≤ g i) : sumN n f ≤ sumN n g := by
  induction n with
  | zero => exact Nat.le_refl _
  | succ n ih => exact Nat.add_le_add (ih fun i hi => h i (by omega)) (h n (by omega))
theorem sum_congr {n : Nat} {f g : Nat → Nat} (h : ∀ i, i < n → f i = g i) : sumN n f = sumN n g := by
  induction n with
  | zero => rfl
  | succ n ih =>
    show sumN n f + f n = sumN n g + g n
    rw [ih fun i hi => h i (by omega), h n (by omega)]
theorem sum_mul (n : Nat) (f : Nat → Nat) (c : Nat) : sumN n (fun i => f i * c) = sumN n f * c := by
  induction n with
  | zero => show 0 = 0 * c; rw [Nat.zero_mul]
  | succ n ih =>
    show sumN n (fun i => f i * c) + f n * c = (sumN n f + f n) * c
    rw [ih, Nat.add_mul]
theorem sum_pos {n : Nat} {f : Nat → Nat} {i : Nat} (hi : i < n) : f i ≤ sumN n f := by
  induction n with
  | zero => omega
  | succ n ih =>
    show f i ≤ sumN n f + f n
    by_cases e : i = n
    · subst e; omega
    · have := ih (by omega); omega
/-- one more at i -/
def bump (k : Nat → Nat) (i : Nat) : Nat → Nat := fun j => if j = i then k j + 1 else k j
theorem sum_bump {n i : Nat} (k : Nat → Nat) (hi : i < n) : sumN n (bump k i) = sumN n k + 1 := by
  induction n with
  | zero => omega
  | succ n ih =>
    show sumN n (bump k i) + bump k i n = sumN n k + k n + 1
    by_cases e : i = n
    · subst e
      have : sumN i (bump k i) = sumN i k := sum_congr fun j hj => by unfold bump; rw [if_neg (by omega)]
      rw [this]
      unfold bump
      rw [if_pos rfl]
      omega
    · rw [ih (by omega)]
      unfold bump
      rw [if_neg (by omega)]
      omega
/-- one fewer at i -/
theorem sum_less {n i : Nat} {f g : Nat → Nat} (hi : i < n) (h : ∀ j, j < n → j ≠ i → f j ≤ g j) (hf : f i + 1 ≤ g i) : sumN n f + 1 ≤ sumN n g := by
  have e : sumN n (bump f i) = sumN n f + 1 := sum_bump f hi
  rw [← e]
  refine sum_le fun j hj => ?_
  unfold bump
  by_cases q : j = i
  · subst q; rw [if_pos rfl]; exact hf
  · rw [if_neg q]; exact h j hj q
section
variable (n : Nat) (w : Nat → Nat)
def tot : Nat := sumN n w
/-- the next turn of i is ready at t -/
def rdy (k : Nat → Nat) (i t : Nat) : Prop := k i * tot n w / w i < t
def due (k : Nat → Nat) (i : Nat) : Nat := ((k i + 1) * tot n w + w i - 1) / w i
/-- the one that is given the turn at t -/
structure Pick (k : Nat → Nat) (t i : Nat) : Prop where
  lt : i < n
  rd : rdy n w k i t
  least : ∀ j, j < n → rdy n w k j t → due n w k i < due n w k j ∨ (due n w k i = due n w k j ∧ i ≤ j)
theorem Pick.uniq {k : Nat → Nat} {t i j : Nat} (a : Pick n w k t i) (b : Pick n w k t j) : i = j := by
  have h1 := a.least j b.lt b.rd
  have h2 := b.least i a.lt a.rd
  omega
/-- what holds after t turns -/
structure Inv (k : Nat → Nat) (t : Nat) : Prop where
  sum : sumN n k = t
  dem : ∀ d, t ≤ d → sumN n (fun i => d * w i / tot n w - k i) + t ≤ d
  up : ∀ i, i < n → k i ≤ (t * w i + tot n w - 1) / tot n w
variable {n w}
theorem rdy_iff {k : Nat → Nat} {i t : Nat} (hw : 1 ≤ w i) : rdy n w k i t ↔ k i * tot n w < t * w i := by
  unfold rdy
  rw [Nat.div_lt_iff_lt_mul (by omega)]
theorem due_le {k : Nat → Nat} {i d : Nat} (hw : 1 ≤ w i) : due n w k i ≤ d ↔ (k i + 1) * tot n w ≤ d * w i := by
  unfold due
  rw [Nat.div_le_iff_le_mul_add_pred (by omega), Nat.mul_comm (w i) d]
  omega
theorem tot_pos (hn : 1 ≤ n) (hw : ∀ i, i < n → 1 ≤ w i) : 1 ≤ tot n w := Nat.le_trans (hw 0 (by omega)) (sum_pos (f := w) (by omega))
theorem start (hn : 1 ≤ n) (hw : ∀ i, i < n → 1 ≤ w i) : Inv n w (fun _ => 0) 0 := by
  have tp := tot_pos hn hw
  refine ⟨?_, fun d _ => ?_, fun i _ => Nat.zero_le _⟩
  · clear hn hw tp
    induction n with
    | zero => rfl
    | succ n ih => exact ih
  · have h1 : sumN n (fun i => d * w i / tot n w - 0) * tot n w ≤ d * tot n w := by
      rw [← sum_mul]
      refine Nat.le_trans (sum_le (g := fun i => w i * d) fun i _ => ?_) ?_
      · show (d * w i / tot n w - 0) * tot n w ≤ w i * d
        rw [Nat.sub_zero, Nat.mul_comm (w i) d]
        exact Nat.div_mul_le_self _ _
      · rw [sum_mul, Nat.mul_comm]
        exact Nat.le_refl _
    have := Nat.le_of_mul_le_mul_right h1 tp
    omega
/-- at each time some position is ready -/
theorem some_ready (hn : 1 ≤ n) (hw : ∀ i, i < n → 1 ≤ w i) {k : Nat → Nat} {t : Nat} (h : sumN n k = t) : ∃ i, i < n ∧ rdy n w k i (t + 1) := by
  refine Classical.byContradiction fun no => ?_
  have tp := tot_pos hn hw
  have h1 : ∀ i, i < n → w i * (t + 1) ≤ k i * tot n w := fun i hi => by
    refine Nat.le_of_not_lt fun z => no ⟨i, hi, (rdy_iff (hw i hi)).mpr ?_⟩
    rw [Nat.mul_comm (t + 1)]
    exact z
  have h2 := sum_le h1
  rw [sum_mul, sum_mul, h, Nat.mul_comm] at h2
  have := Nat.le_of_mul_le_mul_right (show (t + 1) * tot n w ≤ t * tot n w from h2) tp
  omega
/-- no turn is late -/
theorem Inv.dueT {k : Nat → Nat} {t : Nat} (I : Inv n w k t) (hw : ∀ i, i < n → 1 ≤ w i) (hn : 1 ≤ n) {i : Nat} (hi : i < n) : t + 1 ≤ due n w k i := by
  refine Nat.lt_of_not_le fun z => ?_
  have tp := tot_pos hn hw
  have h1 := (due_le (hw i hi)).mp z
  have h2 : k i + 1 ≤ t * w i / tot n w := (Nat.le_div_iff_mul_le (by omega)).mpr h1
  have h3 := I.dem t (Nat.le_refl _)
  have h4 := sum_pos (f := fun i => t * w i / tot n w - k i) hi
  have h4 : t * w i / tot n w - k i ≤ _ := h4
  omega
theorem Inv.low {k : Nat → Nat} {t : Nat} (I : Inv n w k t) {i : Nat} (hi : i < n) : t * w i / tot n w ≤ k i := by
  have h3 := I.dem t (Nat.le_refl _)
  have h4 : t * w i / tot n w - k i ≤ _ := sum_pos (f := fun i => t * w i / tot n w - k i) hi
  omega
theorem Inv.step {k : Nat → Nat} {t i : Nat} (I : Inv n w k t) (hn : 1 ≤ n) (hw : ∀ i, i < n → 1 ≤ w i) (P : Pick n w k (t + 1) i) : Inv n w (bump k i) (t + 1) := by
  have tp := tot_pos hn hw
  refine ⟨by rw [sum_bump k P.lt, I.sum], fun d hd => ?_, fun j hj => ?_⟩
  · have hI := I.dem d (by omega)
    by_cases hS : ∃ j, j < n ∧ k j < d * w j / tot n w ∧ rdy n w k j (t + 1)
    · -- some turn that is due by then is ready: such a one is given
      obtain ⟨j, hj, hk, hr⟩ := hS
      have dj : due n w k j ≤ d := (due_le (hw j hj)).mpr ((Nat.le_div_iff_mul_le (by omega)).mp hk)
      have di : due n w k i ≤ d := by
        have := P.least j hj hr
        omega
      have hi : k i + 1 ≤ d * w i / tot n w := (Nat.le_div_iff_mul_le (by omega)).mpr ((due_le (hw i P.lt)).mp di)
      have := sum_less (f := fun j => d * w j / tot n w - bump k i j) (g := fun j => d * w j / tot n w - k j) P.lt (fun j _ q => by
        show _ - bump k i j ≤ _
        unfold bump
        rw [if_neg q]
        exact Nat.le_refl _) (by
        show d * w i / tot n w - bump k i i + 1 ≤ _ - k i
        unfold bump
        rw [if_pos rfl]
        omega)
      omega
    · -- none is: what is left is at most the times behind
      have h1 : ∀ j, j < n → (d * w j / tot n w - bump k i j) * tot n w ≤ w j * (d - (t + 1)) := fun j hj => by
        have hb : k j ≤ bump k i j := by unfold bump; split <;> omega
        by_cases hk : k j < d * w j / tot n w
        · have nr : ¬ rdy n w k j (t + 1) := fun z => hS ⟨j, hj, hk, z⟩
          rw [rdy_iff (hw j hj)] at nr
          have e1 : (d * w j / tot n w - bump k i j) * tot n w ≤ (d * w j / tot n w - k j) * tot n w := Nat.mul_le_mul_right _ (by omega)
          refine Nat.le_trans e1 ?_
          rw [Nat.sub_mul, Nat.mul_comm (w j), Nat.sub_mul]
          have e2 := Nat.div_mul_le_self (d * w j) (tot n w)
          omega
        · rw [show d * w j / tot n w - bump k i j = 0 by omega, Nat.zero_mul]
          exact Nat.zero_le _
      have h2 := sum_le h1
      rw [sum_mul, sum_mul, Nat.mul_comm (sumN n w)] at h2
      have := Nat.le_of_mul_le_mul_right (show _ * tot n w ≤ (d - (t + 1)) * tot n w from h2) tp
      omega
  · have hu := I.up j hj
    unfold bump
    by_cases q : j = i
    · subst q
      rw [if_pos rfl]
      have hr := (rdy_iff (hw j hj)).mp P.rd
      refine (Nat.le_div_iff_mul_le (by omega)).mpr ?_
      rw [Nat.add_mul, Nat.one_mul]
      omega
    · rw [if_neg q]
      refine Nat.le_trans hu (Nat.div_le_div_right ?_)
      have : t * w j ≤ (t + 1) * w j := Nat.mul_le_mul_right _ (by omega)
      omega
/-- after a whole round each has its weight -/
theorem Inv.round {k : Nat → Nat} (hn : 1 ≤ n) (hw : ∀ i, i < n → 1 ≤ w i) (I : Inv n w k (tot n w)) {i : Nat} (hi : i < n) : k i = w i := by
  have tp := tot_pos hn hw
  have h1 := I.low hi
  have h2 := I.up i hi
  rw [Nat.mul_comm, Nat.mul_div_cancel _ (by omega)] at h1
  have e : (tot n w * w i + tot n w - 1) / tot n w = w i := by
    rw [Nat.div_eq_iff (by omega), Nat.mul_comm]
    have : tot n w * w i + tot n w - 1 = w i * tot n w + (tot n w - 1) := by rw [Nat.mul_comm]; omega
    constructor <;> omega
  omega
/-- the turns repeat -/
theorem pick_round (hw : ∀ i, i < n → 1 ≤ w i) {k : Nat → Nat} {i m : Nat} : Pick n w k m i ↔ Pick n w (fun j => k j + w j) (m + tot n w) i := by
  have r : ∀ j, j < n → (rdy n w k j m ↔ rdy n w (fun j => k j + w j) j (m + tot n w)) := fun j hj => by
    rw [rdy_iff (hw j hj), rdy_iff (hw j hj)]
    show _ ↔ (k j + w j) * tot n w < (m + tot n w) * w j
    rw [Nat.add_mul, Nat.add_mul, Nat.mul_comm (w j)]
    omega
  have d : ∀ j, j < n → due n w (fun j => k j + w j) j = due n w k j + tot n w := fun j hj => by
    unfold due
    show ((k j + w j + 1) * tot n w + w j - 1) / w j = _
    have e : (k j + w j + 1) * tot n w + w j - 1 = (k j + 1) * tot n w + w j - 1 + tot n w * w j := by
      have : (k j + w j + 1) * tot n w = (k j + 1) * tot n w + tot n w * w j := by rw [show k j + w j + 1 = k j + 1 + w j by omega, Nat.add_mul, Nat.mul_comm (w j)]
      have := hw j hj
      omega
    rw [e, Nat.add_mul_div_right _ _ (hw j hj)]
  constructor
  · rintro ⟨a, b, c⟩
    exact ⟨a, (r i a).mp b, fun j hj hr => by rw [d i a, d j hj]; have := c j hj ((r j hj).mpr hr); omega⟩
  · rintro ⟨a, b, c⟩
    exact ⟨a, (r i a).mpr b, fun j hj hr => by have := c j hj ((r j hj).mp hr); rw [d i a, d j hj] at this; omega⟩
theorem pick_congr {k k' : Nat → Nat} {t i : Nat} (h : ∀ j, j < n → k j = k' j) (p : Pick n w k t i) : Pick n w k' t i := by
  have r : ∀ j, j < n → (rdy n w k j t ↔ rdy n w k' j t) := fun j hj => by unfold rdy; rw [h j hj]
  have d : ∀ j, j < n → due n w k j = due n w k' j := fun j hj => by unfold due; rw [h j hj]
  obtain ⟨a, b, c⟩ := p
  exact ⟨a, (r i a).mp b, fun j hj hr => by have := c j hj ((r j hj).mpr hr); rw [d i a, d j hj] at this; exact this⟩
/-- one is given the turn -/
theorem exists_pick (hn : 1 ≤ n) (hw : ∀ i, i < n → 1 ≤ w i) {k : Nat → Nat} {t : Nat} (h : sumN n k = t) : ∃ i, Pick n w k (t + 1) i := by
  have key : ∀ m i, i < n → rdy n w k i (t + 1) → due n w k i * n + i ≤ m → ∃ i, Pick n w k (t + 1) i := by
    intro m
    induction m with
    | zero =>
      intro i hi hr hm
      refine ⟨i, hi, hr, fun j hj hrj => ?_⟩
      have h0 : due n w k i * n = 0 := by omega
      have : due n w k i = 0 := by
        rcases Nat.mul_eq_zero.mp h0 with z | z
        · exact z
        · omega
      omega
    | succ m ih =>
      intro i hi hr hm
      by_cases q : ∃ j, j < n ∧ rdy n w k j (t + 1) ∧ ¬ (due n w k i < due n w k j ∨ (due n w k i = due n w k j ∧ i ≤ j))
      · obtain ⟨j, hj, hrj, hq⟩ := q
        refine ih j hj hrj ?_
        by_cases e : due n w k i = due n w k j
        · rw [← e]
          omega
        · have hlt : due n w k j + 1 ≤ due n w k i := by omega
          have := Nat.mul_le_mul_right n hlt
          rw [Nat.add_mul] at this
          omega
      · exact ⟨i, hi, hr, fun j hj hrj => Classical.byContradiction fun z => q ⟨j, hj, hrj, z⟩⟩
  obtain ⟨i, hi, hr⟩ := some_ready hn hw h
  exact key _ i hi hr (Nat.le_refl _)
variable (n w) in
/-- the counts after t turns -/
inductive Run : (Nat → Nat) → Nat → Prop where
  | zero : Run (fun _ => 0) 0
  | step {k : Nat → Nat} {t i : Nat} : Run k t → Pick n w k (t + 1) i → Run (bump k i) (t + 1)
theorem Run.inv (hn : 1 ≤ n) (hw : ∀ i, i < n → 1 ≤ w i) {k : Nat → Nat} {t : Nat} (r : Run n w k t) : Inv n w k t := by
  induction r with
  | zero => exact start hn hw
  | step _ p ih => exact ih.step hn hw p
theorem Run.uniq {k : Nat → Nat} {t : Nat} (r : Run n w k t) : ∀ {k' : Nat → Nat}, Run n w k' t → k = k' := by
  induction r with
  | zero => intro k' r'; cases r'; rfl
  | step _ p ih =>
    intro k' r'
    cases r' with
    | step r2 p2 =>
      have e := ih r2
      subst e
      rw [p.uniq n w p2]
theorem Run.ex (hn : 1 ≤ n) (hw : ∀ i, i < n → 1 ≤ w i) : ∀ t, ∃ k, Run n w k t
  | 0 => ⟨_, .zero⟩
  | t + 1 => by
    obtain ⟨k, r⟩ := Run.ex hn hw t
    obtain ⟨i, p⟩ := exists_pick hn hw (r.inv hn hw).sum
    exact ⟨_, r.step p⟩
theorem Run.out {k : Nat → Nat} {t : Nat} (r : Run n w k t) {j : Nat} (hj : n ≤ j) : k j = 0 := by
  induction r with
  | zero => rfl
  | step _ p ih =>
    unfold bump
    have := p.lt
    rw [if_neg (by omega)]
    exact ih
/-- a round more -/
def shift (n : Nat) (w k : Nat → Nat) : Nat → Nat := fun j => k j + if j < n then w j else 0
theorem Run.shift (hn : 1 ≤ n) (hw : ∀ i, i < n → 1 ≤ w i) {k : Nat → Nat} {t : Nat} (r : Run n w k t) : Run n w (Fair.shift n w k) (t + tot n w) := by
  induction r with
  | zero =>
    obtain ⟨k, r⟩ := Run.ex hn hw (tot n w)
    have e : k = Fair.shift n w (fun _ => 0) := by
      funext j
      unfold Fair.shift
      by_cases hj : j < n
      · rw [if_pos hj, (r.inv hn hw).round hn hw hj, Nat.zero_add]
      · rw [if_neg hj, r.out (by omega)]
    rw [Nat.zero_add, ← e]
    exact r
  | @step k t i r p ih =>
    have p2 := (pick_round hw (k := k) (m := t + 1) (i := i)).mp p
    have p3 : Pick n w (Fair.shift n w k) (t + tot n w + 1) i := by
      rw [show t + tot n w + 1 = t + 1 + tot n w by omega]
      refine pick_congr (fun j hj => ?_) p2
      unfold Fair.shift
      rw [if_pos hj]
    have e : Fair.shift n w (bump k i) = bump (Fair.shift n w k) i := by
      funext j
      unfold Fair.shift bump
      dsimp only
      split <;> split <;> omega
    rw [e, show t + 1 + tot n w = t + tot n w + 1 by omega]
    exact ih.step p3
/-- at any time: the whole rounds, and the counts of the last one -/
theorem Run.rounds (hn : 1 ≤ n) (hw : ∀ i, i < n → 1 ≤ w i) {k : Nat → Nat} {t : Nat} (r : Run n w k t) : ∀ q, Run n w (fun j => k j + if j < n then q * w j else 0) (t + q * tot n w)
  | 0 => by
    have e : (fun j => k j + if j < n then 0 * w j else 0) = k := by
      funext j
      split <;> omega
    rw [e, Nat.zero_mul, Nat.add_zero]
    exact r
  | q + 1 => by
    have := (Run.rounds hn hw r q).shift hn hw
    have e : Fair.shift n w (fun j => k j + if j < n then q * w j else 0) = fun j => k j + if j < n then (q + 1) * w j else 0 := by
      funext j
      unfold Fair.shift
      dsimp only
      split
      · rw [Nat.add_mul, Nat.one_mul]
        omega
      · omega
    rw [e] at this
    rw [Nat.add_mul, Nat.one_mul, ← Nat.add_assoc]
    exact this
end
end Fair

end
/-! ## SetS -/
section
set_option linter.all false
set_option maxRecDepth 100000
namespace Ag
open PySem PySem.Spec PyProof.Rows L2
/-! ### set(xs) of a list of unlike texts, its length -/
section
variable {P : Program} {w : World} {A : Around}
/-- the first i of the texts are in the set -/
abbrev InS (P : Program) (w : World) (h : Heap) (S : Addr) (ks : List Str) (i : Nat) : Prop := h.SetOf (strKind P w) S (fun k => decide (k ∈ ks.take i)) i
theorem InS.at_ {h h' : Heap} {S : Addr} {ks : List Str} {i : Nat} (q : InS P w h S ks i) (k : ∀ o, h.get? S = some o → h'.get? S = some o) : InS P w h' S ks i := by
  obtain ⟨o, es, ep, tb, ho, r⟩ := q
  exact ⟨o, es, ep, tb, k o ho, r⟩
theorem fill {I S : Addr} {fp wr : List Addr} {G : Array GenState → Array GenState → Prop} {n : Nat} {Pv : Nat → Value → Prop} {St : Nat → Shared → Prop} {R : Result → Shared → Prop} {ks : List Str}
    (W : WalksS P w A.in1 I fp wr G n Pv St) (nS : S ∉ fp) (hn : ks.length = n) (hb : n + 1 < scanBound) (nd : ks.Nodup) (hv : ∀ i v, Pv i v → ∃ k t, ks[i]? = some k ∧ v = .str k t) (m : Nat) :
    ∀ (i : Nat) (s : Shared), i + m = n → St i s → InS P w s.heap S ks i → (∀ s', Moved (S :: wr) G s s' → InS P w s'.heap S ks n → R (.ok (.ret .none)) s') → codeAny (model P w) A (.builtin "set.update.loop" ⟨[.ref S, .ref I], []⟩) R s := by
  have nW : S ∉ wr := fun z => nS (W.sub _ z)
  have more : ∀ b ∈ wr, b ∈ S :: wr := fun b z => List.mem_cons_of_mem _ z
  induction m with
  | zero =>
    rintro i s rfl st q fin
    refine codeAny_builtin F.entry_set_update_loop (by
      rw [Around.under_plainId F.plain_set_update_loop _]
      exact show wpAny _ A.in1 (pyNext (.ref I) >>= _) _ _ s from wpAny_bind (W.done s _ _ st fun s' mv => show wpAny _ A.in1 (ret Value.none) _ _ s' from wpAny_pure (fin s' (mv.mono more) (q.at_ fun o e => mv.heap S o nW e))))
  | succ m ih =>
    rintro i s hi st q fin
    have lt : i < n := by omega
    refine codeAny_builtin F.entry_set_update_loop ?_
    rw [Around.under_plainId F.plain_set_update_loop _]
    refine show wpAny _ A.in1 (pyNext (.ref I) >>= _) _ _ s from wpAny_bind (W.item i s _ _ lt st fun v s1 pv st1 mv => ?_)
    obtain ⟨k, t, hk, rfl⟩ := hv i v pv
    have new : k ∉ ks.take i := by
      intro z
      obtain ⟨j, hj, e⟩ := List.mem_iff_getElem.mp z
      rw [List.length_take] at hj
      rw [List.getElem_take] at e
      have e2 : ks[j]? = ks[i]? := by rw [hk, List.getElem?_eq_getElem (by omega), e]
      have := (List.getElem?_inj (by omega) nd).mp e2
      omega
    have q1 := q.at_ fun o e => mv.heap S o nW e
    refine show wpAny _ A.in1 (holding [Value.str k t] (setAdd S (.str k t)) >>= _) _ _ s1 from wpAny_bind (wpAny_holding ?_)
    unfold setAdd
    refine wpAny_holding (wpAny_bind ((strKind P w).pyHash (k := k) (strKind_is _ _ _ _) (wpAny_setAddHashed_of (knd := strKind P w) (s := { s1 with toks := s1.toks + 1 }) (strKind_is _ _ _ _) rfl q1 (by omega) fun h' but q2 => ?_)))
    rw [show decide (k ∈ ks.take i) = false from decide_eq_false new] at q2
    have q3 : InS P w h' S ks (i + 1) := SetOf_congr q2 (fun j => by
      rw [List.take_add_one, hk]
      simp [List.mem_append]) rfl
    have out : ∀ b o, b ≠ S → s1.heap.get? b = some o → h'.get? b = some o := fun b o z e => (but.2 b z).trans e
    refine wpAny_pure ⟨plainId_quiet F.plain_set_update_loop _, ih (i + 1) _ (by omega) (W.frame _ s1 _ _ st1 (Nat.le_succ _) fun b z o e => out b o (fun y => nS (y ▸ z)) e) q3 fun s2 mv2 q4 => ?_⟩
    exact fin s2 (Moved.trans W.gtrans ((mv.mono more).then_heap (Nat.le_succ _) fun b o z e => out b o (fun y => z (y ▸ List.mem_cons_self)) e) mv2) q4
end
theorem txt_at : ∀ {vs : List Value} {ks : List Str}, StrsAre vs ks → ∀ (i : Nat) (v : Value), vs[i]? = some v → ∃ k t, ks[i]? = some k ∧ v = .str k t
  | _, _, .nil, i, v, e => by simp at e
  | _, _, .cons x t r, 0, v, e => ⟨x, t, rfl, (Option.some.inj e).symm⟩
  | _, _, .cons x t r, i + 1, v, e => txt_at r i v e
section
variable {P : Program} {w : World} {A : Around} {E : Value → Shared → Prop} {s : Shared}
/-- a set's object as it is made -/
abbrev nilSet (w : World) : Obj := { cls := .type "set", dict := none, data := .set #[] 0 (.fresh 0 0 (!w.params.followText "set-order")) }
set_option maxHeartbeats 3200000 in
theorem set_txt {l : Addr} {its : Array Value} (ks : List Str) {Q : Value → Shared → Prop} (hh : A.handled = none) (hl : s.heap.IsList l its) (hit : StrsAre its.toList ks) (hb : ks.length + 1 < scanBound) (nd : ks.Nodup)
    (fin : ∀ (h' : Heap) (tk : Nat), InS P w h' s.heap.objs.size ks ks.length → (∀ b o, s.heap.get? b = some o → h'.get? b = some o) → Q (.ref s.heap.objs.size) { s with heap := h', toks := tk }) :
    wpAny (model P w) A (call (.type "set") [.ref l]) Q E s := by
  have esz : its.size = ks.length := by
    have q := StrsAre.len_eq hit
    rwa [Array.length_toList] at q
  obtain ⟨cc, tl, m0⟩ := F.called_set.mro
  have m1 := F.called_set.made
  have m2 := F.called_set.sub
  refine wpAny_call (codeAny_of_tree (show wpAny _ _ (callAny (.type "set") _) _ _ _ from wpAny_pure ⟨Code.quiet_builtin _ (by decide +kernel), codeAny_builtin F.entry_type_call ?_⟩))
  rw [Around.under_plain (weight_type_call_type "set" [.ref l] []) rfl]
  have m3 := F.called_set.notType
  have m4 := F.called_set.canCreate
  have m5 := F.typeCall_set_1 (.ref l)
  repeat (any_goals (first | assumption | wp_step))
  refine codeAny_mono (code_set_led1 (.ref l) (E := E) (Q₁ := fun ob s1 => ob = .ref s.heap.objs.size ∧ s1 = { s with heap := s.heap.push (nilSet w) }) ⟨rfl, rfl⟩) fun r s1 hr => ?_
  match r, hr with
  | .error e, hr => exact hr
  | .ok .next, hr => exact hr.elim
  | .ok .brk, hr => exact hr.elim
  | .ok .cont, hr => exact hr.elim
  | .ok (.ret ob), hr =>
    obtain ⟨rfl, rfl⟩ := hr
    have g1 : (s.heap.push (nilSet w)).get? s.heap.objs.size = some (nilSet w) := Heap.get?_push_size _ rfl
    have g2 : Shared.TypeIs { s with heap := s.heap.push (nilSet w) } (.ref s.heap.objs.size) "set" := ⟨_, g1, rfl⟩
    have m6 := F.called_set.init.lookup
    have m7 := F.called_set.init.bind (.ref s.heap.objs.size)
    repeat (any_goals (first | assumption | wp_step))
    refine codeAny_mono (codeAny_call_builtin (R := wants (fun r s2 => r = .none ∧ ∃ h' tk, s2 = { s with heap := h', toks := tk } ∧ InS P w h' s.heap.objs.size ks ks.length ∧
        (∀ b o, s.heap.get? b = some o → h'.get? b = some o)) E) F.called_set.init.plain F.entry_set_init (check_set_init_1 g2 ?_)) fun r2 s2 hr2 => ?_
    · obtain ⟨ol, e1, e2, nl, e3⟩ := hl
      obtain ⟨k1, k2, k3, k4⟩ := ol
      simp only at e2 e3
      subst e2 e3
      have g3 : (s.heap.push (nilSet w)).get? l = some { cls := .type "list", dict := k2, data := .seq its nl, slots := k4 } := Heap.get?_push_of_some _ e1
      have m8 := F.sub_list_set
      have m9 := F.sub_list_frozenset
      have ma : (Value.type "list" == Value.type "dict") = false := by decide
      have hl1 : (s.heap.push (nilSet w)).IsList l its := ⟨_, g3, rfl, nl, rfl⟩
      unfold Builtin.«set.__init__» noKeywords Builtin.Frozenset.updateFrom
      generalize hPI : pyIter = PI
      wp_walk
      subst hPI
      refine wpAny_pyIter_list hl1 (wpAny_bind (wpAny_runValue ?_))
      have lt := Heap.lt_size e1
      have hh3 : A.in1.in1.in1.handled = none := by simp [hh]
      have nI : l ≠ (s.heap.push (nilSet w)).objs.size := by
        rw [Heap.size_push]
        exact Nat.ne_of_lt (Nat.lt_succ_of_lt lt)
      have nS : s.heap.objs.size ∉ [(s.heap.push (nilSet w)).objs.size, l] := by
        rw [Heap.size_push]
        intro z
        rcases List.mem_cons.mp z with z | z
        · exact Nat.ne_of_lt (Nat.lt_succ_self _) z
        · exact Nat.ne_of_gt lt (List.mem_singleton.mp z)
      have vals : ∀ (i : Nat) (v : Value), its[i]? = some v → ∃ k t, ks[i]? = some k ∧ v = .str k t := fun i v hv => txt_at hit i v (by rw [Array.getElem?_toList]; exact hv)
      refine fill ((Walks.list hh3 _ l nI its).toS) nS esz.symm (by omega) nd vals its.size 0 _ (by omega) ⟨⟨_, Heap.get?_push_size _ rfl, rfl, rfl⟩, (hl1.push _)⟩ ?_ ?_
      · exact SetOf_congr ((setObjOf_fresh (knd := strKind P w) _).setOf (Heap.get?_push_of_some _ g1) (by unfold scanBound; omega)) (fun _ => rfl) rfl
      · intro s' hm hS'
        obtain ⟨h', q1, q2, tk', q3⟩ := s'
        obtain rfl : q1 = s.gens := hm.gens
        obtain rfl : q2 = s.drawn := hm.drawn
        obtain rfl : q3 = s.os := hm.os
        rw [esz] at hS'
        refine show wpAny _ _ _ _ _ _ from wpAny_pure (show wpAny _ _ (ret Value.none) _ _ _ from wpAny_pure ⟨rfl, h', tk', rfl, hS', fun b o e => ?_⟩)
        have b0 : b < s.heap.objs.size := Heap.lt_size e
        refine hm.heap b o ?_ (Heap.get?_push_of_some _ (Heap.get?_push_of_some _ e))
        rw [Heap.size_push]
        intro z
        rcases List.mem_cons.mp z with z | z
        · exact Nat.ne_of_lt b0 z
        · exact Nat.ne_of_lt (Nat.lt_succ_of_lt b0) (List.mem_singleton.mp z)
    · match r2, hr2 with
      | .error e, hr2 => exact hr2
      | .ok .next, hr2 => exact hr2.elim
      | .ok .brk, hr2 => exact hr2.elim
      | .ok .cont, hr2 => exact hr2.elim
      | .ok (.ret r), hr2 =>
        obtain ⟨rfl, h', tk, rfl, a1, a3⟩ := hr2
        repeat (any_goals (first | assumption | wp_step))
        exact fin _ _ a1 a3
end
end Ag

end
/-! ## SetS2 -/
section
set_option linter.all false
set_option maxRecDepth 100000
namespace Ag
open PySem PySem.Spec PyProof.Rows L2
section
variable {P : Program} {w : World}
/-- a set of unlike texts -/
def SetSO (P : Program) (w : World) (a : Addr) (ks : List Str) : HO := .ext fun h => InS P w h a ks ks.length
theorem setSO_new {H : Hp} {h : Heap} {a : Addr} {ks : List Str} (R : InS P w h a ks ks.length) : ObjOk P w H h a (SetSO P w a ks) := by
  have ⟨o, _, _, _, ho, _⟩ := R
  exact ⟨R, ⟨o, ho⟩, fun h1 h2 p k => InS.at_ p k⟩
section
variable {X : Cx}
def rSetS (K : PySem.W.Frag) (P : Program) (w : World) : List V → Hp → VK → Prop := fun xs H Q => ∃ (l : Addr) (ks : List Str), xs = [.ref l] ∧ SqL K H l (ks.map V.str) ∧ ks.length ≤ 1000 ∧ ks.Nodup ∧
  ∀ a, H a = none → Q (.ref a) (upd H a (SetSO P w a ks))
theorem cr_setS (hc : X.calm = true) : CallR X (.type "set") (rSetS X.K X.prog X.w) := by
  intro pins s σ H xs us Q I r h
  obtain ⟨l, ks, rfl, hs, hz, nd, q⟩ := h
  rw [Vals.ref1 r]
  obtain ⟨its, rv, pl, _⟩ := I.list hs
  refine set_txt ks (I.ok.hd hc) pl.isList (by simpa using Vals.strs rv) (by unfold scanBound; omega) nd fun h' tk R kp => ?_
  exact ⟨.ref _, _, I.laid (t' := tk) kp (Nat.le_refl _) (setSO_new R), rfl, q _ (I.hok.fresh (Nat.le_refl _))⟩
def rLenSetS (P : Program) (w : World) : List V → Hp → VK → Prop := fun xs H Q => ∃ (a : Addr) (ks : List Str), xs = [.ref a] ∧ H a = some (SetSO P w a ks) ∧ ks.length ≤ 1000 ∧ Q (.int (ks.length : Nat)) H
theorem cr_lenSetS : CallR X (.builtin "len") (rLenSetS X.prog X.w) := by
  intro pins s σ H xs us Q I r h
  obtain ⟨a, ks, rfl, ha, hn, q⟩ := h
  rw [Vals.ref1 r]
  obtain ⟨o, es, ep, t, ho, hex, hd, _, _, _, hf, he⟩ := (I.hok a _ ha).1
  exact call_len_set ho hex hd hf (by rw [he]; omega) ⟨.int ks.length, H, I.tok _, ⟨_, by rw [he]⟩, q⟩
end
end
end Ag

end
/-! ## EnumT -/
section
set_option linter.all false
set_option maxRecDepth 100000
namespace Ag
open PySem PySem.Spec PyProof.Rows L2
/-! ### for i, x in enumerate(tuple) -/
set_option maxHeartbeats 1000000 in
theorem new_enum {v : Value} {o : Obj} {C : Heap → Prop} (B : Begins v o C) : Meets (Builtin.«enumerate.__new__» ⟨[.type "enumerate", v], []⟩) (fun _ R s => C s.heap ∧
    R (.ok (.ret (.ref (s.heap.push o).objs.size))) { s with heap := (s.heap.push o).push { cls := .type "enumerate", data := .fields #[.none, .bool false, .ref s.heap.objs.size, rawInt 0, .none, .none] } }) := by
  refine .of_wp fun prog w A R s h => ?_
  obtain ⟨hp, gs, dr, tk, os⟩ := s
  obtain ⟨hC, h⟩ := h
  have sub := sub_enumerate
  have begin_ : ∀ {A' : Around} {E Q : Value → Shared → Prop}, Q (.ref hp.objs.size) ⟨hp.push o, gs, dr, tk, os⟩ → wpAny (model prog w) A' (pyIter v) Q E ⟨hp, gs, dr, tk, os⟩ := fun q => B.iter prog w _ _ ⟨hp, gs, dr, tk, os⟩ _ hC q
  wp_walk using begin_
  refine wpAny_stack_any fun _ => wpAny_pure ?_
  split
  · rename_i c _ _ _ _ _
    cases (c == Value.type "enumerate") <;> (wp_walk using begin_; exact ⟨_, rfl, h⟩)
  · wp_walk using begin_
    exact ⟨_, rfl, h⟩
theorem call_enum {prog : Program} {w : World} {A : Around} {E Q : Value → Shared → Prop} {s : Shared} {v : Value} {o : Obj} {C : Heap → Prop} (B : Begins v o C) (hC : C s.heap)
    (k : ∀ h', IsEnum h' (s.heap.objs.size + 1) s.heap.objs.size 0 .none → h'.get? s.heap.objs.size = some o → (∀ b u, s.heap.get? b = some u → h'.get? b = some u) → Q (.ref (s.heap.objs.size + 1)) { s with heap := h' }) :
    wpAny (model prog w) A (call (.type "enumerate") [v]) Q E s := by
  refine callType_new F.called_enumerate (by decide) (F.typeCall_enumerate_1 _) (F.newCall_enumerate_1 _) (fun obj => F.args_object_init_2 obj _) F.entry_enumerate_new (new_enum B) ⟨hC, ?_⟩
  have sz : (s.heap.push o).objs.size = s.heap.objs.size + 1 := Heap.size_push ..
  rw [sz]
  have cell := Heap.get?_push_size (s.heap.push o) (o := { cls := .type "enumerate", data := .fields #[.none, .bool false, .ref s.heap.objs.size, rawInt 0, .none, .none] }) rfl
  rw [sz] at cell
  exact ⟨⟨_, cell, rfl⟩, k _ cell (Heap.get?_push_of_some _ (Heap.get?_push_size _ B.free)) fun b u e => Heap.get?_push_of_some _ (Heap.get?_push_of_some _ e)⟩
def IteT (K : PySem.W.Frag) (a : Addr) : It where
  go i H := ∃ (xs : List V) (x : V), SqT K H a xs ∧ xs[i]? = some x
  yld i H v H' := ∃ T x, v = .ref T ∧ H T = none ∧ H' = upd H T (.tup [.int (i : Nat), x]) ∧ ∀ xs, SqT K H a xs → xs[i]? = some x
  stop i H := ∃ xs : List V, SqT K H a xs ∧ i = xs.length
theorem turn_enumT {P : Program} {w : World} {K : PySem.W.Frag} {elts : List Expr} {kk : Nat} {tpos : Pos} (e it a : Addr) (nea : e ≠ a) (nia : it ≠ a) :
    Turn P w K (.Tuple elts kk tpos) (IteT K a) [e, it] e (fun i h => (∃ old, IsEnum h e it ((i : Nat) : Int) old) ∧ h.IsTupleIter it a i ∧ e ≠ it) where
  mem := List.mem_cons_self
  obj := by
    rintro i h ⟨⟨old, he⟩, ⟨o, ho, _, hd⟩, _⟩ b hb
    simp only [List.mem_cons, List.not_mem_nil, or_false] at hb
    rcases hb with rfl | rfl
    · exact ⟨_, he, fun v q => by cases q⟩
    · exact ⟨o, ho, fun v q => by rw [hd] at q; cases q⟩
  keep := by
    rintro i h h' ⟨⟨old, he⟩, h2, ne⟩ k
    exact ⟨⟨old, k e (by simp) _ he⟩, h2.at fun o q => k it (by simp) o q, ne⟩
  item := by
    intro X hP hw hK hc i pins s σ H E I hf st hg
    subst hP hw hK
    obtain ⟨⟨old, he⟩, h2, ne⟩ := st
    obtain ⟨xs, x, hq, hx⟩ := hg
    obtain ⟨its, rv, p2, _⟩ := I.tuple hq
    obtain ⟨u2, hu2, ru2⟩ := rv.get hx
    have el : e < s.heap.objs.size := Heap.lt_size he
    have il : it < s.heap.objs.size := by obtain ⟨_, q, _⟩ := h2; exact Heap.lt_size q
    have D := Draws.tuple (prog := X.prog) (w := X.w) (A := X.A.in1) (I.ok.hd hc) it a nia.symm its.toArray
    have lt : i < its.toArray.size := by
      have := (List.getElem?_eq_some_iff.mp hu2).1
      simpa using this
    have eF : e ∉ [it, a] := by
      simp only [List.mem_cons, List.not_mem_nil, or_false, not_or]
      exact ⟨ne, nea⟩
    refine wpAny_pyNext_enum_itemD D he ⟨h2, p2⟩ lt ne eF ?_
    rintro v h' tk ev ho st' hT hsz hk
    have q2 : v = u2 := by
      have : its[i]? = some v := by simpa using ev
      rw [hu2] at this
      exact (Option.some.inj this).symm
    subst q2
    refine ⟨_, rfl, wpAny_letOwnedTupleGo_enum (s := { s with heap := h', toks := tk + 1 }) ho fun h'' he' sb => ?_⟩
    have hT2 : h''.get? s.heap.objs.size = some { cls := .type "tuple", data := .seq #[.int i tk, v] } := (sb.2 _ (Nat.ne_of_gt el)).trans hT
    have new : ObjOk X.prog X.w (upd H s.heap.objs.size (.tup [.int (i : Nat), x])) h'' s.heap.objs.size (.tup [.int (i : Nat), x]) := ⟨(by show 2 ≤ sizeLine; decide), [.int i tk, v], .cons ⟨tk, rfl⟩ (.cons ru2 .nil), ⟨_, hT2, rfl, _, rfl⟩⟩
    have I1 : Inv X pins σ (upd H s.heap.objs.size (.tup [.int (i : Nat), x])) { s with heap := h'', toks := tk + 1 } := by
      refine I.turnedNew (ch := [e, it]) (fun b u hb q => ?_) hf (Nat.le_refl _) new
      simp only [List.mem_cons, List.not_mem_nil, or_false, not_or] at hb
      exact (sb.2 b hb.1).trans (hk b u hb.1 hb.2 q)
    have e1 : ((i + 1 : Nat) : Int) = (i : Int) + 1 := by omega
    refine ⟨.ref s.heap.objs.size, _, I1, rfl, ⟨_, x, rfl, I.hok.fresh (Nat.le_refl _), rfl, fun l hl => by rw [I.tuple_inj hl hq]; exact hx⟩, ⟨⟨_, by rw [e1]; exact he'⟩, st'.1.at fun o q => (sb.2 _ ne.symm).trans q, ne⟩, fun b hb => ?_⟩
    have lt : b < s.heap.objs.size := by
      simp only [List.mem_cons, List.not_mem_nil, or_false] at hb
      rcases hb with rfl | rfl
      · exact el
      · exact il
    rw [upd_ne (Nat.ne_of_lt lt)]
    exact (hf b hb).1
  done := by
    intro X hP hw hK hc i pins s σ H E I hf st hg
    subst hP hw hK
    obtain ⟨⟨old, he⟩, h2, ne⟩ := st
    obtain ⟨xs, hq, hi⟩ := hg
    obtain ⟨its, rv, p2, _⟩ := I.tuple hq
    obtain ⟨f0, f1, f2, f3, f4, f5⟩ := hf it (List.mem_cons_of_mem _ List.mem_cons_self)
    have ln := rv.length
    have es : its.toArray.size = its.length := List.size_toArray ..
    obtain rfl : i = its.toArray.size := by omega
    have D := Draws.tuple (prog := X.prog) (w := X.w) (A := X.A.in1) (I.ok.hd hc) it a nia.symm its.toArray
    exact wpAny_pyNext_enum_endD D he ⟨h2, p2⟩ fun h' eb => ⟨rfl, I.turned (t' := s.toks) (fun b o hb q => eb b o hb q) f0 f1 f3 f4 f5⟩
  self := fun A i s Q E st h => st.1.elim fun _ z => wpAny_pyIter_enum z h
def iEnumT (K : PySem.W.Frag) (ta : TA) : TI := fun σ H R => ta σ H fun vs H1 => ∃ a xs, vs = [.ref a] ∧ SqT K H1 a xs ∧ R (IteT K a) H1
theorem pi_enumT {X : Cx} {e : Expr} {ta : TA} {p pos tpos : Pos} {elts : List Expr} {kk : Nat} (hg : Gl X "enumerate") (hm : X.mg "enumerate" = none) (ha : PA X [e] ta) (hs : starEach [e] X.env = [(false, eval e X.env)] := by rfl) :
    PI X (.Tuple elts kk tpos) (.Call (.Name "enumerate" p) [e] [] pos) (iEnumT X.K ta) := by
  constructor
  intro pins s σ H R I h
  refine Call_ (ld_blt I hg hm boot_enumerate (PyProof.Rows.callWith_type1 (thn (ha.run pos pins s σ H _ I h) ?_) hs rfl))
  rintro us s1 ⟨vs, H1, I1, r1, a, xs, rfl, hq, q⟩
  rw [Vals.ref1 r1]
  obtain ⟨its, rv, p2, _⟩ := I1.tuple hq
  have la : a < s1.heap.objs.size := by
    obtain ⟨o, e, _⟩ := id p2
    exact Heap.lt_size e
  refine call_enum (begins_tuple a its.toArray) p2 fun h' he g1 hk => wpAny_pyIter_enum he ?_
  have I2 : Inv X pins σ H1 { s1 with heap := h' } := I1.kept (t' := s1.toks) hk
  refine ⟨s1.heap.objs.size + 1, [s1.heap.objs.size + 1, s1.heap.objs.size], _, _, H1, rfl, I2, turn_enumT (s1.heap.objs.size + 1) s1.heap.objs.size a (Nat.ne_of_gt (Nat.lt_succ_of_lt la)) (Nat.ne_of_gt la), ⟨⟨_, he⟩, ⟨_, g1, rfl, rfl⟩, Nat.succ_ne_self _⟩, fun c hcm => ?_, q⟩
  have hle : s1.heap.objs.size ≤ c := by
    simp only [List.mem_cons, List.not_mem_nil, or_false] at hcm
    rcases hcm with rfl | rfl <;> first | exact Nat.le_add_right _ _ | exact Nat.le_refl _
  exact I1.fpOk hle (I1.hok.fresh hle)
end Ag

end
/-! ## SumT -/
section
set_option linter.all false
set_option maxRecDepth 100000
namespace Ag
open PySem PySem.Spec PyProof.Rows L2
/-! ### sum of a tuple of ints -/
theorem pre_sum (ns : List Int) : ∀ j, j ≤ ns.length → preSum (fun i => ns.getD i 0) j = (ns.take j).sum
  | 0, _ => by simp [preSum]
  | j + 1, h => by
    have h' : j < ns.length := h
    have e : (ns.take (j + 1)).sum = (ns.take j).sum + ns[j] := by
      rw [List.take_add_one, List.getElem?_eq_getElem h', List.sum_append]
      show _ + List.sum [ns[j]] = _
      simp
    have e2 : ns.getD j 0 = ns[j] := by simp [List.getD_eq_getElem?_getD, h']
    rw [preSum, pre_sum ns j (by omega), e, e2]
section
variable {X : Cx}
def rSumT (K : PySem.W.Frag) : List V → Hp → VK → Prop := fun vs H Q => ∃ (a : Addr) (ns : List Int), vs = [V.ref a] ∧ SqT K H a (ns.map V.int) ∧ Q (.int ns.sum) H
theorem cr_sumT (hc : X.calm = true) : CallR X (.builtin "sum") (rSumT X.K) := by
  intro pins s σ H xs us Q I r h
  obtain ⟨a, ns, rfl, hs, q⟩ := h
  rw [Vals.ref1 r]
  obtain ⟨its, rv, pl, _⟩ := I.tuple hs
  have lt : a < s.heap.objs.size := by
    obtain ⟨o, e, _⟩ := id pl
    exact Heap.lt_size e
  have ln := rv.length
  rw [List.length_map] at ln
  have hd : X.A.in1.handled = none := I.ok.hd hc
  refine call_sum_walkG (wpAny_pyIter_tuple (show s.heap.IsTuple a its.toArray from pl) ⟨s.heap.objs.size, [s.heap.objs.size, a], [s.heap.objs.size], _, _, _, fun i => ns.getD i 0, rfl, Walks.tuple hd _ a (Nat.ne_of_lt lt) its.toArray,
    ⟨⟨_, Heap.get?_push_size _ rfl, rfl, rfl⟩, (show s.heap.IsTuple a its.toArray from pl).push _⟩, fun b hb => ?_, fun i v hv => ?_, fun h' tk t' hk => ?_⟩)
  · rw [Heap.size_push]
    simp only [List.mem_cons, List.not_mem_nil, or_false] at hb
    rcases hb with rfl | rfl
    · exact Nat.lt_succ_self _
    · exact Nat.lt_succ_of_lt lt
  · obtain ⟨t, e⟩ := IntsAre.int_at rv.ints i v (by simpa using hv)
    exact ⟨t, e⟩
  · rw [List.size_toArray, ← ln, pre_sum ns _ (Nat.le_refl _), List.take_length]
    exact ⟨.int _, H, I.kept fun b o e => hk b o (fun z => Nat.ne_of_lt (Heap.lt_size e) (List.mem_singleton.mp z)) (Heap.get?_push_of_some _ e), ⟨_, rfl⟩, q⟩
end
end Ag

end
/-! ## ZipTL -/
section
set_option linter.all false
set_option maxRecDepth 100000
namespace Ag
open PySem PySem.Spec PyProof.Rows L2
/-! ### zip(tuple, list) -/
def ItzTL (K : PySem.W.Frag) (a b : Addr) : It where
  go i H := ∃ (xs ys : List V) (x y : V), SqT K H a xs ∧ SqL K H b ys ∧ xs[i]? = some x ∧ ys[i]? = some y
  yld i H v H' := ∃ T x y, (v = .ref T ∧ H T = none ∧ H' = upd H T (.tup [x, y])) ∧ (∀ xs, SqT K H a xs → xs[i]? = some x) ∧ ∀ ys, SqL K H b ys → ys[i]? = some y
  stop i H := ∃ xs ys : List V, SqT K H a xs ∧ SqL K H b ys ∧ i = min xs.length ys.length
theorem turn_zipTL {P : Program} {w : World} {K : PySem.W.Frag} {elts : List Expr} {kk : Nat} {tpos : Pos} {a b z TI TO i1 i2 : Addr} (D : ZipSep2 z TI TO i1 i2 [i1, a] [i2, b]) (na : a ≠ i1) (nb : b ≠ i2) :
    Turn P w K (.Tuple elts kk tpos) (ItzTL K a b) [z, TI, TO, i1, i2] z (fun i h => IsZip h z TI TO .none ∧ IsTupOf2 h TI (.ref i1) (.ref i2) ∧ (∃ x y, IsTupOf2 h TO x y) ∧ h.IsTupleIter i1 a i ∧ h.IsListIter i2 b i) where
  mem := List.mem_cons_self
  obj := by
    rintro i h ⟨hz, hTI, ⟨x, y, hTO⟩, ⟨o1, e1, _, d1⟩, ⟨o2, e2, _, d2⟩⟩ c hc
    simp only [List.mem_cons, List.not_mem_nil, or_false] at hc
    rcases hc with rfl | rfl | rfl | rfl | rfl
    · exact ⟨_, hz, fun v q => by cases q⟩
    · exact ⟨_, hTI, fun v q => by cases q⟩
    · exact ⟨_, hTO, fun v q => by cases q⟩
    · exact ⟨o1, e1, fun v q => by rw [d1] at q; cases q⟩
    · exact ⟨o2, e2, fun v q => by rw [d2] at q; cases q⟩
  keep := by
    rintro i h h' ⟨hz, hTI, ⟨x, y, hTO⟩, h1, h2⟩ k
    exact ⟨k z (by simp) _ hz, k TI (by simp) _ hTI, ⟨x, y, k TO (by simp) _ hTO⟩, h1.at fun o q => k i1 (by simp) o q, h2.at fun o q => k i2 (by simp) o q⟩
  item := by
    intro X hP hw hK hc i pins s σ H E I hf st hg
    subst hP hw hK
    obtain ⟨hz, hTI, ⟨x0, y0, hTO⟩, h1, h2⟩ := st
    obtain ⟨xs, ys, x, y, hqx, hqy, hx, hy⟩ := hg
    obtain ⟨its1, rv1, p1, _⟩ := I.tuple hqx
    obtain ⟨its2, rv2, p2, _⟩ := I.list hqy
    obtain ⟨u1, hu1, ru1⟩ := rv1.get hx
    obtain ⟨u2, hu2, ru2⟩ := rv2.get hy
    have hzl : z < s.heap.objs.size := Heap.lt_size hz
    have D1 := Draws.tuple (prog := X.prog) (w := X.w) (A := X.A.in1) (I.ok.hd hc) i1 a na its1.toArray
    have D2 := Draws.list (prog := X.prog) (w := X.w) (A := X.A.in1) (I.ok.hd hc) i2 b nb its2.toArray
    have l1 : i < its1.toArray.size := by
      have := (List.getElem?_eq_some_iff.mp hu1).1
      simpa using this
    have l2 : i < its2.toArray.size := by
      have := (List.getElem?_eq_some_iff.mp hu2).1
      simpa using this
    refine wpAny_pyNext_zipD2_item D D1 D2 hz hTI hTO ⟨h1, p1⟩ ⟨h2, p2.isList⟩ l1 l2 ?_
    intro x1 x2 h' tk e1 e2 z' TO' st1 st2 hT hsz hk
    have q1 : x1 = u1 := by
      have : its1[i]? = some x1 := by simpa using e1
      rw [hu1] at this
      exact (Option.some.inj this).symm
    have q2 : x2 = u2 := by
      have : its2[i]? = some x2 := by simpa using e2
      rw [hu2] at this
      exact (Option.some.inj this).symm
    subst q1 q2
    refine ⟨_, rfl, wpAny_letOwnedTupleGo_zip (s := { s with heap := h', toks := tk }) z' fun h'' z'' sb => ?_⟩
    have hT2 : h''.get? s.heap.objs.size = some { cls := .type "tuple", data := .seq #[x1, x2] } := (sb.2 _ (Nat.ne_of_gt hzl)).trans hT
    have new : ObjOk X.prog X.w (upd H s.heap.objs.size (.tup [x, y])) h'' s.heap.objs.size (.tup [x, y]) := ⟨(by show 2 ≤ sizeLine; decide), [x1, x2], .cons ru1 (.cons ru2 .nil), ⟨_, hT2, rfl, _, rfl⟩⟩
    have I1 : Inv X pins σ (upd H s.heap.objs.size (.tup [x, y])) { s with heap := h'', toks := tk } := by
      refine I.turnedNew (t' := tk) (ch := [z, TI, TO, i1, i2]) (fun c o hb q => ?_) hf (Nat.le_refl _) new
      simp only [List.mem_cons, List.not_mem_nil, or_false, not_or] at hb
      exact (sb.2 c hb.1).trans (hk c o hb.1 hb.2.2.1 hb.2.2.2.1 hb.2.2.2.2 q)
    refine ⟨.ref s.heap.objs.size, _, I1, rfl, ⟨_, x, y, ⟨rfl, I.hok.fresh (Nat.le_refl _), rfl⟩, fun l hl => by rw [I.tuple_inj hl hqx]; exact hx, fun l hl => by rw [I.list_inj hl hqy]; exact hy⟩, ⟨z'', ?_, ⟨x1, x2, ?_⟩, ?_, ?_⟩, fun c hcm => ?_⟩
    · exact (sb.2 _ D.TIz).trans (hk _ _ D.TIz D.TITO D.TIi1 D.TIi2 hTI)
    · exact (sb.2 _ D.TOz).trans TO'
    · exact st1.1.at fun o q => (sb.2 _ (Ne.symm D.zi1)).trans q
    · exact st2.1.at fun o q => (sb.2 _ (Ne.symm D.zi2)).trans q
    · have hlt : c < s.heap.objs.size := by
        simp only [List.mem_cons, List.not_mem_nil, or_false] at hcm
        rcases hcm with rfl | rfl | rfl | rfl | rfl
        · exact hzl
        · exact Heap.lt_size hTI
        · exact Heap.lt_size hTO
        · exact h1.elim fun _ q => Heap.lt_size q.1
        · exact h2.elim fun _ q => Heap.lt_size q.1
      rw [upd_ne (Nat.ne_of_lt hlt)]
      exact (hf c hcm).1
  done := by
    intro X hP hw hK hc i pins s σ H E I hf st hg
    subst hP hw hK
    obtain ⟨hz, hTI, ⟨x0, y0, hTO⟩, h1, h2⟩ := st
    obtain ⟨xs, ys, hqx, hqy, hi⟩ := hg
    obtain ⟨its1, rv1, p1, _⟩ := I.tuple hqx
    obtain ⟨its2, rv2, p2, _⟩ := I.list hqy
    have l1 := rv1.length
    have l2 := rv2.length
    have D1 := Draws.tuple (prog := X.prog) (w := X.w) (A := X.A.in1) (I.ok.hd hc) i1 a na its1.toArray
    have D2 := Draws.list (prog := X.prog) (w := X.w) (A := X.A.in1) (I.ok.hd hc) i2 b nb its2.toArray
    have s1 : its1.toArray.size = its1.length := List.size_toArray ..
    have s2 : its2.toArray.size = its2.length := List.size_toArray ..
    refine wpAny_pyNext_zipD2_end D D1 D2 hz hTI hTO ⟨h1, p1⟩ ⟨h2, p2.isList⟩ (by omega) (by omega) (by omega) fun h' tk hk => ⟨rfl, I.turnedL (t' := tk) (ch := [z, TI, TO, i1, i2]) (fun c o hb q => ?_) hf⟩
    simp only [List.mem_cons, List.not_mem_nil, or_false, not_or] at hb
    exact hk c o hb.1 hb.2.2.1 hb.2.2.2.1 hb.2.2.2.2 q
  self := fun A i s Q E st h => wpAny_pyIter_zip st.1 h
def iZipTL (K : PySem.W.Frag) (ta : TA) : TI := fun σ H R => ta σ H fun vs H1 => ∃ a b xs ys, vs = [.ref a, .ref b] ∧ SqT K H1 a xs ∧ SqL K H1 b ys ∧ R (ItzTL K a b) H1
theorem pi_zipTL {X : Cx} {e e2 : Expr} {ta : TA} {p pos tpos : Pos} {elts : List Expr} {kk : Nat} (hg : Gl X "zip") (hm : X.mg "zip" = none) (ha : PA X [e, e2] ta) (hs : starEach [e, e2] X.env = (false, eval e X.env) :: starEach [e2] X.env := by rfl)
    (hpl : (backTo pos (starEach [e2] X.env)).any (·.1) = false := by rfl) : PI X (.Tuple elts kk tpos) (.Call (.Name "zip" p) [e, e2] [] pos) (iZipTL X.K ta) := by
  constructor
  intro pins s σ H R I h
  refine Call_ (ld_blt I hg hm PyProof.Rows.boot_zip (PyProof.Rows.callWith_type1 (thn (ha.run pos pins s σ H _ I h) ?_) hs hpl))
  rintro us s1 ⟨vs, H1, I1, r1, a, b, xs, ys, rfl, hqx, hqy, q⟩
  match us, r1 with
  | [_, _], .cons r (.cons r' .nil) =>
    cases r
    cases r'
    obtain ⟨its1, rv1, p1, _⟩ := I1.tuple hqx
    obtain ⟨its2, rv2, p2, _⟩ := I1.list hqy
    have la : a < s1.heap.objs.size := by
      obtain ⟨o, e, _⟩ := id p1
      exact Heap.lt_size e
    have lb : b < s1.heap.objs.size := p2.lt
    refine zip_begins2 (begins_tuple a its1.toArray) (begins_list b its2.toArray) p1 p2.isList fun h' hz hTI hTO g1 g2 hsz hk => wpAny_pyIter_zip hz ?_
    have I2 : Inv X pins σ H1 { s1 with heap := h' } := I1.kept (t' := s1.toks) hk
    refine ⟨s1.heap.objs.size + 4, [s1.heap.objs.size + 4, s1.heap.objs.size + 2, s1.heap.objs.size + 3, s1.heap.objs.size, s1.heap.objs.size + 1], _, _, H1, rfl, I2, turn_zipTL (zip_sep2 (by simp; exact la) (by simp; exact lb)) (Nat.ne_of_lt la) (Nat.ne_of_lt (Nat.lt_succ_of_lt lb)), ⟨hz, hTI, ⟨_, _, hTO⟩, ⟨_, g1, rfl, rfl⟩, ⟨_, g2, rfl, rfl⟩⟩, fun c hcm => ?_, q⟩
    have hle : s1.heap.objs.size ≤ c := by
      simp only [List.mem_cons, List.not_mem_nil, or_false] at hcm
      rcases hcm with rfl | rfl | rfl | rfl | rfl <;> first | exact Nat.le_add_right _ _ | exact Nat.le_refl _
    exact I1.fpOk hle (I1.hok.fresh hle)
end Ag

end
/-! ## GetL -/
section
set_option linter.all false
set_option maxRecDepth 100000
namespace Ag
open PySem PySem.Spec PyProof.Rows L2
/-! ### xs[i] += e, a list -/
section
variable {X : Cx}
def rGetL (K : PySem.W.Frag) : V → V → Hp → VK → Prop := fun o i H Q => ∃ (p : Addr) (xs : List V) (k : Nat) (v : V), o = .ref p ∧ i = .int (k : Int) ∧ SqL K H p xs ∧ xs[k]? = some v ∧ Q v H
theorem get_list : PGet X (rGetL X.K) := by
  intro pins s σ H o i ov iv Q I ro ri h
  obtain ⟨p, xs, k, v, rfl, rfl, hs, hv, q⟩ := h
  obtain rfl : ov = Value.ref p := ro
  obtain ⟨t, rfl⟩ := ri
  obtain ⟨its, rv, pl, hz⟩ := I.list hs
  obtain ⟨u, hu, ru⟩ := rv.get hv
  have hk : k < its.length := (List.getElem?_eq_some_iff.mp hu).1
  have ln := line63
  have lx := rv.length
  exact wpAny_getItem_list pl.isList (by omega) (by omega) (by simpa using hu) ⟨v, H, I, ru, q⟩
end
end Ag

end
/-! ## T0 -/
section
set_option linter.all false
set_option maxRecDepth 100000
namespace Ag
open PySem PySem.Spec PyProof.Rows L2
/-- by place, a new pair of the place and the item -/
def YEn (xs : List V) : Nat → Hp → V → Hp → Prop := fun i H v H' => ∃ T x, v = .ref T ∧ H T = none ∧ H' = upd H T (.tup [.int (i : Nat), x]) ∧ xs[i]? = some x
theorem walk_enumT {K : PySem.W.Frag} {a : Addr} {xs : List V} : Walk (IteT K a) xs.length (fun H => SqT K H a xs) (YEn xs) := by
  refine ⟨fun i H hi q => ⟨xs, xs[i], q, by simp [hi]⟩, fun H q => ⟨xs, q, rfl⟩, fun i H v H' _ q y => ?_⟩
  obtain ⟨T, x, h1, h2, h3, h4⟩ := y
  exact ⟨T, x, h1, h2, h3, h4 xs q⟩
theorem walk_zipTL {K : PySem.W.Frag} {a b : Addr} {xs ys : List V} (hl : xs.length = ys.length) : Walk (ItzTL K a b) xs.length (fun H => SqT K H a xs ∧ SqL K H b ys) (YPair (fun i => xs[i]?) (fun i => ys[i]?)) := by
  refine ⟨fun i H hi q => ⟨xs, ys, xs[i], ys[i]'(by omega), q.1, q.2, by simp [hi], by simp [hl ▸ hi]⟩, fun H q => ⟨xs, ys, q.1, q.2, by omega⟩, fun i H v H' _ q y => ?_⟩
  obtain ⟨T, x, z, ⟨h1, h2, h3⟩, h4, h5⟩ := y
  exact ⟨T, x, z, h1, h2, h3, h4 xs q.1, h5 ys q.2⟩
theorem CallR.or2 {X : Cx} {f : Value} {r1 r2 : List V → Hp → VK → Prop} (h1 : CallR X f r1) (h2 : CallR X f r2) : CallR X f (fun xs H Q => r1 xs H Q ∨ r2 xs H Q) := by
  intro pins s σ H xs us Q I r h
  rcases h with h | h
  · exact h1 pins s σ H xs us Q I r h
  · exact h2 pins s σ H xs us Q I r h
theorem cr_sumA {X : Cx} (hc : X.calm = true) : CallR X (.builtin "sum") (fun xs H Q => rSum X.K xs H Q ∨ rSumT X.K xs H Q) := CallR.or2 (cr_sum hc) (cr_sumT hc)
theorem ix_tupK {X : Cx} (K : PySem.W.Frag) (hK : X.K = K) : IxR X (rIxT K) := by
  subst hK
  exact ix_tup
theorem pe_of_K {X : Cx} (K : PySem.W.Frag) {e : Expr} (f : PySem.W.Frag → TE) (hK : X.K = K) (h : PE X e (f X.K)) : PE X e (f K) := hK ▸ h
/-- a target i, (j, l), where a comprehension's block runs -/
theorem pg_nest {X : Cx} (K : PySem.W.Frag) {i j l : Nat} {x y z : Str} {px py pz pt pu : Pos} {k k2 : Nat} (hc : X.calm = true) (hN : X.N.Nodup) (hi : X.N[i]? = some x) (hj : X.N[j]? = some y) (hl : X.N[l]? = some z) (hx : X.env.scope.names.lookup x = some .local) (hy : X.env.scope.names.lookup y = some .local) (hz : X.env.scope.names.lookup z = some .local) (hK : X.K = K) :
    PG X (.Tuple [.Name x px, .Tuple [.Name y py, .Name z pz] k2 pu] k pt) (gTup K 2 (gCons (gName i) (gCons (gTup K 2 (gCons (gName j) (gCons (gName l) gNil))) gNil))) := by
  subst hK
  exact pg_tup hc (pgs_cons (pg_name hN hi (.inl hx) (.inr hx)) (pgs_cons (pg_tup hc (pgs_cons (pg_name hN hj (.inl hy) (.inr hy)) (pgs_cons (pg_name hN hl (.inl hz) (.inr hz)) pgs_nil))) pgs_nil))
end Ag

end
/-! ## Prog -/
section
set_option linter.all false
set_option maxRecDepth 100000
namespace Ag
open PySem PySem.Spec PyProof.Rows L2
/-! ### the text by places -/
def top (i : Nat) : Stmt := PySem.Challenge.pw_answergate_k18_whole_turns_within_their.main.body.getD i (.Pass ⟨0, 0, 0, 0⟩)
abbrev s_is_integer : Stmt := top 2
abbrev N_is_integer : List Str := ["thing"]
theorem sc_is_integer : FnScope N_is_integer ["thing"] (defScope s_is_integer) := ⟨rfl, rfl, rfl, by decide +kernel, rfl, by decide +kernel, by decide +kernel⟩
abbrev s_is_word : Stmt := top 3
abbrev N_is_word : List Str := ["thing"]
theorem sc_is_word : FnScope N_is_word ["thing"] (defScope s_is_word) := ⟨rfl, rfl, rfl, by decide +kernel, rfl, by decide +kernel, by decide +kernel⟩
abbrev s_is_pool : Stmt := top 13
abbrev N_is_pool : List Str := ["thing", "pair"]
theorem sc_is_pool : FnScope N_is_pool ["thing"] (defScope s_is_pool) := ⟨rfl, rfl, rfl, by decide +kernel, rfl, by decide +kernel, by decide +kernel⟩
abbrev s_is_share : Stmt := top 14
abbrev N_is_share : List Str := ["thing", "label", "weight"]
theorem sc_is_share : FnScope N_is_share ["thing"] (defScope s_is_share) := ⟨rfl, rfl, rfl, by decide +kernel, rfl, by decide +kernel, by decide +kernel⟩
abbrev s_are_loads : Stmt := top 15
abbrev N_are_loads : List Str := ["pool", "thing", "load"]
theorem sc_are_loads : FnScope N_are_loads ["pool", "thing"] (defScope s_are_loads) := ⟨rfl, rfl, rfl, by decide +kernel, rfl, by decide +kernel, by decide +kernel⟩
abbrev s_are_counts : Stmt := top 16
abbrev N_are_counts : List Str := ["pool", "thing"]
theorem sc_are_counts : FnScope N_are_counts ["pool", "thing"] (defScope s_are_counts) := ⟨rfl, rfl, rfl, by decide +kernel, rfl, by decide +kernel, by decide +kernel⟩
abbrev s_weight_sum : Stmt := top 17
abbrev N_weight_sum : List Str := ["pool", "weight", "_"]
theorem sc_weight_sum : FnScope N_weight_sum ["pool"] (defScope s_weight_sum) := ⟨rfl, rfl, rfl, by decide +kernel, rfl, by decide +kernel, by decide +kernel⟩
abbrev s_turn_after : Stmt := top 18
abbrev N_turn_after : List Str := ["pool", "counts", "whole", "time", "best", "best_due", "at", "_", "weight", "given", "due", "is_ready"]
theorem sc_turn_after : FnScope N_turn_after ["pool", "counts"] (defScope s_turn_after) := ⟨rfl, rfl, rfl, by decide +kernel, rfl, by decide +kernel, by decide +kernel⟩
abbrev s_first_turns : Stmt := top 19
abbrev N_first_turns : List Str := ["pool", "many", "counts", "given", "_", "at"]
theorem sc_first_turns : FnScope N_first_turns ["pool", "many"] (defScope s_first_turns) := ⟨rfl, rfl, rfl, by decide +kernel, rfl, by decide +kernel, by decide +kernel⟩
abbrev s_counts_from_start : Stmt := top 20
abbrev N_counts_from_start : List Str := ["pool", "many", "rounds", "rest", "given", "weight", "at", "_"]
theorem sc_counts_from_start : FnScope N_counts_from_start ["pool", "many"] (defScope s_counts_from_start) := ⟨rfl, rfl, rfl, by decide +kernel, rfl, by decide +kernel, by decide +kernel⟩
abbrev s_next_turn : Stmt := top 21
abbrev N_next_turn : List Str := ["pool", "counts"]
theorem sc_next_turn : FnScope N_next_turn ["pool", "counts"] (defScope s_next_turn) := ⟨rfl, rfl, rfl, by decide +kernel, rfl, by decide +kernel, by decide +kernel⟩
abbrev s_turns : Stmt := top 22
abbrev N_turns : List Str := ["pool", "t"]
theorem sc_turns : FnScope N_turns ["pool", "t"] (defScope s_turns) := ⟨rfl, rfl, rfl, by decide +kernel, rfl, by decide +kernel, by decide +kernel⟩
abbrev s_counts_after : Stmt := top 23
abbrev N_counts_after : List Str := ["pool", "t"]
theorem sc_counts_after : FnScope N_counts_after ["pool", "t"] (defScope s_counts_after) := ⟨rfl, rfl, rfl, by decide +kernel, rfl, by decide +kernel, by decide +kernel⟩
abbrev s__law_dealt : Stmt := top 25
abbrev N__law_dealt : List Str := ["_law_script", "_law_mixed", "_law_cell"]
theorem sc__law_dealt : FnScope N__law_dealt ["_law_script"] (defScope s__law_dealt) := ⟨rfl, rfl, rfl, by decide +kernel, rfl, by decide +kernel, by decide +kernel⟩
abbrev s__law_draw : Stmt := top 26
abbrev N__law_draw : List Str := ["_law_deck", "_law_many", "_law_mark", "_law_cell"]
theorem sc__law_draw : FnScope N__law_draw ["_law_deck", "_law_many"] (defScope s__law_draw) := ⟨rfl, rfl, rfl, by decide +kernel, rfl, by decide +kernel, by decide +kernel⟩
abbrev s__law_pick : Stmt := top 27
abbrev N__law_pick : List Str := ["_law_deck", "_law_some"]
theorem sc__law_pick : FnScope N__law_pick ["_law_deck", "_law_some"] (defScope s__law_pick) := ⟨rfl, rfl, rfl, by decide +kernel, rfl, by decide +kernel, by decide +kernel⟩
abbrev s__law_is_whole : Stmt := top 28
abbrev N__law_is_whole : List Str := ["_law_thing", "_law_low", "_law_high"]
theorem sc__law_is_whole : FnScope N__law_is_whole ["_law_thing", "_law_low", "_law_high"] (defScope s__law_is_whole) := ⟨rfl, rfl, rfl, by decide +kernel, rfl, by decide +kernel, by decide +kernel⟩
abbrev s__law_pool : Stmt := top 29
abbrev N__law_pool : List Str := ["_law_deck", "_law_many", "_law_way", "_law_names", "_law_found", "_law_at", "_law_weight"]
theorem sc__law_pool : FnScope N__law_pool ["_law_deck"] (defScope s__law_pool) := ⟨rfl, rfl, rfl, by decide +kernel, rfl, by decide +kernel, by decide +kernel⟩
abbrev s__law_is_next : Stmt := top 30
abbrev N__law_is_next : List Str := ["_law_pool_here", "_law_counts", "_law_t", "_law_at", "_law_total", "_law_best", "_law_i", "_law_pair", "_law_dues", "_law_due", "_law_weight", "_law_label"]
theorem sc__law_is_next : FnScope N__law_is_next ["_law_pool_here", "_law_counts", "_law_t", "_law_at"] (defScope s__law_is_next) := ⟨rfl, rfl, rfl, by decide +kernel, rfl, by decide +kernel, by decide +kernel⟩
abbrev s__law_is_share : Stmt := top 31
abbrev N__law_is_share : List Str := ["_law_pool_here", "_law_counts", "_law_t", "_law_total", "_law_pair", "_law_many", "_law_weight", "_law_label"]
theorem sc__law_is_share : FnScope N__law_is_share ["_law_pool_here", "_law_counts", "_law_t"] (defScope s__law_is_share) := ⟨rfl, rfl, rfl, by decide +kernel, rfl, by decide +kernel, by decide +kernel⟩
abbrev s_law : Stmt := top 32
abbrev N_law : List Str := ["_law_script", "_law_deck", "_law_go", "_law_pool_here", "_law_many", "_law_told", "_law_counts", "_law_asked", "_law_t", "_law_at", "_law_so_far", "_law_due", "_law_turn"]
theorem sc_law : FnScope N_law ["_law_script"] (defScope s_law) := ⟨rfl, rfl, rfl, by decide +kernel, rfl, by decide +kernel, by decide +kernel⟩
structure Fn (K : PySem.W.Frag) (mg : Str → Option Value) (x : Str) (st : Stmt) (ps : List Str) (f : Addr) (fd : FuncData) : Prop where
  F : Fun K x x st f fd
  b : Binds K fd ps []
  g : mg x = some (.ref f)
structure Blt (mg : Str → Option Value) : Prop where
  n_len : mg "len" = none
  n_int : mg "int" = none
  n_str : mg "str" = none
  n_isinstance : mg "isinstance" = none
  n_range : mg "range" = none
  n_tuple : mg "tuple" = none
  n_list : mg "list" = none
  n_max : mg "max" = none
  n_min : mg "min" = none
  n_repr : mg "repr" = none
  n_bool : mg "bool" = none
  n_all : mg "all" = none
  n_set : mg "set" = none
  n_sum : mg "sum" = none
  n_enumerate : mg "enumerate" = none
  n_zip : mg "zip" = none
  n_divmod : mg "divmod" = none
structure Con (mg : Str → Option Value) (tw tp tg tt : Tok) : Prop extends Blt mg where
  g_WORD_MOST : mg "WORD_MOST" = some (.int 10 tw)
  g_POOL_MOST : mg "POOL_MOST" = some (.int 8 tp)
  g_WEIGHT_MOST : mg "WEIGHT_MOST" = some (.int 100 tg)
  g_TURNS_MOST : mg "TURNS_MOST" = some (.int 2000 tt)
end Ag

end
/-! ## T1 -/
section
set_option linter.all false
set_option maxRecDepth 100000
namespace Ag
open PySem PySem.Spec PyProof.Rows L2
open SX (S S_len S_cat S_inj)
theorem sz {n : Nat} (h : n ≤ 16000000) : n ≤ sizeLine := by rw [sizeLine_eq]; omega
theorem same_new {H : Hp} {p : Addr} {o : HO} (h : H p = none) : Same H (upd H p o) := fun b x e => by
  rw [upd_ne (ne_of_none e h)]
  exact e
theorem ascii_S (l : List Nat) : Txt.isascii (S l) = l.all (· < 128) := by
  show (S l).cps.all _ = _
  rw [← Array.all_toList]
theorem printable_S (l : List Nat) : Txt.isprintable (S l) = l.all Unicode.isPrintable := by
  show (S l).cps.all _ = _
  rw [← Array.all_toList]
def azC (c : Nat) : Bool := decide (97 ≤ c) && decide (c ≤ 122)
def wordL (l : List Nat) : Bool := (decide (1 ≤ l.length) && decide (l.length ≤ 10)) && l.all azC
theorem alpha128 : ∀ c < 128, Unicode.isAlpha c = ((decide (65 ≤ c) && decide (c ≤ 90)) || azC c) := by decide +kernel
theorem lower128 : ∀ c < 128, Unicode.isLower c = azC c := by decide +kernel
theorem upper128 : ∀ c < 128, (Unicode.isUpper c || Unicode.isTitle c) = (decide (65 ≤ c) && decide (c ≤ 90)) := by decide +kernel
theorem word_of {l : List Nat} (ha : l.all (· < 128) = true) (hne : l ≠ []) : (Txt.isalpha (S l) && Txt.islower (S l)) = l.all azC := by
  have e1 : Txt.isalpha (S l) = l.all Unicode.isAlpha := by
    show (decide ((S l).length > 0) && (S l).cps.all _) = _
    rw [← Array.all_toList, S_len, decide_eq_true (by cases l; exact absurd rfl hne; simp), Bool.true_and]
  have e2 : Txt.islower (S l) = (l.any Unicode.isLower && !l.any fun c => Unicode.isUpper c || Unicode.isTitle c) := by
    show ((S l).cps.any _ && !(S l).cps.any _) = _
    rw [← Array.any_toList, ← Array.any_toList]
  have lt : ∀ c ∈ l, c < 128 := fun c hc => by simpa using List.all_eq_true.mp ha c hc
  rw [e1, e2, Bool.eq_iff_iff]
  simp only [Bool.and_eq_true, List.all_eq_true, List.any_eq_true, Bool.not_eq_true', List.any_eq_false]
  constructor
  · rintro ⟨h1, _, h3⟩ c hc
    have a1 := h1 c hc
    have a3 := h3 c hc
    rw [upper128 c (lt c hc)] at a3
    rw [alpha128 c (lt c hc), Bool.or_eq_true] at a1
    rcases a1 with a1 | a1
    · rw [a1] at a3
      exact absurd rfl a3
    · exact a1
  · intro h
    refine ⟨fun c hc => ?_, ?_, fun c hc => ?_⟩
    · rw [alpha128 c (lt c hc), h c hc, Bool.or_true]
    · cases l with
      | nil => exact absurd rfl hne
      | cons c l => exact ⟨c, List.mem_cons_self, by rw [lower128 c (lt c List.mem_cons_self)]; exact h c List.mem_cons_self⟩
    · rw [upper128 c (lt c hc)]
      have := h c hc
      simp only [azC, Bool.and_eq_true, decide_eq_true_eq] at this
      simp
      omega
theorem bl_t {p : Prop} [Decidable p] (h : p) {Q : VK} {H : Hp} (q : Q (.bl true) H) : Q (.bl (decide p)) H := by rw [decide_eq_true h]; exact q
theorem iteB {b : Bool} (h : b = true) {p q : Prop} (hp : p) : if b = true then p else q := by rw [if_pos h]; exact hp
theorem iteC {b : Bool} (h : b = false) {p q : Prop} (hq : q) : if b = true then p else q := by rw [if_neg (by rw [h]; decide)]; exact hq
theorem map_at {α β : Type} (l : List α) (F : Option α → β) : (List.range l.length).map (fun i => F l[i]?) = l.map fun e => F (some e) := by
  refine List.ext_getElem? fun i => ?_
  rw [List.getElem?_map, List.getElem?_map]
  by_cases h : i < l.length
  · rw [List.getElem?_range h, List.getElem?_eq_getElem h]
    simp [h]
  · rw [List.getElem?_eq_none (by simpa using h), List.getElem?_eq_none (by omega)]
    rfl
/-! ### pools -/
def PlI (H : Hp) (ts : List Addr) (ps : List (List Nat × Nat)) : Prop := ts.length = ps.length ∧ ∀ (j : Nat) (t : Addr), ts[j]? = some t → ∃ e : List Nat × Nat, ps[j]? = some e ∧ H t = some (.tup [.str (S e.1), .int (e.2 : Nat)])
structure PlOk (ps : List (List Nat × Nat)) : Prop where
  n1 : 1 ≤ ps.length
  n8 : ps.length ≤ 8
  wd : ∀ e ∈ ps, wordL e.1 = true
  wt : ∀ e ∈ ps, 1 ≤ e.2 ∧ e.2 ≤ 100
  nd : (ps.map Prod.fst).Nodup
structure Pool (a : Addr) (ts : List Addr) (ps : List (List Nat × Nat)) (H : Hp) : Prop where
  at_ : H a = some (.tup (ts.map V.ref))
  it : PlI H ts ps
  ok : PlOk ps
theorem PlI.to {H H' : Hp} {ts : List Addr} {ps : List (List Nat × Nat)} (h : PlI H ts ps) (s : Same H H') : PlI H' ts ps := ⟨h.1, fun j t e => by
  obtain ⟨x, h1, h2⟩ := h.2 j t e
  exact ⟨x, h1, s _ _ h2⟩⟩
theorem Pool.to {a : Addr} {ts : List Addr} {ps : List (List Nat × Nat)} {H H' : Hp} (p : Pool a ts ps H) (s : Same H H') : Pool a ts ps H' := ⟨s _ _ p.at_, p.it.to s, p.ok⟩
theorem PlI.get {H : Hp} {ts : List Addr} {ps : List (List Nat × Nat)} (h : PlI H ts ps) {j : Nat} {y : V} (hy : (ts.map V.ref)[j]? = some y) : ∃ t e, y = .ref t ∧ ts[j]? = some t ∧ ps[j]? = some e ∧ H t = some (.tup [.str (S e.1), .int (e.2 : Nat)]) := by
  rw [List.getElem?_map] at hy
  cases e : ts[j]? with
  | none => rw [e] at hy; cases hy
  | some t =>
    rw [e] at hy
    obtain ⟨x, h1, h2⟩ := h.2 j t e
    exact ⟨t, x, (Option.some.inj hy).symm, rfl, h1, h2⟩
/-- the weights by place -/
def wF (ps : List (List Nat × Nat)) (i : Nat) : Nat := ((ps[i]?).map Prod.snd).getD 0
theorem wF_at {ps : List (List Nat × Nat)} {i : Nat} {e : List Nat × Nat} (h : ps[i]? = some e) : wF ps i = e.2 := by
  unfold wF
  rw [h]
  rfl
theorem PlOk.w1 {ps : List (List Nat × Nat)} (o : PlOk ps) : ∀ i, i < ps.length → 1 ≤ wF ps i := fun i hi => by
  rw [wF_at (List.getElem?_eq_getElem hi)]
  exact (o.wt _ (List.getElem_mem hi)).1
theorem PlOk.w9 {ps : List (List Nat × Nat)} (o : PlOk ps) : ∀ i, i < ps.length → wF ps i ≤ 100 := fun i hi => by
  rw [wF_at (List.getElem?_eq_getElem hi)]
  exact (o.wt _ (List.getElem_mem hi)).2
/-- all weights together -/
def tW (ps : List (List Nat × Nat)) : Nat := Fair.tot ps.length (wF ps)
theorem sum_range (f : Nat → Nat) : ∀ n, ((List.range n).map fun i => ((f i : Nat) : Int)).sum = ((Fair.sumN n f : Nat) : Int)
  | 0 => rfl
  | n + 1 => by
    rw [List.range_succ, List.map_append, List.sum_append, sum_range f n]
    show _ + List.sum [((f n : Nat) : Int)] = ((Fair.sumN n f + f n : Nat) : Int)
    simp
theorem tW_pos {ps : List (List Nat × Nat)} (o : PlOk ps) : 1 ≤ tW ps := Fair.tot_pos o.n1 o.w1
theorem tW_le {ps : List (List Nat × Nat)} (o : PlOk ps) : tW ps ≤ 800 := by
  have h : Fair.sumN ps.length (wF ps) ≤ Fair.sumN ps.length (fun _ => 100) := Fair.sum_le o.w9
  have e : ∀ n, Fair.sumN n (fun _ => 100) = n * 100 := by
    intro n
    induction n with
    | zero => rfl
    | succ n ih =>
      show Fair.sumN n (fun _ => 100) + 100 = _
      rw [ih]
      omega
  rw [e] at h
  have := o.n8
  unfold tW Fair.tot
  omega
section
variable {P : Program} {w : World} {K : PySem.W.Frag} {mg : Str → Option Value} {base : Heap} {tw tp tg tt : Tok}
def spInteger : Sp := fun vs H Q _ => ∃ i : Int, vs = [.int i] ∧ Q (.bl true) H
theorem ok_is_integer {f : Addr} {fd : FuncData} (F : Fn K mg "is_integer" s_is_integer ["thing"] f fd) (B : Blt mg) : FnOk P w K mg base CX0 1 f fd ["thing"] spInteger := by
  refine F.F.ok sc_is_integer (fun vs H Q E h => ?_) (fun cdv A outer s H vs Q E hr h => ?_)
  · obtain ⟨x, rfl, _⟩ := h
    rfl
  · obtain ⟨x, rfl, q⟩ := h
    refine ⟨_, (pss_one (ps_ret (pe_and (pe_callB call_isi (by rfl) B.n_isinstance (by decide +kernel) (pa_cons (pv 0) (pa_cons (pe_bltn (v := .ty "int") (by rfl) B.n_int (by decide +kernel) rfl) pa_nil))) (pe_one (pe_not (pe_callB call_isi (by rfl) B.n_isinstance (by decide +kernel) (pa_cons (pv 0) (pa_cons (pe_bltn (v := .ty "bool") (by rfl) B.n_bool (by decide +kernel) rfl) pa_nil)))))))), ?_⟩
    refine ⟨.int x, rfl, .int x, .ty "int", _, _, true, rfl, .ty "int", .base (.int _), kit_ty (by decide +kernel), _, rfl, iteT ?_⟩
    exact ⟨.int x, rfl, .int x, .ty "bool", _, _, false, rfl, .ty "bool", .base (.int _), kit_ty (by decide +kernel), _, rfl, q⟩
def spWord : Sp := fun vs H Q _ => ∃ l : List Nat, vs = [.str (S l)] ∧ wordL l = true ∧ Q (.bl true) H
theorem ok_is_word {f : Addr} {fd : FuncData} (F : Fn K mg "is_word" s_is_word ["thing"] f fd) (B : Con mg tw tp tg tt) : FnOk P w K mg base CX0 1 f fd ["thing"] spWord := by
  refine F.F.ok sc_is_word (fun vs H Q E h => ?_) (fun cdv A outer s H vs Q E hr h => ?_)
  · obtain ⟨l, rfl, _⟩ := h
    rfl
  · obtain ⟨l, rfl, hw, q⟩ := h
    refine ⟨_, (pss_cons (ps_if (PW.pt (pw_or (pt_not (pt_val (pe_callB call_isi (by rfl) B.n_isinstance (by decide +kernel) (pa_cons (pv 0) (pa_cons (pe_bltn (v := .ty "str") (by rfl) B.n_str (by decide +kernel) rfl) pa_nil))))) (pw_or1 (pt_not (pt_chain op_le op_le pe_int (pe_callB call_len_str (by rfl) B.n_len PySem.boot_len (pa_cons (pv 0) pa_nil)) (pe_glob (v := .int 10) rfl B.g_WORD_MOST ⟨_, rfl⟩))))))
      (pss_one (ps_ret pe_bl))
      pss_nil)
      (pss_one (ps_ret (pe_and (pe_m0 PySem.F.slot_str_isascii PySem.F.type_str_isascii mt_isascii (pv 0)) (pe_and (pe_m0 PySem.F.slot_str_isalpha PySem.F.type_str_isalpha mt_isalpha (pv 0)) (pe_one (pe_m0 PySem.F.slot_str_islower PySem.F.type_str_islower mt_islower (pv 0)))))))), ?_⟩
    have hw' := hw
    unfold wordL at hw'
    rw [Bool.and_eq_true, Bool.and_eq_true, decide_eq_true_eq, decide_eq_true_eq] at hw'
    obtain ⟨⟨l1, l10⟩, haz⟩ := hw'
    refine ⟨_, rfl, .str (S l), .ty "str", _, _, true, rfl, .ty "str", .base (.str _), kit_ty (by decide +kernel), _, rfl, iteF ?_⟩
    refine ⟨_, rfl, S l, rfl, sz (by rw [S_len]; omega), _, _, rfl, rfl, _, rfl, ?_⟩
    rw [S_len, decide_eq_true (by omega : (1 : Int) ≤ (l.length : Int))]
    refine iteT ⟨_, _, rfl, rfl, _, rfl, ?_⟩
    have hne : l ≠ [] := by
      rintro rfl
      exact absurd l1 (by decide)
    have has : l.all (· < 128) = true := by
      rw [List.all_eq_true] at haz ⊢
      intro c hc
      have := haz c hc
      simp only [azC, Bool.and_eq_true, decide_eq_true_eq] at this ⊢
      omega
    have wo := word_of has hne
    rw [haz, Bool.and_eq_true] at wo
    have l10' : ((l.length : Nat) : Int) ≤ 10 := by omega
    refine (show (if (!decide (((l.length : Nat) : Int) ≤ 10)) = true then _ else _) from ?_)
    rw [decide_eq_true l10']
    refine iteF ?_
    refine ⟨.str (S l), rfl, ⟨_, rfl⟩, S l, rfl, rfl, trivial, _, rfl, ?_⟩
    rw [ascii_S, has]
    refine iteT ⟨.str (S l), rfl, ⟨_, rfl⟩, S l, rfl, rfl, trivial, _, rfl, ?_⟩
    refine iteB wo.1 ⟨.str (S l), rfl, ⟨_, rfl⟩, S l, rfl, rfl, trivial, ?_⟩
    rw [wo.2]
    exact q
def spShare : Sp := fun vs H Q _ => ∃ t l, ∃ w : Nat, vs = [.ref t] ∧ H t = some (.tup [.str (S l), .int w]) ∧ wordL l = true ∧ 1 ≤ w ∧ w ≤ 100 ∧ Q (.bl true) H
theorem ok_is_share {f f1 f2 : Addr} {fd fd1 fd2 : FuncData} (F : Fn K mg "is_share" s_is_share ["thing"] f fd) (B : Con mg tw tp tg tt) (F_is_word : Fn K mg "is_word" s_is_word ["thing"] f1 fd1) (F_is_integer : Fn K mg "is_integer" s_is_integer ["thing"] f2 fd2) : FnOk P w K mg base CX0 2 f fd ["thing"] spShare := by
  have G_is_word : FnOk P w K mg base CX0 1 f1 fd1 ["thing"] spWord := ok_is_word F_is_word B
  have G_is_integer : FnOk P w K mg base CX0 1 f2 fd2 ["thing"] spInteger := ok_is_integer F_is_integer B.toBlt
  refine F.F.ok sc_is_share (fun vs H Q E h => ?_) (fun cdv A outer s H vs Q E hr h => ?_)
  · obtain ⟨t, l, w, rfl, _⟩ := h
    rfl
  · obtain ⟨t, l, w, rfl, ht, hw, w1, w9, q⟩ := h
    refine ⟨_, (pss_cons (ps_if (PW.pt (pw_or (pt_not (pt_val (pe_callB call_isi (by rfl) B.n_isinstance (by decide +kernel) (pa_cons (pv 0) (pa_cons (pe_bltn (v := .ty "tuple") (by rfl) B.n_tuple (by decide +kernel) rfl) pa_nil))))) (pw_or1 (pt_cmpR op_ne (pe_callB call_len_seq (by rfl) B.n_len PySem.boot_len (pa_cons (pv 0) pa_nil)) pe_int (nomark _)))))
      (pss_one (ps_ret pe_bl))
      pss_nil)
      (pss_cons (ps_asg (pv 0) (pg_tup rfl (pgs_cons (pg_name (i := 1) sc_is_share.nd rfl (Or.inl rfl)) (pgs_cons (pg_name (i := 2) sc_is_share.nd rfl (Or.inl rfl)) pgs_nil))))
      (pss_one (ps_ret (pe_and (pe_call G_is_word (hr.mono (by decide)) (by rfl) F_is_word.g F_is_word.F.kp F_is_word.b .nil pass0 (pa_cons (pv 1) pa_nil)) (pe_and (pe_call G_is_integer (hr.mono (by decide)) (by rfl) F_is_integer.g F_is_integer.F.kp F_is_integer.b .nil pass0 (pa_cons (pv 2) pa_nil)) (pe_one (pe_chain op_le op_le pe_int (pv 2) (pe_glob (v := .int 100) rfl B.g_WEIGHT_MOST ⟨_, rfl⟩))))))))), ?_⟩
    refine ⟨_, rfl, .ref t, .ty "tuple", _, _, true, rfl, .ty "tuple", .base (.tup ht), kit_ty (by decide +kernel), _, rfl, iteF ?_⟩
    refine ⟨_, rfl, t, _, rfl, .inr (SqT.of ht), rfl, _, rfl, iteF ?_⟩
    refine ⟨_, rfl, t, _, rfl, SqT.of ht, rfl, _, _, rfl, _, _, rfl, rfl, ?_⟩
    refine ⟨_, rfl, l, rfl, hw, _, rfl, iteT ⟨_, rfl, w, rfl, _, rfl, iteT ⟨_, rfl, _, _, rfl, rfl, _, rfl, ?_⟩⟩⟩
    rw [decide_eq_true (by omega : (1 : Int) ≤ w)]
    exact iteT ⟨_, _, rfl, rfl, bl_t (by omega) q⟩
def spPool : Sp := fun vs H Q _ => ∃ a ts ps, vs = [.ref a] ∧ Pool a ts ps H ∧ ∀ H', Same H H' → Q (.bl true) H'
theorem ok_is_pool {f f1 : Addr} {fd fd1 : FuncData} (F : Fn K mg "is_pool" s_is_pool ["thing"] f fd) (B : Con mg tw tp tg tt) (F_is_share : Fn K mg "is_share" s_is_share ["thing"] f1 fd1) (G_is_share : FnOk P w K mg base CX0 2 f1 fd1 ["thing"] spShare) : FnOk P w K mg base CX0 3 f fd ["thing"] spPool := by
  refine F.F.ok sc_is_pool (fun vs H Q E h => ?_) (fun cdv A outer s H vs Q E hr h => ?_)
  · obtain ⟨a, ts, ps, rfl, _⟩ := h
    rfl
  · obtain ⟨a, ts, ps, rfl, p, q⟩ := h
    refine ⟨_, (pss_cons (ps_if (PW.pt (pw_or (pt_not (pt_val (pe_callB call_isi (by rfl) B.n_isinstance (by decide +kernel) (pa_cons (pv 0) (pa_cons (pe_bltn (v := .ty "tuple") (by rfl) B.n_tuple (by decide +kernel) rfl) pa_nil))))) (pw_or1 (pt_not (pt_chain op_le op_le pe_int (pe_callB call_len_seq (by rfl) B.n_len PySem.boot_len (pa_cons (pv 0) pa_nil)) (pe_glob (v := .int 8) rfl B.g_POOL_MOST ⟨_, rfl⟩))))))
      (pss_one (ps_ret pe_bl))
      pss_nil)
      (pss_cons (ps_if (pt_not (pt_val (pe_callB (cr_all rfl) (by rfl) B.n_all (by decide +kernel) (pa_cons (pe_lc (own := [("pair", 1)]) rfl sc_is_pool.nd (pi_tup (pv 0)) (blkOk_by (N := N_is_pool) (sc := defScope s_is_pool) (by decide +kernel)) (fun _ _ _ _ _ => (pg_name (i := 1) sc_is_pool.nd rfl (Or.inl rfl))) (fun _ _ _ _ _ => pts_nil) (fun _ _ _ _ _ => (pe_call G_is_share (hr.mono (by decide)) (by rfl) F_is_share.g F_is_share.F.kp F_is_share.b .nil pass0 (pa_cons (pv 1) pa_nil)))) pa_nil))))
      (pss_one (ps_ret pe_bl))
      pss_nil)
      (pss_one (ps_ret (pe_cmpR op_eq (pe_callB cr_lenSetS (by rfl) B.n_len PySem.boot_len (pa_cons (pe_callTy (cr_setS rfl) (by rfl) B.n_set (by decide +kernel) (pa_cons (pe_lc (own := [("pair", 1)]) rfl sc_is_pool.nd (pi_tup (pv 0)) (blkOk_by (N := N_is_pool) (sc := defScope s_is_pool) (by decide +kernel)) (fun _ _ _ _ _ => (pg_name (i := 1) sc_is_pool.nd rfl (Or.inl rfl))) (fun _ _ _ _ _ => pts_nil) (fun _ _ _ _ _ => (pe_ix (ix_tupK K rfl) (pv 1) pe_int (fun _ _ => rfl)))) pa_nil)) pa_nil)) (pe_callB call_len_seq (by rfl) B.n_len PySem.boot_len (pa_cons (pv 0) pa_nil)) (nomark _)))))), ?_⟩
    have ln := p.it.1
    have n1 := p.ok.n1
    have n8 := p.ok.n8
    refine ⟨_, rfl, .ref a, .ty "tuple", _, _, true, rfl, .ty "tuple", .base (.tup p.at_), kit_ty (by decide +kernel), _, rfl, iteF ?_⟩
    refine ⟨_, rfl, a, _, rfl, .inr (SqT.of p.at_), _, _, rfl, rfl, _, rfl, ?_⟩
    rw [List.length_map, decide_eq_true (by omega : (1 : Int) ≤ (ts.length : Int))]
    refine iteT ⟨_, _, rfl, rfl, _, rfl, ?_⟩
    refine (show (if (!decide (((ts.length : Nat) : Int) ≤ 8)) = true then _ else _) from ?_)
    rw [decide_eq_true (by omega : ((ts.length : Nat) : Int) ≤ 8)]
    refine iteF ⟨_, rfl, a, rfl, ⟨_, SqT.of p.at_⟩, fun D hD => ?_⟩
    refine lc_sel (walk_tup (K := K) (a := a) (xs := ts.map V.ref)) (fun _ => true) (fun _ => .bl true) (by rw [List.length_map]; omega) hD (fun H' s => SqT.of (s _ _ p.at_)) ?_ ?_
    · rintro j y H1 H2 k k0 hi s1 ⟨rfl, hy⟩ hk _
      obtain ⟨t, e, rfl, _, he, ht⟩ := (p.it.to s1).get hy
      have hm := List.mem_of_getElem? he
      exact ⟨rfl, _, rfl, t, e.1, e.2, rfl, ht, p.ok.wd e hm, (p.ok.wt e hm).1, (p.ok.wt e hm).2, hk rfl _ (Same.refl _)⟩
    · intro H1 s1 h1
      rw [filt_all, bls_map] at h1
      refine ⟨D, _, rfl, SqL.of h1, _, rfl, ?_⟩
      have eall : ((List.range (ts.map V.ref).length).map fun _ => true).all id = true := by simp
      rw [eall]
      have p1 := p.to s1
      refine iteF ⟨_, rfl, a, rfl, ⟨_, SqT.of p1.at_⟩, fun D2 hD2 => ?_⟩
      refine lc_sel (walk_tup (K := K) (a := a) (xs := ts.map V.ref)) (fun _ => true) (fun i => .str (S (((ps[i]?).map Prod.fst).getD []))) (by rw [List.length_map]; omega) hD2 (fun H' s => SqT.of (s _ _ p1.at_)) ?_ ?_
      · rintro j y H3 H4 k k0 hi s2 ⟨rfl, hy⟩ hk _
        obtain ⟨t, e, rfl, _, he, ht⟩ := (p1.it.to s2).get hy
        have hk := hk rfl _ (Same.refl _)
        rw [he] at hk
        exact ⟨rfl, _, rfl, t, _, _, _, rfl, rfl, SqT.of ht, rfl, hk⟩
      · intro H3 s3 h3
        have el : (List.range (ts.map V.ref).length).map (fun i => V.str (S (((ps[i]?).map Prod.fst).getD []))) = (ps.map fun e => S e.1).map V.str := by
          rw [List.length_map, ln, map_at ps fun o => V.str (S ((o.map Prod.fst).getD [])), List.map_map]
          rfl
        rw [filt_all, el] at h3
        have s13 := s1.trans s3
        refine ⟨D2, _, rfl, SqL.of h3, by rw [List.length_map]; omega, ?_, fun R hR => ⟨R, _, rfl, upd_same, by rw [List.length_map]; omega, ?_⟩⟩
        · have nd := p.ok.nd
          unfold List.Nodup at nd ⊢
          rw [List.pairwise_map] at nd ⊢
          exact nd.imp fun h z => h (S_inj z)
        · have s4 := s13.trans (same_new (o := SetSO P w R (ps.map fun e => S e.1)) hR)
          refine ⟨_, rfl, a, _, rfl, .inr (SqT.of (s4 _ _ p.at_)), rfl, ?_⟩
          refine bl_t ?_ (q _ s4)
          rw [List.length_map, List.length_map, ln]
def spWs : Sp := fun vs H Q _ => ∃ a ts ps, vs = [.ref a] ∧ Pool a ts ps H ∧ ∀ H', Same H H' → Q (.int (tW ps : Nat)) H'
theorem ok_ws {f : Addr} {fd : FuncData} (F : Fn K mg "weight_sum" s_weight_sum ["pool"] f fd) (B : Blt mg) : FnOk P w K mg base CX0 1 f fd ["pool"] spWs := by
  refine F.F.ok sc_weight_sum (fun vs H Q E h => ?_) (fun cdv A outer s H vs Q E hr h => ?_)
  · obtain ⟨a, ts, ps, rfl, _⟩ := h
    rfl
  · obtain ⟨a, ts, ps, rfl, p, q⟩ := h
    refine ⟨_, (pss_one (ps_ret (pe_callB (cr_sum rfl) (by rfl) B.n_sum (by decide +kernel) (pa_cons (pe_lc (own := [("_", 2), ("weight", 1)]) rfl sc_weight_sum.nd (pi_tup (pv 0)) (blkOk_by (N := N_weight_sum) (sc := defScope s_weight_sum) (by decide +kernel)) (fun _ _ _ _ _ => pg_two (i := 2) (j := 1) K rfl sc_weight_sum.nd rfl rfl rfl rfl rfl) (fun _ _ _ _ _ => pts_nil) (fun _ _ _ _ _ => (pv 1))) pa_nil)))), ?_⟩
    refine ⟨_, rfl, a, rfl, ⟨_, SqT.of p.at_⟩, fun D hD => ?_⟩
    have n8 := p.ok.n8
    have ln := p.it.1
    refine lc_sel (walk_tup (K := K) (a := a) (xs := ts.map V.ref)) (fun _ => true) (fun i => .int ((wF ps i : Nat) : Int)) (by rw [List.length_map]; omega) hD (fun H' s => SqT.of (s _ _ p.at_)) ?_ ?_
    · rintro j y H1 H2 k k0 hi s1 ⟨rfl, hy⟩ hk _
      obtain ⟨t, e, rfl, _, he, ht⟩ := (p.it.to s1).get hy
      have hk := hk rfl _ (Same.refl _)
      rw [wF_at he] at hk
      exact ⟨t, _, rfl, SqT.of ht, rfl, _, _, rfl, _, _, rfl, rfl, rfl, _, rfl, hk⟩
    · intro H1 s1 h1
      have e1 : (List.range (ts.map V.ref).length).map (fun i => V.int ((wF ps i : Nat) : Int)) = ((List.range ps.length).map fun i => ((wF ps i : Nat) : Int)).map V.int := by
        rw [List.length_map, ln, List.map_map]
        rfl
      rw [filt_all, e1] at h1
      refine ⟨D, _, rfl, SqL.of h1, ?_⟩
      rw [sum_range]
      exact q _ s1
/-- counts as values -/
def ctV (cs : List Nat) : List V := cs.map fun k => V.int ((k : Nat) : Int)
theorem ctV_len (cs : List Nat) : (ctV cs).length = cs.length := by simp [ctV]
theorem ctV_at {cs : List Nat} {j n : Nat} (h : cs[j]? = some n) : (ctV cs)[j]? = some (.int ((n : Nat) : Int)) := by
  unfold ctV
  rw [List.getElem?_map, h]
  rfl
theorem ctV_int (cs : List Nat) : ctV cs = (cs.map fun k => ((k : Nat) : Int)).map V.int := by
  unfold ctV
  rw [List.map_map]
  rfl
theorem sum_int : ∀ cs : List Nat, (cs.map fun k => ((k : Nat) : Int)).sum = ((cs.sum : Nat) : Int)
  | [] => rfl
  | c :: cs => by
    rw [List.map_cons, List.sum_cons, List.sum_cons, sum_int cs]
    omega
/-- counts stand at c, in a list or a tuple -/
def CtA (H : Hp) (c : Addr) (cs : List Nat) : Prop := H c = some (.lst (ctV cs)) ∨ H c = some (.tup (ctV cs))
theorem CtA.to {H H' : Hp} {c : Addr} {cs : List Nat} (h : CtA H c cs) (s : Same H H') : CtA H' c cs := by
  rcases h with h | h
  · exact .inl (s _ _ h)
  · exact .inr (s _ _ h)
theorem CtA.ix {K : PySem.W.Frag} {H : Hp} {c : Addr} {cs : List Nat} (h : CtA H c cs) {j n : Nat} (hj : cs[j]? = some n) {Q : VK} (q : Q (.int ((n : Nat) : Int)) H) : rIx K (.ref c) (.int ((j : Nat) : Int)) H Q := by
  rcases h with h | h
  · exact .inl ⟨c, _, _, _, rfl, rfl, SqL.of h, atI_nat (ctV_at hj), q⟩
  · exact .inr (.inl ⟨c, _, _, _, rfl, rfl, SqT.of h, atI_nat (ctV_at hj), q⟩)
theorem CtA.sum {K : PySem.W.Frag} {H : Hp} {c : Addr} {cs : List Nat} (h : CtA H c cs) {Q : VK} (q : Q (.int ((cs.sum : Nat) : Int)) H) : rSum K [.ref c] H Q ∨ rSumT K [.ref c] H Q := by
  rw [← sum_int] at q
  rcases h with h | h
  · rw [ctV_int] at h
    exact .inl ⟨c, _, rfl, SqL.of h, q⟩
  · rw [ctV_int] at h
    exact .inr ⟨c, _, rfl, SqT.of h, q⟩
def spLoads : Sp := fun vs H Q _ => ∃ a ts ps c, ∃ cs : List Nat, vs = [.ref a, .ref c] ∧ Pool a ts ps H ∧ H c = some (.tup (ctV cs)) ∧ cs.length = ps.length ∧ ∀ H', Same H H' → Q (.bl true) H'
theorem ok_loads {f f1 : Addr} {fd fd1 : FuncData} (F : Fn K mg "are_loads" s_are_loads ["pool", "thing"] f fd) (B : Blt mg) (F_is_integer : Fn K mg "is_integer" s_is_integer ["thing"] f1 fd1) : FnOk P w K mg base CX0 2 f fd ["pool", "thing"] spLoads := by
  have G_is_integer : FnOk P w K mg base CX0 1 f1 fd1 ["thing"] spInteger := ok_is_integer F_is_integer B
  refine F.F.ok sc_are_loads (fun vs H Q E h => ?_) (fun cdv A outer s H vs Q E hr h => ?_)
  · obtain ⟨a, ts, ps, c, cs, rfl, _⟩ := h
    rfl
  · obtain ⟨a, ts, ps, c, cs, rfl, p, hc, hl, q⟩ := h
    refine ⟨_, (pss_cons (ps_if (PW.pt (pw_or (pt_not (pt_val (pe_callB call_isi (by rfl) B.n_isinstance (by decide +kernel) (pa_cons (pv 1) (pa_cons (pe_bltn (v := .ty "tuple") (by rfl) B.n_tuple (by decide +kernel) rfl) pa_nil))))) (pw_or1 (pt_cmpR op_ne (pe_callB call_len_seq (by rfl) B.n_len PySem.boot_len (pa_cons (pv 1) pa_nil)) (pe_callB call_len_seq (by rfl) B.n_len PySem.boot_len (pa_cons (pv 0) pa_nil)) (nomark _)))))
      (pss_one (ps_ret pe_bl))
      pss_nil)
      (pss_one (ps_ret (pe_callB (cr_all rfl) (by rfl) B.n_all (by decide +kernel) (pa_cons (pe_lc (own := [("load", 2)]) rfl sc_are_loads.nd (pi_tup (pv 1)) (blkOk_by (N := N_are_loads) (sc := defScope s_are_loads) (by decide +kernel)) (fun _ _ _ _ _ => (pg_name (i := 2) sc_are_loads.nd rfl (Or.inl rfl))) (fun _ _ _ _ _ => pts_nil) (fun _ _ _ _ _ => (pe_and (pe_call G_is_integer (hr.mono (by decide)) (by rfl) F_is_integer.g F_is_integer.F.kp F_is_integer.b .nil pass0 (pa_cons (pv 2) pa_nil)) (pe_one (pe_cmpR op_ge (pv 2) pe_int (nomark _)))))) pa_nil))))), ?_⟩
    have n8 := p.ok.n8
    have ln := p.it.1
    refine ⟨_, rfl, .ref c, .ty "tuple", _, _, true, rfl, .ty "tuple", .base (.tup hc), kit_ty (by decide +kernel), _, rfl, iteF ?_⟩
    refine ⟨_, rfl, c, _, rfl, .inr (SqT.of hc), _, rfl, a, _, rfl, .inr (SqT.of p.at_), rfl, _, rfl, ?_⟩
    rw [decide_eq_true (by rw [ctV_len, List.length_map, hl, ln])]
    refine iteF ⟨_, rfl, c, rfl, ⟨_, SqT.of hc⟩, fun D hD => ?_⟩
    refine lc_sel (walk_tup (K := K) (a := c) (xs := ctV cs)) (fun _ => true) (fun _ => .bl true) (by rw [ctV_len]; omega) hD (fun H' s => SqT.of (s _ _ hc)) ?_ ?_
    · rintro j y H1 H2 k k0 hi s1 ⟨rfl, hy⟩ hk _
      have hk := hk rfl _ (Same.refl _)
      unfold ctV at hy
      rw [List.getElem?_map] at hy
      obtain ⟨n, hn, rfl⟩ : ∃ n : Nat, cs[j]? = some n ∧ V.int (n : Int) = y := by
        cases e : cs[j]? with
        | none => rw [e] at hy; cases hy
        | some n => rw [e] at hy; exact ⟨n, rfl, Option.some.inj hy⟩
      refine ⟨rfl, _, rfl, n, rfl, _, rfl, iteT ⟨_, rfl, _, _, rfl, rfl, bl_t (by omega) hk⟩⟩
    · intro H1 s1 h1
      rw [filt_all, bls_map] at h1
      refine ⟨D, _, rfl, SqL.of h1, ?_⟩
      have eall : ((List.range (ctV cs).length).map fun _ => true).all id = true := by simp
      rw [eall]
      exact q _ s1
end
end Ag

end
/-! ## T2 -/
section
set_option linter.all false
set_option maxRecDepth 100000
namespace Ag
open PySem PySem.Spec PyProof.Rows L2
/-- counts by place -/
def kF (cs : List Nat) (i : Nat) : Nat := (cs[i]?).getD 0
theorem kF_at {cs : List Nat} {i n : Nat} (h : cs[i]? = some n) : kF cs i = n := by
  unfold kF
  rw [h]
  rfl
theorem sum_kF (cs : List Nat) : Fair.sumN cs.length (kF cs) = cs.sum := by
  have key : ∀ l : List Nat, Fair.sumN l.reverse.length (kF l.reverse) = l.reverse.sum := by
    intro l
    induction l with
    | nil => rfl
    | cons x l ih =>
      rw [List.reverse_cons, List.length_append, List.sum_append, ← ih]
      show Fair.sumN l.reverse.length (kF (l.reverse ++ [x])) + kF (l.reverse ++ [x]) l.reverse.length = _
      have e1 : kF (l.reverse ++ [x]) l.reverse.length = x := kF_at (by simp)
      have e2 : Fair.sumN l.reverse.length (kF (l.reverse ++ [x])) = Fair.sumN l.reverse.length (kF l.reverse) := Fair.sum_congr fun i hi => by
        unfold kF
        rw [List.getElem?_append_left hi]
      rw [e1, e2]
      simp
  have := key cs.reverse
  rwa [List.reverse_reverse] at this
theorem ceil_neg {a w : Nat} (hw : 1 ≤ w) : -((-((a : Nat) : Int)) / ((w : Nat) : Int)) = (((a + w - 1) / w : Nat) : Int) := by
  generalize hq : (a + w - 1) / w = q
  have h1 := Nat.div_add_mod (a + w - 1) w
  have h2 := Nat.mod_lt (a + w - 1) (show 0 < w by omega)
  rw [hq] at h1
  generalize (a + w - 1) % w = r at h1 h2
  have key : (-((a : Nat) : Int)) / ((w : Nat) : Int) = -((q : Nat) : Int) ∧ (-((a : Nat) : Int)) % ((w : Nat) : Int) = ((w - 1 - r : Nat) : Int) := by
    refine (Int.ediv_emod_unique (by omega)).mpr ⟨?_, by omega, by omega⟩
    rw [Int.mul_neg, ← Int.natCast_mul]
    generalize w * q = z at h1 ⊢
    omega
  rw [key.1]
  omega
/-- the best of the first i -/
def Bst (n : Nat) (w k : Nat → Nat) (t i : Nat) (b d : V) : Prop := (b = .non ∧ d = .non ∧ ∀ j, j < i → ¬ Fair.rdy n w k j t) ∨
  ∃ m : Nat, b = .int (m : Int) ∧ d = .int ((Fair.due n w k m : Nat) : Int) ∧ m < i ∧ Fair.rdy n w k m t ∧ ∀ j, j < i → Fair.rdy n w k j t → Fair.due n w k m < Fair.due n w k j ∨ (Fair.due n w k m = Fair.due n w k j ∧ m ≤ j)
section
variable {P : Program} {w : World} {K : PySem.W.Frag} {mg : Str → Option Value} {base : Heap} {tw tp tg tt : Tok}
def spAfter : Sp := fun vs H Q _ => ∃ a ts ps c cs, vs = [.ref a, .ref c] ∧ Pool a ts ps H ∧ CtA H c cs ∧ cs.length = ps.length ∧ ∀ (i : Nat) H', Same H H' → Fair.Pick ps.length (wF ps) (kF cs) (cs.sum + 1) i → Q (.int (i : Int)) H'
set_option maxHeartbeats 1000000 in
theorem ok_after {f f1 : Addr} {fd fd1 : FuncData} (F : Fn K mg "turn_after" s_turn_after ["pool", "counts"] f fd) (B : Blt mg) (F_weight_sum : Fn K mg "weight_sum" s_weight_sum ["pool"] f1 fd1) : FnOk P w K mg base CX0 2 f fd ["pool", "counts"] spAfter := by
  have G_weight_sum : FnOk P w K mg base CX0 1 f1 fd1 ["pool"] spWs := ok_ws F_weight_sum B
  refine F.F.ok sc_turn_after (fun vs H Q E h => ?_) (fun cdv A outer s H vs Q E hr h => ?_)
  · obtain ⟨a, ts, ps, c, cs, rfl, _⟩ := h
    rfl
  · obtain ⟨a, ts, ps, c, cs, rfl, p, hc, hl, q⟩ := h
    refine ⟨_, (pss_cons (ps_set (i := 2) sc_turn_after.nd rfl (.inl rfl) (pe_call G_weight_sum (hr.mono (by decide)) (by rfl) F_weight_sum.g F_weight_sum.F.kp F_weight_sum.b .nil pass0 (pa_cons (pv 0) pa_nil)))
      (pss_cons (ps_set (i := 3) sc_turn_after.nd rfl (.inl rfl) (pe_op op_add (pe_callB (cr_sumA rfl) (by rfl) B.n_sum (by decide +kernel) (pa_cons (pv 1) pa_nil)) pe_int))
      (pss_cons (ps_asg (pe_tup (pa_cons pe_non (pa_cons pe_non pa_nil))) (pg_tup rfl (pgs_cons (pg_name (i := 4) sc_turn_after.nd rfl (Or.inl rfl)) (pgs_cons (pg_name (i := 5) sc_turn_after.nd rfl (Or.inl rfl)) pgs_nil))))
      (pss_cons (ps_for PassesOwn.never rfl (pi_enumT (by rfl) B.n_enumerate (pa_cons (pv 0) pa_nil)) (pg_tup rfl (pgs_cons (pg_name (i := 6) sc_turn_after.nd rfl (Or.inl rfl)) (pgs_cons (pg_tup rfl (pgs_cons (pg_name (i := 7) sc_turn_after.nd rfl (Or.inl rfl)) (pgs_cons (pg_name (i := 8) sc_turn_after.nd rfl (Or.inl rfl)) pgs_nil))) pgs_nil)))
      (pss_cons (ps_set (i := 9) sc_turn_after.nd rfl (.inl rfl) (pe_ix ix_seq (pv 1) (pv 6) (fun _ _ => rfl)))
        (pss_cons (ps_set (i := 10) sc_turn_after.nd rfl (.inl rfl) (pe_un un_neg (pe_op op_fdiv (pe_op op_mul (pe_un un_neg (pe_op op_add (pv 9) pe_int)) (pv 2)) (pv 8))))
        (pss_cons (ps_set (i := 11) sc_turn_after.nd rfl (.inl rfl) (pe_cmpR op_gt (pv 3) (pe_op op_fdiv (pe_op op_mul (pv 9) (pv 2)) (pv 8)) (nomark _)))
        (pss_one (ps_if (PW.pt (pw_and (pt_val (pv 11)) (pw_and1 (PW.pt (pw_or (pt_cmpR op_isN (pv 4) pe_non (nomark _)) (pw_or1 (pt_cmpR op_lt (pv 10) (pv 5) (nomark _))))))))
        (pss_one (ps_par (i := 4) (j := 5) (by rfl) sc_turn_after.nd rfl rfl (by decide) rfl rfl (pa_cons (pv 6) (pa_cons (pv 10) pa_nil)) (by rfl)))
        pss_nil))))))
      (pss_one (ps_ret (pv 4))))))), ?_⟩
    refine ⟨_, rfl, a, ts, ps, rfl, p, fun H1 s1 => ?_⟩
    refine ⟨_, rfl, (hc.to s1).sum ⟨_, _, rfl, rfl, ?_⟩⟩
    refine ⟨sz (by show 2 ≤ 16000000; decide), fun T hT => ⟨T, _, rfl, SqT.of upd_same, rfl, _, _, rfl, _, _, rfl, rfl, ?_⟩⟩
    have s2 := s1.trans (same_new (o := .tup [.non, .non]) hT)
    generalize upd H1 T (.tup [.non, .non]) = H2 at s2 ⊢
    have n8 := p.ok.n8
    have ln := p.it.1
    refine ⟨_, rfl, a, _, rfl, SqT.of (s2 _ _ p.at_), ?_⟩
    refine for_it (walk_enumT (K := K) (a := a) (xs := ts.map V.ref)) (fun j σ H' => ∃ (b d : V) (x6 x7 x8 x9 x10 x11 : Option V), σ = [some (.ref a), some (.ref c), some (.int (tW ps : Nat)), some (.int ((cs.sum : Nat) + 1)), some b, some d, x6, x7, x8, x9, x10, x11] ∧ Same H H' ∧ Bst ps.length (wF ps) (kF cs) (cs.sum + 1) j b d) ⟨_, _, none, none, none, none, none, none, rfl, s2, .inl ⟨rfl, rfl, fun j hj => by omega⟩⟩ (fun j σ H' _ z => ?_) ?_ ?_
    · obtain ⟨_, _, _, _, _, _, _, _, _, sm, _⟩ := z
      exact SqT.of (sm _ _ p.at_)
    · rintro j y σ H3 H4 hj ⟨b, d, x6, x7, x8, x9, x10, x11, rfl, s3, hb⟩ ⟨T2, x, rfl, hT2, rfl, hx⟩
      rw [List.length_map, ln] at hj
      have s4 := s3.trans (same_new (o := .tup [.int (j : Nat), x]) hT2)
      have h4 : upd H3 T2 (.tup [.int (j : Nat), x]) T2 = some (.tup [.int (j : Nat), x]) := upd_same
      generalize upd H3 T2 (.tup [.int (j : Nat), x]) = H4 at s4 h4 ⊢
      obtain ⟨t, e, rfl, _, he, ht⟩ := (p.it.to s4).get hx
      have hw := p.ok.wt e (List.mem_of_getElem? he)
      obtain ⟨k, hk⟩ : ∃ k, cs[j]? = some k := ⟨cs[j]'(by omega), List.getElem?_eq_getElem (by omega)⟩
      refine ⟨T2, _, rfl, SqT.of h4, rfl, _, _, rfl, _, _, rfl, ⟨t, _, rfl, SqT.of ht, rfl, _, _, rfl, _, _, rfl, rfl, rfl, ?_⟩⟩
      refine ⟨_, rfl, _, rfl, (hc.to s4).ix hk ?_⟩
      refine ⟨_, rfl, _, _, rfl, rfl, _, rfl, _, rfl, _, _, rfl, rfl, .inr ⟨by omega, by have := tW_le p.ok; omega⟩, _, rfl, _, _, rfl, rfl, ⟨by omega, by omega⟩, _, rfl, ?_⟩
      have hW : tW ps = Fair.tot ps.length (wF ps) := rfl
      have hD : Fair.due ps.length (wF ps) (kF cs) j = ((k + 1) * tW ps + e.2 - 1) / e.2 := by
        unfold Fair.due
        rw [kF_at hk, wF_at he, ← hW]
      have hdue : -(-((k : Int) + 1) * (tW ps : Int) / (e.2 : Int)) = ((Fair.due ps.length (wF ps) (kF cs) j : Nat) : Int) := by
        rw [hD, ← ceil_neg hw.1, Int.neg_mul, Int.natCast_mul]
        rfl
      have hrd : ((cs.sum : Nat) : Int) + 1 > (k : Int) * (tW ps : Int) / (e.2 : Int) ↔ Fair.rdy ps.length (wF ps) (kF cs) j (cs.sum + 1) := by
        unfold Fair.rdy
        rw [kF_at hk, wF_at he, ← hW, ← Int.natCast_mul, ← Int.natCast_ediv]
        omega
      refine ⟨_, rfl, _, rfl, _, rfl, _, _, rfl, rfl, .inr ⟨by omega, by have := tW_le p.ok; omega⟩, _, rfl, _, _, rfl, rfl, ⟨by omega, by omega⟩, _, _, rfl, rfl, ?_⟩
      refine ⟨_, rfl, _, rfl, ?_⟩
      by_cases hr : Fair.rdy ps.length (wF ps) (kF cs) j (cs.sum + 1)
      · refine iteB (decide_eq_true (hrd.mpr hr)) ?_
        rcases hb with ⟨rfl, rfl, hno⟩ | ⟨m, rfl, rfl, hm, hmr, hbest⟩
        · refine ⟨_, rfl, rfl, _, rfl, iteT (iteT ?_)⟩
          refine ⟨_, rfl, _, rfl, _, _, rfl, _, _, _, _, _, _, _, _, rfl, s4, .inr ⟨j, rfl, congrArg V.int hdue, by omega, hr, fun i hi hri => ?_⟩⟩
          by_cases z : i = j
          · subst z
            exact .inr ⟨rfl, Nat.le_refl _⟩
          · exact absurd hri (hno i (by omega))
        · refine ⟨_, rfl, rfl, _, rfl, iteF ⟨_, rfl, _, rfl, _, _, rfl, rfl, _, rfl, ?_⟩⟩
          by_cases hlt : Fair.due ps.length (wF ps) (kF cs) j < Fair.due ps.length (wF ps) (kF cs) m
          · refine iteB (decide_eq_true (show -(-((k : Int) + 1) * (tW ps : Int) / (e.2 : Int)) < _ by rw [hdue]; omega)) ?_
            refine ⟨_, rfl, _, rfl, _, _, rfl, _, _, _, _, _, _, _, _, rfl, s4, .inr ⟨j, rfl, congrArg V.int hdue, by omega, hr, fun i hi hri => ?_⟩⟩
            by_cases z : i = j
            · subst z
              exact .inr ⟨rfl, Nat.le_refl _⟩
            · have := hbest i (by omega) hri
              omega
          · refine iteC (decide_eq_false (show ¬ -(-((k : Int) + 1) * (tW ps : Int) / (e.2 : Int)) < _ by rw [hdue]; omega)) ?_
            refine ⟨_, _, _, _, _, _, _, _, rfl, s4, .inr ⟨m, rfl, rfl, by omega, hmr, fun i hi hri => ?_⟩⟩
            by_cases z : i = j
            · subst z
              omega
            · exact hbest i (by omega) hri
      · refine iteC (decide_eq_false fun z => hr (hrd.mp z)) ?_
        refine ⟨b, d, _, _, _, _, _, _, rfl, s4, ?_⟩
        rcases hb with ⟨rfl, rfl, hno⟩ | ⟨m, rfl, rfl, hm, hmr, hbest⟩
        · refine .inl ⟨rfl, rfl, fun i hi => ?_⟩
          by_cases z : i = j
          · subst z
            exact hr
          · exact hno i (by omega)
        · refine .inr ⟨m, rfl, rfl, by omega, hmr, fun i hi hri => ?_⟩
          by_cases z : i = j
          · subst z
            exact absurd hri hr
          · exact hbest i (by omega) hri
    · rintro σ H3 ⟨b, d, x6, x7, x8, x9, x10, x11, rfl, s3, hb⟩
      rw [List.length_map, ln] at hb
      rcases hb with ⟨rfl, rfl, hno⟩ | ⟨m, rfl, rfl, hm, hr, hbest⟩
      · obtain ⟨i, pk⟩ := Fair.exists_pick (n := ps.length) (w := wF ps) (k := kF cs) (t := cs.sum) p.ok.n1 p.ok.w1 (by rw [← hl, sum_kF])
        exact absurd pk.rd (hno i pk.lt)
      · exact ⟨_, rfl, q m H3 s3 ⟨hm, hr, hbest⟩⟩
end
end Ag

end
/-! ## T3 -/
section
set_option linter.all false
set_option maxRecDepth 100000
namespace Ag
open PySem PySem.Spec PyProof.Rows L2
/-! ### turns in a row -/
def kc (l : List Nat) : Nat → Nat := fun j => l.count j
inductive Tn (n : Nat) (w : Nat → Nat) : List Nat → Prop
  | nil : Tn n w []
  | snoc {l : List Nat} {i : Nat} : Tn n w l → Fair.Pick n w (kc l) (l.length + 1) i → Tn n w (l ++ [i])
theorem kc_snoc (l : List Nat) (i : Nat) : kc (l ++ [i]) = Fair.bump (kc l) i := by
  funext j
  unfold kc Fair.bump
  rw [List.count_append, List.count_singleton]
  by_cases h : j = i
  · subst h
    simp
  · rw [if_neg h]
    have : (i == j) = false := by simpa using fun z : i = j => h z.symm
    simp [this]
theorem Tn.run {n : Nat} {w : Nat → Nat} {l : List Nat} (t : Tn n w l) : Fair.Run n w (kc l) l.length := by
  induction t with
  | nil => exact .zero
  | snoc t p ih =>
    rw [kc_snoc, List.length_append]
    exact ih.step p
theorem Tn.lt {n : Nat} {w : Nat → Nat} {l : List Nat} (t : Tn n w l) : ∀ i ∈ l, i < n := by
  induction t with
  | nil => simp
  | snoc t p ih =>
    intro i hi
    rcases List.mem_append.mp hi with h | h
    · exact ih i h
    · rw [List.mem_singleton.mp h]
      exact p.lt
theorem Tn.uniq {n : Nat} {w : Nat → Nat} {l : List Nat} (t : Tn n w l) : ∀ {l' : List Nat}, Tn n w l' → l.length = l'.length → l = l' := by
  induction t with
  | nil =>
    intro l' _ h
    exact (List.eq_nil_of_length_eq_zero h.symm).symm
  | @snoc l i t p ih =>
    intro l' t' h
    cases t' with
    | nil => simp at h
    | @snoc k j t' p' =>
      simp only [List.length_append, List.length_singleton, Nat.add_right_cancel_iff] at h
      have e := ih t' h
      subst e
      rw [p.uniq n w p']
theorem Tn.take {n : Nat} {w : Nat → Nat} {l : List Nat} (t : Tn n w l) : ∀ m, m ≤ l.length → Tn n w (l.take m) := by
  induction t with
  | nil => intro m _; simpa using Tn.nil
  | @snoc l i t p ih =>
    intro m hm
    by_cases h : m ≤ l.length
    · rw [List.take_append_of_le_length h]
      exact ih m h
    · rw [List.length_append, List.length_singleton] at hm
      rw [List.take_of_length_le (by simp; omega)]
      exact t.snoc p
/-- the counts of a row, by place -/
def csOf (n : Nat) (l : List Nat) : List Nat := (List.range n).map fun j => l.count j
theorem csOf_len (n : Nat) (l : List Nat) : (csOf n l).length = n := by simp [csOf]
theorem csOf_at {n : Nat} {l : List Nat} {j : Nat} (h : j < n) : (csOf n l)[j]? = some (l.count j) := by
  unfold csOf
  rw [List.getElem?_map, List.getElem?_range h]
  rfl
theorem kF_csOf {n : Nat} {w : Nat → Nat} {l : List Nat} (t : Tn n w l) : kF (csOf n l) = kc l := by
  funext j
  by_cases h : j < n
  · exact kF_at (csOf_at h)
  · unfold kF kc
    rw [List.getElem?_eq_none (by rw [csOf_len]; omega)]
    exact (List.count_eq_zero.mpr fun z => h (t.lt j z)).symm
theorem csOf_sum {n : Nat} {w : Nat → Nat} {l : List Nat} (hn : 1 ≤ n) (hw : ∀ i, i < n → 1 ≤ w i) (t : Tn n w l) : (csOf n l).sum = l.length := by
  rw [← sum_kF, csOf_len, kF_csOf t]
  exact (t.run.inv hn hw).sum
theorem csOf_snoc {n : Nat} {l : List Nat} {i : Nat} (hi : i < n) : (ctV (csOf n l)).set i (.int ((l.count i : Nat) + 1)) = ctV (csOf n (l ++ [i])) := by
  refine List.ext_getElem? fun j => ?_
  rw [List.getElem?_set]
  by_cases hj : j < n
  · rw [ctV_at (csOf_at (l := l ++ [i]) hj)]
    by_cases h : i = j
    · subst h
      rw [if_pos rfl, if_pos (by rw [ctV_len, csOf_len]; exact hj)]
      simp [List.count_append]
    · rw [if_neg h, ctV_at (csOf_at hj), List.count_append, List.count_singleton]
      have : (i == j) = false := by simpa using h
      simp [this]
  · rw [if_neg (by omega), List.getElem?_eq_none (by rw [ctV_len, csOf_len]; omega), List.getElem?_eq_none (by rw [ctV_len, csOf_len]; omega)]
theorem rep0 (n : Nat) : (List.replicate n [V.int 0]).flatten = ctV (csOf n []) := by
  refine List.ext_getElem? fun j => ?_
  have e : (List.replicate n [V.int 0]).flatten = List.replicate n (V.int 0) := by
    induction n with
    | zero => rfl
    | succ n ih => rw [List.replicate_succ, List.flatten_cons, ih, List.replicate_succ]; rfl
  rw [e]
  by_cases hj : j < n
  · rw [ctV_at (csOf_at hj), List.getElem?_replicate, if_pos hj]
    rfl
  · rw [List.getElem?_eq_none (by simpa using hj), List.getElem?_eq_none (by rw [ctV_len, csOf_len]; omega)]
theorem ixN_nat {n i : Nat} (h : i < n) : ixN n ((i : Nat) : Int) = some i := by
  unfold ixN
  rw [if_pos (by omega), if_pos (by omega), show ((i : Nat) : Int).toNat = i by simp]
section
variable {P : Program} {w : World} {K : PySem.W.Frag} {mg : Str → Option Value} {base : Heap} {tw tp tg tt : Tok}
def spFirst : Sp := fun vs H Q _ => ∃ a ts ps, ∃ many : Nat, vs = [.ref a, .int many] ∧ Pool a ts ps H ∧ many ≤ 100000 ∧ ∀ L given H', Same H H' → H' L = some (.lst (ctV given)) → Tn ps.length (wF ps) given → given.length = many → Q (.ref L) H'
set_option maxHeartbeats 1000000 in
theorem ok_first {f f1 : Addr} {fd fd1 : FuncData} (F : Fn K mg "first_turns" s_first_turns ["pool", "many"] f fd) (B : Blt mg) (F_turn_after : Fn K mg "turn_after" s_turn_after ["pool", "counts"] f1 fd1) (G_turn_after : FnOk P w K mg base CX0 2 f1 fd1 ["pool", "counts"] spAfter) : FnOk P w K mg base CX0 3 f fd ["pool", "many"] spFirst := by
  refine F.F.ok sc_first_turns (fun vs H Q E h => ?_) (fun cdv A outer s H vs Q E hr h => ?_)
  · obtain ⟨a, ts, ps, many, rfl, _⟩ := h
    rfl
  · obtain ⟨a, ts, ps, many, rfl, p, hm, q⟩ := h
    refine ⟨_, (pss_cons (ps_set (i := 2) sc_first_turns.nd rfl (.inl rfl) (pe_op op_rep (pe_lst (pa_cons pe_int pa_nil)) (pe_callB call_len_seq (by rfl) B.n_len PySem.boot_len (pa_cons (pv 0) pa_nil))))
      (pss_cons (ps_set (i := 3) sc_first_turns.nd rfl (.inl rfl) (pe_lst pa_nil))
      (pss_cons (ps_for PassesOwn.never rfl (pi_range1 (by rfl) B.n_range (pa_cons (pv 1) pa_nil)) (pg_name (i := 4) sc_first_turns.nd rfl (Or.inl rfl))
      (pss_cons (ps_set (i := 5) sc_first_turns.nd rfl (.inl rfl) (pe_call G_turn_after (hr.mono (by decide)) (by rfl) F_turn_after.g F_turn_after.F.kp F_turn_after.b .nil pass0 (pa_cons (pv 0) (pa_cons (pv 2) pa_nil))))
        (pss_cons (ps_augS (pv 2) (pv 5) get_list pe_int ip_add set_list)
        (pss_one (ps_expr (pe_bm PySem.F.plainAttrs_list PySem.F.slot_list_append PySem.F.type_list_append mt_append (pv 3) (pa_cons (pv 5) pa_nil)))))))
      (pss_one (ps_ret (pv 3)))))), ?_⟩
    have n8 := p.ok.n8
    have ln := p.it.1
    refine ⟨sz (by show 1 ≤ 16000000; decide), fun Z hZ => ?_⟩
    have s1 := same_new (o := .lst [.int 0]) hZ
    have h1 : upd H Z (.lst [.int 0]) Z = some (.lst [.int 0]) := upd_same
    generalize upd H Z (.lst [.int 0]) = H1 at s1 h1 ⊢
    refine ⟨_, rfl, a, _, rfl, .inr (SqT.of (s1 _ _ p.at_)), Z, _, _, rfl, rfl, h1, by rw [List.length_map]; omega, by rw [List.length_map]; omega, ?_, fun C hC => ?_⟩
    · rw [List.length_map, sizeLine_eq]
      simp
      omega
    rw [List.length_map, ln, show ((ps.length : Nat) : Int).toNat = ps.length by simp, rep0]
    have nC : H C = none := s1.free hC
    have s2 := s1.trans (same_new (o := .lst (ctV (csOf ps.length []))) hC)
    have h2 : upd H1 C (.lst (ctV (csOf ps.length []))) C = some (.lst (ctV (csOf ps.length []))) := upd_same
    generalize upd H1 C (.lst (ctV (csOf ps.length []))) = H2 at s2 h2 ⊢
    refine ⟨Nat.zero_le _, fun D hD => ?_⟩
    have nD : H D = none := s2.free hD
    have nCD : C ≠ D := ne_of_none h2 hD
    have s3 := s2.trans (same_new (o := .lst []) hD)
    refine ⟨_, rfl, _, rfl, by omega, by omega, ?_⟩
    refine for_range (lo := 0) (n := ((many : Nat) : Int).toNat) (fun j σ H' => ∃ (l : List Nat) (x4 x5 : Option V), σ = [some (.ref a), some (.int many), some (.ref C), some (.ref D), x4, x5] ∧ Same H H' ∧ H' C = some (.lst (ctV (csOf ps.length l))) ∧ H' D = some (.lst (ctV l)) ∧ Tn ps.length (wF ps) l ∧ l.length = j) ⟨[], none, none, rfl, s3, by rw [upd_ne nCD]; exact h2, upd_same, .nil, rfl⟩ ?_ ?_
    · rintro j σ H4 hj ⟨l, x4, x5, rfl, s4, hc4, hd4, tn, hlen⟩
      refine ⟨_, rfl, _, rfl, a, ts, ps, C, csOf ps.length l, rfl, p.to s4, .inl hc4, csOf_len _ _, fun i H5 s5 pk => ?_⟩
      rw [kF_csOf tn, csOf_sum p.ok.n1 p.ok.w1 tn] at pk
      have hi := pk.lt
      refine ⟨_, rfl, _, rfl, C, _, i, _, rfl, rfl, SqL.of (s5 _ _ hc4), ctV_at (csOf_at hi), _, _, rfl, rfl, C, _, _, i, rfl, rfl, s5 _ _ hc4, ixN_nat (by rw [ctV_len, csOf_len]; exact hi), ?_⟩
      rw [csOf_snoc hi]
      have hd6 : upd H5 C (.lst (ctV (csOf ps.length (l ++ [i])))) D = some (.lst (ctV l)) := by
        rw [upd_ne nCD.symm]
        exact s5 _ _ hd4
      refine ⟨_, rfl, .inl ⟨rfl, _, SqL.of hd6⟩, _, rfl, D, _, _, rfl, rfl, hd6, ?_, ?_⟩
      · rw [ctV_len, sizeLine_eq]
        omega
      · refine ⟨l ++ [i], _, _, rfl, fun b o e => ?_, ?_, ?_, tn.snoc pk, by simp [hlen]⟩
        · rw [upd_ne (ne_of_none e nD), upd_ne (ne_of_none e nC)]
          exact s5 _ _ (s4 _ _ e)
        · rw [upd_ne nCD, upd_same]
        · rw [upd_same]
          unfold ctV
          rw [List.map_append]
          rfl
    · rintro σ H4 ⟨l, x4, x5, rfl, s4, hc4, hd4, tn, hlen⟩
      exact ⟨_, rfl, q D l H4 s4 hd4 tn (by rw [hlen]; simp)⟩
end
end Ag

end
/-! ## T4 -/
section
set_option linter.all false
set_option maxRecDepth 100000
namespace Ag
open PySem PySem.Spec PyProof.Rows L2
theorem count_int (l : List Nat) (j : Nat) : (l.map fun k => ((k : Nat) : Int)).count ((j : Nat) : Int) = l.count j := by
  induction l with
  | nil => rfl
  | cons x l ih =>
    rw [List.map_cons, List.count_cons, List.count_cons, ih]
    have e : (((x : Nat) : Int) == ((j : Nat) : Int)) = (x == j) := by
      rw [Bool.eq_iff_iff, beq_iff_eq, beq_iff_eq]
      omega
    rw [e]
theorem mt_lcountK {X : Cx} (K : PySem.W.Frag) (hK : X.K = K) : MtR X "list.count" (rCntI K) := by
  subst hK
  exact mt_lcount
/-- the counts behind whole rounds and a row of turns -/
def ksOf (ps : List (List Nat × Nat)) (r : Nat) (l : List Nat) : List Nat := (List.range ps.length).map fun j => r * wF ps j + l.count j
theorem ksOf_len (ps : List (List Nat × Nat)) (r : Nat) (l : List Nat) : (ksOf ps r l).length = ps.length := by simp [ksOf]
theorem ksOf_run {ps : List (List Nat × Nat)} {r : Nat} {l : List Nat} (o : PlOk ps) (t : Tn ps.length (wF ps) l) : Fair.Run ps.length (wF ps) (kF (ksOf ps r l)) (l.length + r * tW ps) := by
  have h := t.run.rounds o.n1 o.w1 r
  have e : (fun j => kc l j + if j < ps.length then r * wF ps j else 0) = kF (ksOf ps r l) := by
    funext j
    unfold kF ksOf
    by_cases hj : j < ps.length
    · rw [if_pos hj, List.getElem?_map, List.getElem?_range hj]
      show kc l j + _ = r * wF ps j + l.count j
      unfold kc
      omega
    · rw [if_neg hj, List.getElem?_eq_none (by simp; omega), t.run.out (by omega)]
      rfl
  rw [e] at h
  exact h
theorem kF_ext {a b : List Nat} (hl : a.length = b.length) (h : kF a = kF b) : a = b := by
  refine List.ext_getElem? fun i => ?_
  by_cases hi : i < a.length
  · have := congrFun h i
    rw [kF_at (List.getElem?_eq_getElem hi), kF_at (List.getElem?_eq_getElem (by omega : i < b.length))] at this
    rw [List.getElem?_eq_getElem hi, List.getElem?_eq_getElem (by omega : i < b.length), this]
  · rw [List.getElem?_eq_none (by omega), List.getElem?_eq_none (by omega)]
theorem eqv_ctD (cs : List Nat) : PyData.eqvAll (cs.map fun k => PyData.int ((k : Nat) : Int)) (cs.map fun k => PyData.int ((k : Nat) : Int)) = true := by
  induction cs with
  | nil => simp [PyData.eqvAll]
  | cons c cs ih => simp only [List.map_cons, PyData.eqvAll, PyData.eqv, ih]; simp
theorem dp_ct {K : PySem.W.Frag} {H : Hp} : ∀ cs : List Nat, DpAll K H (ctV cs) (cs.map fun k => PyData.int ((k : Nat) : Int))
  | [] => .nil
  | c :: cs => .cons (.int _) (dp_ct cs)
theorem lay_ct : ∀ cs : List Nat, PyData.canLayAll0 (cs.map fun k => PyData.int ((k : Nat) : Int)) = true ∧ PyData.depthAll (cs.map fun k => PyData.int ((k : Nat) : Int)) = 0
  | [] => by simp [PyData.canLayAll0, PyData.depthAll]
  | c :: cs => by
    obtain ⟨h1, h2⟩ := lay_ct cs
    simp [PyData.canLayAll0, PyData.canLay0, PyData.depthAll, PyData.depth, h1, h2]
theorem shaped_ct (cs : List Nat) : SeqAt.shaped (.tuple (cs.map fun k => PyData.int ((k : Nat) : Int))) = true := by
  obtain ⟨h1, h2⟩ := lay_ct cs
  simp [SeqAt.shaped, PyData.canLay0, PyData.depth, h1, h2]
section
variable {P : Program} {w : World} {K : PySem.W.Frag} {mg : Str → Option Value} {base : Heap} {tw tp tg tt : Tok}
def spFrom : Sp := fun vs H Q _ => ∃ a ts ps, ∃ many : Nat, vs = [.ref a, .int many] ∧ Pool a ts ps H ∧ ∀ t ks H', Same H H' → H' t = some (.tup (ctV ks)) → ks.length = ps.length → Fair.Run ps.length (wF ps) (kF ks) many → Q (.ref t) H'
set_option maxHeartbeats 1000000 in
theorem ok_from {f f1 f2 : Addr} {fd fd1 fd2 : FuncData} (F : Fn K mg "counts_from_start" s_counts_from_start ["pool", "many"] f fd) (B : Blt mg) (F_weight_sum : Fn K mg "weight_sum" s_weight_sum ["pool"] f1 fd1)
    (F_first_turns : Fn K mg "first_turns" s_first_turns ["pool", "many"] f2 fd2) (G_first_turns : FnOk P w K mg base CX0 3 f2 fd2 ["pool", "many"] spFirst) : FnOk P w K mg base CX0 4 f fd ["pool", "many"] spFrom := by
  have G_weight_sum : FnOk P w K mg base CX0 1 f1 fd1 ["pool"] spWs := ok_ws F_weight_sum B
  refine F.F.ok sc_counts_from_start (fun vs H Q E h => ?_) (fun cdv A outer s H vs Q E hr h => ?_)
  · obtain ⟨a, ts, ps, many, rfl, _⟩ := h
    rfl
  · obtain ⟨a, ts, ps, many, rfl, p, q⟩ := h
    refine ⟨_, (pss_cons (ps_asg (pe_callB call_divmod (by rfl) B.n_divmod (by decide +kernel) (pa_cons (pv 1) (pa_cons (pe_call G_weight_sum (hr.mono (by decide)) (by rfl) F_weight_sum.g F_weight_sum.F.kp F_weight_sum.b .nil pass0 (pa_cons (pv 0) pa_nil)) pa_nil))) (pg_tup rfl (pgs_cons (pg_name (i := 2) sc_counts_from_start.nd rfl (Or.inr rfl)) (pgs_cons (pg_name (i := 3) sc_counts_from_start.nd rfl (Or.inl rfl)) pgs_nil))))
      (pss_cons (ps_set (i := 4) sc_counts_from_start.nd rfl (.inr rfl) (pe_call G_first_turns (hr.mono (by decide)) (by rfl) F_first_turns.g F_first_turns.F.kp F_first_turns.b .nil pass0 (pa_cons (pv 0) (pa_cons (pv 3) pa_nil))))
      (pss_one (ps_ret (pe_callTy call_tuple_of (by rfl) B.n_tuple (by decide +kernel) (pa_cons (pe_lc (own := [("at", 6), ("_", 7), ("weight", 5)]) rfl sc_counts_from_start.nd (pi_enumT (by rfl) B.n_enumerate (pa_cons (pv 0) pa_nil)) (blkOk_by (N := N_counts_from_start) (sc := defScope s_counts_from_start) (by decide +kernel)) (fun _ _ _ _ _ => pg_nest (i := 6) (j := 7) (l := 5) K rfl sc_counts_from_start.nd rfl rfl rfl rfl rfl rfl rfl) (fun _ _ _ _ _ => pts_nil) (fun _ _ _ _ _ => (pe_op op_add (pe_op op_mul (pv 2) (pv 5)) (pe_of_K K (fun K => tBM K "list" (rCntI K) (tVar 4) (tCons (tVar 6) tNil)) rfl (pe_bm PySem.F.plainAttrs_list PySem.F.slot_list_count PySem.F.type_list_count mt_lcount (pv 4) (pa_cons (pv 6) pa_nil)))))) pa_nil)))))), ?_⟩
    have n8 := p.ok.n8
    have ln := p.it.1
    have wp := tW_pos p.ok
    have w8 := tW_le p.ok
    refine ⟨_, rfl, _, rfl, a, ts, ps, rfl, p, fun H1 s1 => ?_⟩
    refine ⟨_, _, rfl, ⟨by omega, by omega⟩, fun T hT => ⟨T, _, rfl, SqT.of upd_same, rfl, _, _, rfl, _, _, rfl, rfl, ?_⟩⟩
    have s2 := s1.trans (same_new (o := .tup [.int ((many : Int) / (tW ps : Nat)), .int ((many : Int) % (tW ps : Nat))]) hT)
    generalize upd H1 T (.tup [.int ((many : Int) / (tW ps : Nat)), .int ((many : Int) % (tW ps : Nat))]) = H2 at s2 ⊢
    have er : ((many : Int) % ((tW ps : Nat) : Int)) = ((many % tW ps : Nat) : Int) := (Int.natCast_emod _ _).symm
    have eq : ((many : Int) / ((tW ps : Nat) : Int)) = ((many / tW ps : Nat) : Int) := (Int.natCast_ediv _ _).symm
    rw [er, eq]
    have dm := Nat.div_add_mod many (tW ps)
    have lt := Nat.mod_lt many (show 0 < tW ps by omega)
    generalize many % tW ps = rest at dm lt ⊢
    generalize many / tW ps = rounds at dm ⊢
    refine ⟨_, rfl, _, rfl, a, ts, ps, rest, rfl, p.to s2, by omega, fun D given H3 s3 hD3 tn hlen => ?_⟩
    have s4 := s2.trans s3
    refine ⟨_, rfl, a, _, rfl, SqT.of (s4 _ _ p.at_), fun E hE => ?_⟩
    refine lc_sel (walk_enumT (K := K) (a := a) (xs := ts.map V.ref)) (fun _ => true) (fun j => .int ((rounds * wF ps j + given.count j : Nat) : Int)) (by rw [List.length_map]; omega) hE (fun H' s => SqT.of (s _ _ (s4 _ _ p.at_))) ?_ ?_
    · rintro j y H5 H6 k k0 hj s5 ⟨T2, x, rfl, hT2, rfl, hx⟩ hk _
      rw [List.length_map, ln] at hj
      have s6 : Same H5 (upd H5 T2 (.tup [.int (j : Nat), x])) := same_new hT2
      have h6 : upd H5 T2 (.tup [.int (j : Nat), x]) T2 = some (.tup [.int (j : Nat), x]) := upd_same
      generalize upd H5 T2 (.tup [.int (j : Nat), x]) = H6 at s6 h6 ⊢
      have s56 := s5.trans s6
      obtain ⟨t, e, rfl, _, he, ht⟩ := ((p.it.to s4).to s56).get hx
      refine ⟨T2, _, rfl, SqT.of h6, rfl, _, _, rfl, _, _, rfl, ⟨t, _, rfl, SqT.of ht, rfl, _, _, rfl, _, _, rfl, rfl, rfl, rfl, ?_⟩⟩
      have hk := hk rfl _ s6
      have hw := p.ok.wt e (List.mem_of_getElem? he)
      rw [wF_at he] at hk
      refine ⟨_, rfl, _, rfl, _, _, rfl, rfl, .inr ⟨by omega, by omega⟩, _, rfl, .inl ⟨rfl, _, SqL.of (s56 _ _ hD3)⟩, _, rfl, D, given.map (fun k => ((k : Nat) : Int)), _, rfl, rfl, SqL.of ((s56 _ _ hD3).trans (by rw [ctV_int])), ?_⟩
      rw [count_int]
      refine ⟨_, _, rfl, rfl, ?_⟩
      have ev : V.int ((rounds : Int) * (e.2 : Nat) + ((given.count j : Nat) : Int)) = .int ((rounds * e.2 + given.count j : Nat) : Int) := by
        rw [Int.natCast_add, Int.natCast_mul]
      exact (show k (V.int ((rounds : Int) * (e.2 : Nat) + ((given.count j : Nat) : Int))) H6 by rw [ev]; exact hk)
    · intro H5 s5 h5
      have e1 : (List.range (ts.map V.ref).length).map (fun j => V.int ((rounds * wF ps j + given.count j : Nat) : Int)) = ctV (ksOf ps rounds given) := by
        unfold ctV ksOf
        rw [List.length_map, ln, List.map_map]
        rfl
      rw [filt_all, e1] at h5
      refine ⟨E, _, rfl, .inl ⟨SqL.of h5, fun t ht => ?_⟩⟩
      refine q t (ksOf ps rounds given) _ (s4.trans (s5.trans (same_new ht))) upd_same (ksOf_len _ _ _) ?_
      have := ksOf_run (r := rounds) p.ok tn
      rw [hlen, show rest + rounds * tW ps = many by rw [Nat.mul_comm]; omega] at this
      exact this
def spCounts : Sp := fun vs H Q _ => ∃ a ts ps c cs, vs = [.ref a, .ref c] ∧ Pool a ts ps H ∧ H c = some (.tup (ctV cs)) ∧ cs.length = ps.length ∧ Fair.Run ps.length (wF ps) (kF cs) cs.sum ∧ ∀ H', Same H H' → Q (.bl true) H'
theorem ok_counts {f f1 f2 : Addr} {fd fd1 fd2 : FuncData} (F : Fn K mg "are_counts" s_are_counts ["pool", "thing"] f fd) (B : Blt mg) (F_are_loads : Fn K mg "are_loads" s_are_loads ["pool", "thing"] f1 fd1) (G_are_loads : FnOk P w K mg base CX0 2 f1 fd1 ["pool", "thing"] spLoads)
    (F_counts_from_start : Fn K mg "counts_from_start" s_counts_from_start ["pool", "many"] f2 fd2) (G_counts_from_start : FnOk P w K mg base CX0 4 f2 fd2 ["pool", "many"] spFrom) : FnOk P w K mg base CX0 5 f fd ["pool", "thing"] spCounts := by
  refine F.F.ok sc_are_counts (fun vs H Q E h => ?_) (fun cdv A outer s H vs Q E hr h => ?_)
  · obtain ⟨a, ts, ps, c, cs, rfl, _⟩ := h
    rfl
  · obtain ⟨a, ts, ps, c, cs, rfl, p, hc, hl, hrun, q⟩ := h
    refine ⟨_, (pss_one (ps_ret (pe_and (pe_call G_are_loads (hr.mono (by decide)) (by rfl) F_are_loads.g F_are_loads.F.kp F_are_loads.b .nil pass0 (pa_cons (pv 0) (pa_cons (pv 1) pa_nil))) (pe_one (pe_cmpR (op_eqD hr.units) (pe_call G_counts_from_start (hr.mono (by decide)) (by rfl) F_counts_from_start.g F_counts_from_start.F.kp F_counts_from_start.b .nil pass0 (pa_cons (pv 0) (pa_cons (pe_callB (cr_sumT rfl) (by rfl) B.n_sum (by decide +kernel) (pa_cons (pv 1) pa_nil)) pa_nil))) (pv 1) (nomark _)))))), ?_⟩
    refine ⟨_, rfl, _, rfl, a, ts, ps, c, cs, rfl, p, hc, hl, fun H1 s1 => ⟨_, rfl, iteT ?_⟩⟩
    refine ⟨_, rfl, _, rfl, c, cs.map (fun k => ((k : Nat) : Int)), rfl, SqT.of ((s1 _ _ hc).trans (by rw [ctV_int])), ?_⟩
    rw [sum_int]
    refine ⟨a, ts, ps, cs.sum, rfl, p.to s1, fun t ks H2 s2 ht hkl hkr => ?_⟩
    have e : ks = cs := kF_ext (hkl.trans hl.symm) (hkr.uniq hrun)
    subst e
    have s12 := s1.trans s2
    refine ⟨_, rfl, .tuple (ks.map fun k => .int ((k : Nat) : Int)), .tuple (ks.map fun k => .int ((k : Nat) : Int)), .tup (SqT.of ht) (dp_ct ks), .tup (SqT.of (s12 _ _ hc)) (dp_ct ks), shaped_ct ks, shaped_ct ks, ?_⟩
    rw [show PyData.eqv (.tuple (ks.map fun k => PyData.int ((k : Nat) : Int))) (.tuple (ks.map fun k => PyData.int ((k : Nat) : Int))) = true by simp only [PyData.eqv]; exact eqv_ctD ks]
    exact q _ s12
def spNext : Sp := fun vs H Q _ => ∃ a ts ps c cs, vs = [.ref a, .ref c] ∧ Pool a ts ps H ∧ H c = some (.tup (ctV cs)) ∧ cs.length = ps.length ∧ Fair.Run ps.length (wF ps) (kF cs) cs.sum ∧ ∀ (i : Nat) H', Same H H' → Fair.Pick ps.length (wF ps) (kF cs) (cs.sum + 1) i → Q (.int (i : Int)) H'
theorem ok_next {f f1 f2 f3 : Addr} {fd fd1 fd2 fd3 : FuncData} (F : Fn K mg "next_turn" s_next_turn ["pool", "counts"] f fd) (B : Con mg tw tp tg tt) (F_is_pool : Fn K mg "is_pool" s_is_pool ["thing"] f1 fd1) (G_is_pool : FnOk P w K mg base CX0 3 f1 fd1 ["thing"] spPool)
    (F_are_counts : Fn K mg "are_counts" s_are_counts ["pool", "thing"] f2 fd2) (G_are_counts : FnOk P w K mg base CX0 5 f2 fd2 ["pool", "thing"] spCounts) (F_turn_after : Fn K mg "turn_after" s_turn_after ["pool", "counts"] f3 fd3) (G_turn_after : FnOk P w K mg base CX0 2 f3 fd3 ["pool", "counts"] spAfter) : FnOk P w K mg base CX0 6 f fd ["pool", "counts"] spNext := by
  refine F.F.ok sc_next_turn (fun vs H Q E h => ?_) (fun cdv A outer s H vs Q E hr h => ?_)
  · obtain ⟨a, ts, ps, c, cs, rfl, _⟩ := h
    rfl
  · obtain ⟨a, ts, ps, c, cs, rfl, p, hc, hl, hrun, q⟩ := h
    refine ⟨_, (pss_cons (ps_if (pt_not (pt_val (pe_call G_is_pool (hr.mono (by decide)) (by rfl) F_is_pool.g F_is_pool.F.kp F_is_pool.b .nil pass0 (pa_cons (pv 0) pa_nil))))
      (pss_one ps_never)
      pss_nil)
      (pss_cons (ps_if (pt_not (pt_val (pe_call G_are_counts (hr.mono (by decide)) (by rfl) F_are_counts.g F_are_counts.F.kp F_are_counts.b .nil pass0 (pa_cons (pv 0) (pa_cons (pv 1) pa_nil)))))
      (pss_one ps_never)
      pss_nil)
      (pss_one (ps_ret (pe_call G_turn_after (hr.mono (by decide)) (by rfl) F_turn_after.g F_turn_after.F.kp F_turn_after.b .nil pass0 (pa_cons (pv 0) (pa_cons (pv 1) pa_nil))))))), ?_⟩
    refine ⟨_, rfl, a, ts, ps, rfl, p, fun H1 s1 => ⟨_, rfl, iteF ?_⟩⟩
    refine ⟨_, rfl, _, rfl, a, ts, ps, c, cs, rfl, p.to s1, s1 _ _ hc, hl, hrun, fun H2 s2 => ⟨_, rfl, iteF ?_⟩⟩
    have s12 := s1.trans s2
    exact ⟨_, rfl, _, rfl, a, ts, ps, c, cs, rfl, p.to s12, .inr (s12 _ _ hc), hl, fun i H3 s3 pk => q i H3 (s12.trans s3) pk⟩
def spTurns : Sp := fun vs H Q _ => ∃ a ts ps, ∃ t : Nat, vs = [.ref a, .int t] ∧ Pool a ts ps H ∧ t ≤ 2000 ∧ ∀ T given H', Same H H' → H' T = some (.tup (ctV given)) → Tn ps.length (wF ps) given → given.length = t → Q (.ref T) H'
theorem ok_turns {f f1 f2 f3 : Addr} {fd fd1 fd2 fd3 : FuncData} (F : Fn K mg "turns" s_turns ["pool", "t"] f fd) (B : Con mg tw tp tg tt) (F_is_pool : Fn K mg "is_pool" s_is_pool ["thing"] f1 fd1) (G_is_pool : FnOk P w K mg base CX0 3 f1 fd1 ["thing"] spPool)
    (F_is_integer : Fn K mg "is_integer" s_is_integer ["thing"] f2 fd2) (G_is_integer : FnOk P w K mg base CX0 1 f2 fd2 ["thing"] spInteger) (F_first_turns : Fn K mg "first_turns" s_first_turns ["pool", "many"] f3 fd3) (G_first_turns : FnOk P w K mg base CX0 3 f3 fd3 ["pool", "many"] spFirst) : FnOk P w K mg base CX0 4 f fd ["pool", "t"] spTurns := by
  refine F.F.ok sc_turns (fun vs H Q E h => ?_) (fun cdv A outer s H vs Q E hr h => ?_)
  · obtain ⟨a, ts, ps, t, rfl, _⟩ := h
    rfl
  · obtain ⟨a, ts, ps, t, rfl, p, ht, q⟩ := h
    refine ⟨_, (pss_cons (ps_if (pt_not (pt_val (pe_call G_is_pool (hr.mono (by decide)) (by rfl) F_is_pool.g F_is_pool.F.kp F_is_pool.b .nil pass0 (pa_cons (pv 0) pa_nil))))
      (pss_one ps_never)
      pss_nil)
      (pss_cons (ps_if (PW.pt (pw_or (pt_not (pt_val (pe_call G_is_integer (hr.mono (by decide)) (by rfl) F_is_integer.g F_is_integer.F.kp F_is_integer.b .nil pass0 (pa_cons (pv 1) pa_nil)))) (pw_or1 (pt_not (pt_chain op_le op_le pe_int (pv 1) (pe_glob (v := .int 2000) rfl B.g_TURNS_MOST ⟨_, rfl⟩))))))
      (pss_one ps_never)
      pss_nil)
      (pss_one (ps_ret (pe_callTy call_tuple_of (by rfl) B.n_tuple (by decide +kernel) (pa_cons (pe_call G_first_turns (hr.mono (by decide)) (by rfl) F_first_turns.g F_first_turns.F.kp F_first_turns.b .nil pass0 (pa_cons (pv 0) (pa_cons (pv 1) pa_nil))) pa_nil)))))), ?_⟩
    refine ⟨_, rfl, a, ts, ps, rfl, p, fun H1 s1 => ⟨_, rfl, iteF ?_⟩⟩
    refine ⟨_, rfl, t, rfl, _, rfl, iteF ⟨_, rfl, _, _, rfl, rfl, _, rfl, ?_⟩⟩
    rw [decide_eq_true (by omega : (0 : Int) ≤ t)]
    refine iteT ⟨_, _, rfl, rfl, _, rfl, ?_⟩
    refine iteC (b := !decide ((t : Int) ≤ 2000)) (by rw [decide_eq_true (by omega : (t : Int) ≤ 2000)]; rfl) ?_
    refine ⟨_, rfl, _, rfl, a, ts, ps, t, rfl, p.to s1, by omega, fun L given H2 s2 h2 tn hlen => ?_⟩
    refine ⟨L, _, rfl, .inl ⟨SqL.of h2, fun T hT => q T given _ (s1.trans (s2.trans (same_new hT))) upd_same tn hlen⟩⟩
def spCa : Sp := spFrom
theorem ok_ca {f f1 f2 f3 : Addr} {fd fd1 fd2 fd3 : FuncData} (F : Fn K mg "counts_after" s_counts_after ["pool", "t"] f fd) (B : Con mg tw tp tg tt) (F_is_pool : Fn K mg "is_pool" s_is_pool ["thing"] f1 fd1) (G_is_pool : FnOk P w K mg base CX0 3 f1 fd1 ["thing"] spPool)
    (F_is_integer : Fn K mg "is_integer" s_is_integer ["thing"] f2 fd2) (G_is_integer : FnOk P w K mg base CX0 1 f2 fd2 ["thing"] spInteger) (F_counts_from_start : Fn K mg "counts_from_start" s_counts_from_start ["pool", "many"] f3 fd3) (G_counts_from_start : FnOk P w K mg base CX0 4 f3 fd3 ["pool", "many"] spFrom) : FnOk P w K mg base CX0 5 f fd ["pool", "t"] spFrom := by
  refine F.F.ok sc_counts_after (fun vs H Q E h => ?_) (fun cdv A outer s H vs Q E hr h => ?_)
  · obtain ⟨a, ts, ps, t, rfl, _⟩ := h
    rfl
  · obtain ⟨a, ts, ps, t, rfl, p, q⟩ := h
    refine ⟨_, (pss_cons (ps_if (pt_not (pt_val (pe_call G_is_pool (hr.mono (by decide)) (by rfl) F_is_pool.g F_is_pool.F.kp F_is_pool.b .nil pass0 (pa_cons (pv 0) pa_nil))))
      (pss_one ps_never)
      pss_nil)
      (pss_cons (ps_if (PW.pt (pw_or (pt_not (pt_val (pe_call G_is_integer (hr.mono (by decide)) (by rfl) F_is_integer.g F_is_integer.F.kp F_is_integer.b .nil pass0 (pa_cons (pv 1) pa_nil)))) (pw_or1 (pt_cmpR op_lt (pv 1) pe_int (nomark _)))))
      (pss_one ps_never)
      pss_nil)
      (pss_one (ps_ret (pe_call G_counts_from_start (hr.mono (by decide)) (by rfl) F_counts_from_start.g F_counts_from_start.F.kp F_counts_from_start.b .nil pass0 (pa_cons (pv 0) (pa_cons (pv 1) pa_nil))))))), ?_⟩
    refine ⟨_, rfl, a, ts, ps, rfl, p, fun H1 s1 => ⟨_, rfl, iteF ?_⟩⟩
    refine ⟨_, rfl, t, rfl, _, rfl, iteF ⟨_, rfl, _, _, rfl, rfl, _, rfl, ?_⟩⟩
    rw [decide_eq_false (by omega : ¬ ((t : Int) < 0))]
    exact iteF ⟨_, rfl, _, rfl, a, ts, ps, t, rfl, p.to s1, fun t' ks H2 s2 h1 h2 h3 => q t' ks H2 (s1.trans s2) h1 h2 h3⟩
end
end Ag

end
/-! ## T5 -/
section
set_option linter.all false
set_option maxRecDepth 100000
set_option maxHeartbeats 4000000
namespace Ag
open PySem PySem.Spec PyProof.Rows L2
open SX (S S_len S_cat S_inj)
/-! ### the deck of draws -/
def kC : Key := Sum.inr (Str.ofString "left")
def kM : Key := Sum.inr (Str.ofString "mixed")
def kT : Key := Sum.inr (Str.ofString "draws")
def dkL (c : Addr) (m t : Int) : List (Key × V) := [(kC, .ref c), (kM, .int m), (kT, .int t)]
theorem nCM : ¬ kC = kM := by decide +kernel
theorem nCT : ¬ kC = kT := by decide +kernel
theorem nMT : ¬ kM = kT := by decide +kernel
section
variable {c : Addr} {m t u : Int}
theorem v_C : valV (dkL c m t) kC = some (.ref c) := valV_pos rfl
theorem v_M : valV (dkL c m t) kM = some (.int m) := (valV_neg nCM).trans (valV_pos rfl)
theorem v_T : valV (dkL c m t) kT = some (.int t) := (valV_neg nCT).trans ((valV_neg nMT).trans (valV_pos rfl))
theorem put_T : putK (dkL c m t) kT (.int u) = dkL c m u := by
  unfold putK dkL
  simp [nCT, nMT]
theorem merge_d : mergeK [] (dkL c m t) = dkL c m t := by
  unfold mergeK dkL putK
  simp [nCM, nCT, nMT]
end
/-- a deck stands at p, its cells at c -/
def Dk (p c : Addr) (H : Hp) : Prop := ∃ (m t : Int) (cs : List Int), H p = some (.dK (dkL c m t)) ∧ H c = some (.lst (cs.map V.int)) ∧ cs.length ≤ 63
/-- all but the deck is as it was, and the deck is one -/
def Gx (p c : Addr) (H H' : Hp) : Prop := (∀ b o, b ≠ p → b ≠ c → H b = some o → H' b = some o) ∧ Dk p c H'
theorem Gx.refl {p c : Addr} {H : Hp} (d : Dk p c H) : Gx p c H H := ⟨fun _ _ _ _ e => e, d⟩
theorem Gx.trans {p c : Addr} {H H1 H2 : Hp} (a : Gx p c H H1) (b : Gx p c H1 H2) : Gx p c H H2 := ⟨fun x o h1 h2 e => b.1 x o h1 h2 (a.1 x o h1 h2 e), b.2⟩
theorem Dk.same {p c : Addr} {H H' : Hp} (d : Dk p c H) (s : Same H H') : Dk p c H' := by
  obtain ⟨m, t, cs, h1, h2, h3⟩ := d
  exact ⟨m, t, cs, s _ _ h1, s _ _ h2, h3⟩
theorem Gx.same {p c : Addr} {H H' : Hp} (d : Dk p c H) (s : Same H H') : Gx p c H H' := ⟨fun b o _ _ e => s b o e, d.same s⟩
theorem Dk.ne {p c q : Addr} {H : Hp} (d : Dk p c H) (h : H q = none) : q ≠ p ∧ q ≠ c := by
  obtain ⟨m, t, cs, h1, h2, _⟩ := d
  exact ⟨(ne_of_none h1 h).symm, (ne_of_none h2 h).symm⟩
theorem Gx.free {p c q : Addr} {H H' : Hp} (g : Gx p c H H') (d : Dk p c H) (h : H' q = none) : H q = none := by
  cases e : H q with
  | none => rfl
  | some o =>
    have n := g.2.ne h
    have := g.1 q o n.1 n.2 e
    rw [h] at this
    cases this
/-- an object that the deck is not -/
def At (p c : Addr) (H : Hp) (a : Addr) (o : HO) : Prop := a ≠ p ∧ a ≠ c ∧ H a = some o
theorem At.gx {p c a : Addr} {H H' : Hp} {o : HO} (h : At p c H a o) (g : Gx p c H H') : At p c H' a o := ⟨h.1, h.2.1, g.1 a o h.1 h.2.1 h.2.2⟩
theorem At.new {p c a : Addr} {H : Hp} {o : HO} (d : Dk p c H) (h : H a = none) : At p c (upd H a o) a o := ⟨(d.ne h).1, (d.ne h).2, upd_same⟩
theorem Gx.new {p c a : Addr} {H : Hp} {o : HO} (d : Dk p c H) (h : H a = none) : Gx p c H (upd H a o) := Gx.same d (same_new h)
/-- a list's own change -/
theorem Gx.put {p c a : Addr} {H H' : Hp} {o : HO} (g : Gx p c H H') (d : Dk p c H) (h : H a = none) (n : a ≠ p ∧ a ≠ c) : Gx p c H (upd H' a o) := by
  refine ⟨fun b u h1 h2 e => ?_, ?_⟩
  · rw [upd_ne (ne_of_none e h)]
    exact g.1 b u h1 h2 e
  · obtain ⟨m, t, cs, h1, h2, h3⟩ := g.2
    exact ⟨m, t, cs, by rw [upd_ne n.1.symm]; exact h1, by rw [upd_ne n.2.symm]; exact h2, h3⟩
theorem cutV63 {ns : List Int} (h : ns.length ≤ 63) : cutV (ns.map V.int) none (some 63) = ns.map V.int := by
  unfold cutV
  rw [HT.sIx_none, show HT.sIx (ns.map V.int).length (ns.map V.int).length (some 63) = min 63 (ns.map V.int).length from HT.sIx_nat _ _ 63, List.drop_zero, List.take_of_length_le]
  rw [List.length_map]
  omega
section
variable {P : Program} {w : World} {K : PySem.W.Frag} {mg : Str → Option Value} {base : Heap} 
def spDeck (K : PySem.W.Frag) : Sp := fun vs H Q _ => ∃ (a : Addr) (ns : List Int), vs = [.ref a] ∧ SqL K H a (ns.map V.int) ∧ ns.length ≤ 63 ∧ ∀ p c H', H p = none → H c = none → Same H H' → Dk p c H' → Q (.ref p) H'
theorem ints_all {ns : List Int} {xs : List V} (hl : xs.length = ns.length) (h : ∀ (i : Nat) (y : V), xs[i]? = some y → ∃ z, ns[i]? = some z ∧ y = V.int z) : xs = ns.map V.int := by
  refine List.ext_getElem? fun i => ?_
  rw [List.getElem?_map]
  cases e : xs[i]? with
  | none =>
    have h1 := List.getElem?_eq_none_iff.mp e
    have h2 : ns[i]? = none := List.getElem?_eq_none_iff.mpr (by omega)
    rw [h2]
    rfl
  | some y =>
    obtain ⟨z, hz, rfl⟩ := h i y e
    rw [hz]
    rfl
theorem int_at {ns : List Int} {i : Nat} {x : V} (h : (ns.map V.int)[i]? = some x) : ∃ z, ns[i]? = some z ∧ x = V.int z := by
  rw [List.getElem?_map] at h
  cases e : ns[i]? with
  | none => rw [e] at h; cases h
  | some z =>
    rw [e] at h
    exact ⟨z, rfl, (Option.some.inj h).symm⟩
theorem ok_deck {f : Addr} {fd : FuncData} (F : Fn K mg "_law_dealt" s__law_dealt ["_law_script"] f fd) (B : Blt mg) : FnOk P w K mg base CX0 1 f fd ["_law_script"] (spDeck K) := by
  refine F.F.ok sc__law_dealt (fun vs H Q E h => ?_) (fun cdv A outer s H vs Q E hr h => ?_)
  · obtain ⟨a, ns, rfl, _⟩ := h
    rfl
  · obtain ⟨a, ns, rfl, hS, hlen, q⟩ := h
    refine ⟨_, (pss_cons (ps_set (i := 1) sc__law_dealt.nd rfl (.inl rfl) pe_int)
      (pss_cons (ps_for PassesOwn.never rfl (pi_list (pe_slice sl_list (pv 0) po_none (po_some pe_int))) (pg_name (i := 2) sc__law_dealt.nd rfl (Or.inl rfl))
      (pss_one (ps_set (i := 1) sc__law_dealt.nd rfl (.inl rfl) (pe_op op_mod (pe_callTy call_int1 (by rfl) B.n_int (by decide +kernel) (pa_cons (pe_op op_add (pe_op op_add (pe_op op_mul (pv 1) pe_int) (pe_op op_mod (pe_callTy call_int1 (by rfl) B.n_int (by decide +kernel) (pa_cons (pv 2) pa_nil)) pe_int)) pe_int) pa_nil)) pe_int))))
      (pss_one (ps_ret (pe_disp (pps_cons pe_str (pe_revL (pe_callTy call_list_of (by rfl) B.n_list (by decide +kernel) (pa_cons (pe_slice sl_list (pv 0) po_none (po_some pe_int)) pa_nil))) (pps_cons pe_str (pv 1) (pps_cons pe_str pe_int pps_nil))) (by rfl) (by rfl) (fun z => by cases z) (by decide)))))), ?_⟩
    have c63 := cutV63 hlen
    -- the mixed number
    refine ⟨_, rfl, 63, rfl, a, _, rfl, hS, fun u hu => ?_⟩
    rw [c63]
    refine ⟨u, rfl, ⟨_, SqL.of upd_same⟩, ?_⟩
    refine for_list (K := K) (a := u) (xs := ns.map V.int) (fun i σ H2 => ∃ (m : Int) (x : Option V), σ = [some (.ref a), some (.int m), x] ∧ Same H H2 ∧ H2 u = some (.lst (ns.map V.int))) ⟨_, none, rfl, same_new hu, upd_same⟩ (fun i σ H2 _ z => ?_) ?_ ?_
    · obtain ⟨_, _, _, _, e⟩ := z
      exact SqL.of e
    · rintro i x σ H2 hx ⟨m, y, rfl, sm, e⟩
      obtain ⟨z, _, rfl⟩ := int_at hx
      refine ⟨_, rfl, _, _, rfl, rfl, .inr ⟨by decide, by decide⟩, ?_⟩
      refine ⟨_, rfl, .inl ⟨z, rfl, _, _, rfl, rfl, (by show (0 : Int) < 2147483563; decide), _, _, rfl, rfl, _, _, rfl, rfl, .inl ⟨_, rfl, _, _, rfl, rfl, (by show (0 : Int) < 2147483629; decide), ?_⟩⟩⟩
      exact ⟨_, _, rfl, sm, e⟩
    · rintro σ H2 ⟨m, x, rfl, sm, e⟩
      -- the dict
      intro p hp
      have nHp : H p = none := sm.free hp
      have sm2 : Same H (upd H2 p (.dK [])) := sm.trans (same_new hp)
      refine ⟨_, rfl, 63, rfl, a, _, rfl, sm2.seq hS, fun v hv => ?_⟩
      rw [c63]
      have npv : p ≠ v := fun z => by rw [← z, upd_same] at hv; cases hv
      have sm3 := sm2.trans (same_new (o := .lst (ns.map V.int)) hv)
      have p3 : upd (upd H2 p (.dK [])) v (.lst (ns.map V.int)) p = some (.dK []) := by rw [upd_ne npv, upd_same]
      refine ⟨v, _, rfl, .inl (SqL.of upd_same), fun D hD => ?_⟩
      generalize upd (upd H2 p (.dK [])) v (.lst (ns.map V.int)) = H3 at sm3 p3 hD ⊢
      have nDp : p ≠ D := ne_of_none p3 hD
      refine ⟨D, _, rfl, SqL.of upd_same, fun R hR => ?_⟩
      have sm4 := sm3.trans (same_new (o := .lst (ns.map V.int)) hD)
      have p4 : upd H3 D (.lst (ns.map V.int)) p = some (.dK []) := by rw [upd_ne nDp]; exact p3
      generalize upd H3 D (.lst (ns.map V.int)) = H4 at sm4 p4 hR ⊢
      have hRp : p ≠ R := ne_of_none p4 hR
      refine ⟨_, rfl, ?_⟩
      refine ⟨by rw [upd_ne hRp]; exact p4, dkL R m 0, rfl, by show 3 ≤ 15; decide, ?_⟩
      rw [merge_d]
      have nR : H R = none := sm4.free hR
      refine q p R _ nHp nR (fun b o e => ?_) ⟨m, 0, ns.reverse, upd_same, ?_, by rw [List.length_reverse]; exact hlen⟩
      · rw [upd_ne (ne_of_none e nHp), upd_ne (ne_of_none e nR)]
        exact sm4 b o e
      · rw [upd_ne hRp.symm, upd_same, List.map_reverse]
end
theorem dpIntsG {K : PySem.W.Frag} {H : Hp} : ∀ cs : List Int, DpAll K H (cs.map V.int) (cs.map PyData.int)
  | [] => .nil
  | c :: cs => .cons (.int c) (dpIntsG cs)
theorem lay_ints : ∀ cs : List Int, PyData.canLayAll0 (cs.map PyData.int) = true
  | [] => by simp [PyData.canLayAll0]
  | c :: cs => by simp [PyData.canLayAll0, PyData.canLay0, lay_ints cs]
theorem depth_ints : ∀ cs : List Int, PyData.depthAll (cs.map PyData.int) = 0
  | [] => by simp [PyData.depthAll]
  | c :: cs => by simp [PyData.depthAll, PyData.depth, depth_ints cs]
theorem shaped_ints (cs : List Int) : SeqAt.shaped (.list (cs.map PyData.int)) = true := by
  simp [SeqAt.shaped, PyData.canLay0, PyData.depth, lay_ints, depth_ints]
theorem dget {H : Hp} {a : Addr} {kvs : List (Key × V)} {k : Key} {v : V} (e : H a = some (.dK kvs)) (h : valV kvs k = some v) : DGet H a (kV k) (some v) := h ▸ DGet.k e
theorem ne_nil_ints (cs : List Int) : (!PyData.eqv (.list (cs.map PyData.int)) (.list [])) = decide (cs ≠ []) := by
  cases cs <;> simp [PyData.eqv, PyData.eqvAll]
section
variable {P : Program} {w : World} {K : PySem.W.Frag} {mg : Str → Option Value} {base : Heap} 
def spDraw : Sp := fun vs H Q _ => ∃ (p c : Addr) (n : Int), vs = [.ref p, .int n] ∧ Dk p c H ∧ 1 ≤ n ∧ n ≤ 1000000000 ∧ ∀ (r : Nat) H', (r : Int) < n → Gx p c H H' → Q (.int (r : Int)) H'
theorem nat_mod {x n : Int} (h : 1 ≤ n) : ∃ r : Nat, x % n = (r : Int) ∧ (r : Int) < n := by
  refine ⟨(x % n).toNat, ?_, ?_⟩
  · have := Int.emod_nonneg x (by omega : n ≠ 0)
    omega
  · have h1 := Int.emod_nonneg x (by omega : n ≠ 0)
    have h2 := Int.emod_lt_of_pos x (by omega : 0 < n)
    omega
theorem ok_draw {f : Addr} {fd : FuncData} (F : Fn K mg "_law_draw" s__law_draw ["_law_deck", "_law_many"] f fd) (B : Blt mg) : FnOk P w K mg base CX0 1 f fd ["_law_deck", "_law_many"] spDraw := by
  refine F.F.ok sc__law_draw (fun vs H Q E h => ?_) (fun cdv A outer s H vs Q E hr h => ?_)
  · obtain ⟨p, c, n, rfl, _⟩ := h
    rfl
  · obtain ⟨p, c, n, rfl, dk, n1, n2, q⟩ := h
    have hu := hu_of hr
    refine ⟨_, (pss_cons (ps_dput hu (pv 0) pe_str (pe_op op_add (pe_dget hu (pv 0) pe_str (fun _ _ => rfl)) pe_int) rfl)
      (pss_cons (ps_set (i := 2) sc__law_draw.nd rfl (.inl rfl) (pe_op op_add (pe_dget hu (pv 0) pe_str (fun _ _ => rfl)) (pe_op op_mul pe_int (pe_dget hu (pv 0) pe_str (fun _ _ => rfl)))))
      (C8.pss_cut (ps_if (pt_cmpR (op_neD hr.units) (pe_dget hu (pv 0) pe_str (fun _ _ => rfl)) (pe_lst pa_nil) (nomark _))
      (pss_cons (ps_set (i := 3) sc__law_draw.nd rfl (.inl rfl) (pe_bm0 PySem.F.plainAttrs_list PySem.F.slot_list_pop PySem.F.type_list_pop mt_pop (pe_dget hu (pv 0) pe_str (fun _ _ => rfl))))
        (pss_cons (ps_if (pt_cmpR op_ge (pv 3) (pe_op op_pow pe_int pe_int) (nomark _))
        (pss_cons (ps_expr (pe_bm PySem.F.plainAttrs_list PySem.F.slot_list_append PySem.F.type_list_append mt_append (pe_dget hu (pv 0) pe_str (fun _ _ => rfl)) (pa_cons (pe_op op_fdiv (pv 3) (pe_callB (call_max2 rfl) (by rfl) B.n_max (by decide +kernel) (pa_cons pe_int (pa_cons (pv 1) pa_nil)))) pa_nil)))
          (pss_one (ps_ret (pe_op op_mod (pe_callTy call_int1 (by rfl) B.n_int (by decide +kernel) (pa_cons (pv 3) pa_nil)) (pv 1)))))
        pss_nil)
        (pss_one (ps_set (i := 2) sc__law_draw.nd rfl (.inl rfl) (pe_op op_add (pv 2) (pe_op op_mod (pe_callTy call_int1 (by rfl) B.n_int (by decide +kernel) (pa_cons (pv 3) pa_nil)) pe_int))))))
      pss_nil)
      (pss_cons (ps_set (i := 2) sc__law_draw.nd rfl (.inl rfl) (pe_op op_mod (pe_callTy call_int1 (by rfl) B.n_int (by decide +kernel) (pa_cons (pe_op op_add (pe_op op_mul (pv 2) pe_int) pe_int) pa_nil)) pe_int))
      (pss_cons (ps_set (i := 2) sc__law_draw.nd rfl (.inl rfl) (pe_op op_mod (pe_callTy call_int1 (by rfl) B.n_int (by decide +kernel) (pa_cons (pe_op op_add (pe_op op_add (pe_op op_mul (pv 2) (pv 2)) (pe_op op_mul pe_int (pe_dget hu (pv 0) pe_str (fun _ _ => rfl)))) pe_int) pa_nil)) pe_int))
      (pss_one (ps_ret (pe_op op_mod (pe_callTy call_int1 (by rfl) B.n_int (by decide +kernel) (pa_cons (pe_op op_fdiv (pe_op op_mod (pe_callTy call_int1 (by rfl) B.n_int (by decide +kernel) (pa_cons (pe_op op_mul (pv 2) pe_int) pa_nil)) pe_int) pe_int) pa_nil)) (pv 1))))))))), ?_⟩
    obtain ⟨m, t, cs, h1, h2, h3⟩ := id dk
    have fin : ∀ (x : Int) (H2 : Hp), Gx p c H H2 → Q (.int (x % n)) H2 := by
      intro x H2 g
      obtain ⟨r, er, hr'⟩ := nat_mod (x := x) n1
      rw [er]
      exact q r H2 hr' g
    have npc : p ≠ c := ne_of h1 h2 (by intro z; cases z)
    -- turn
    refine ⟨_, rfl, p, _, rfl, dget (k := kT) h1 v_T, _, _, rfl, rfl, _, rfl, p, _, rfl, DPut.k (k := kT) h1 (by rw [sizeLine_eq]; show 3 < _; decide), ?_⟩
    rw [put_T]
    have g1 : Gx p c H (upd H p (.dK (dkL c m (t + 1)))) := ⟨fun b o b1 _ e => by rw [upd_ne b1]; exact e, ⟨m, t + 1, cs, upd_same, by rw [upd_ne npc.symm]; exact h2, h3⟩⟩
    generalize upd H p (.dK (dkL c m (t + 1))) = H1 at g1
    obtain ⟨m1, t1, cs1, k1, k2, k3⟩ := g1.2
    -- the figure
    refine ⟨_, rfl, p, _, rfl, dget (k := kM) k1 v_M, _, rfl, p, _, rfl, dget (k := kT) k1 v_T, _, _, rfl, rfl, .inl ⟨by decide, by decide⟩, _, _, rfl, rfl, ?_⟩
    refine ⟨fun σ H' => ∃ (fig : Int) (x3 : Option V), σ = [some (.ref p), some (.int n), some (.int fig), x3] ∧ Gx p c H H', ?_, ?_⟩
    · refine ⟨_, rfl, p, _, rfl, dget (k := kC) k1 v_C, Nat.zero_le _, fun z hz => ?_⟩
      have dk1 : Dk p c H1 := g1.2
      have nz := dk1.ne hz
      have k1' : upd H1 z (.lst []) p = some (.dK (dkL c m1 t1)) := by rw [upd_ne nz.1.symm]; exact k1
      have k2' : upd H1 z (.lst []) c = some (.lst (cs1.map V.int)) := by rw [upd_ne nz.2.symm]; exact k2
      have g2 : Gx p c H (upd H1 z (.lst [])) := g1.trans (Gx.new dk1 hz)
      refine ⟨.list (cs1.map .int), .list [], .lst (SqL.of k2') (dpIntsG cs1), .lst (SqL.of upd_same) .nil, shaped_ints cs1, shaped_ints [], _, rfl, ?_⟩
      rw [ne_nil_ints]
      refine ite2 (fun h => ?_) (fun h => ?_)
      · have hne : cs1 ≠ [] := of_decide_eq_true h
        obtain ⟨ini, cell, rfl⟩ : ∃ ini cell, cs1 = ini ++ [cell] := ⟨_, _, (List.dropLast_concat_getLast hne).symm⟩
        refine ⟨_, rfl, p, _, rfl, dget (k := kC) k1' v_C, .inl ⟨rfl, _, SqL.of k2'⟩, c, _, .int cell, rfl, rfl, k2', by simp, ?_⟩
        have ed : ((ini ++ [cell]).map V.int).dropLast = ini.map V.int := by simp
        rw [ed]
        rw [List.length_append, List.length_singleton] at k3
        have k1'' : upd (upd H1 z (.lst [])) c (.lst (ini.map V.int)) p = some (.dK (dkL c m1 t1)) := by rw [upd_ne npc]; exact k1'
        have putc : ∀ (xs : List Int) (H2 : Hp), (∀ b, b ≠ c → H2 b = upd H1 z (.lst []) b) → xs.length ≤ 63 → Gx p c H (upd H2 c (.lst (xs.map V.int))) := by
          intro xs H2 hb hx
          refine ⟨fun b o b1 b2 e => ?_, ⟨m1, t1, xs, ?_, upd_same, hx⟩⟩
          · rw [upd_ne b2, hb b b2]
            exact g2.1 b o b1 b2 e
          · rw [upd_ne npc, hb p npc]
            exact k1'
        refine ⟨_, rfl, _, _, rfl, rfl, ⟨by decide, by decide, by decide⟩, _, _, rfl, rfl, _, rfl, ?_⟩
        refine ite2 (fun h => ?_) (fun h => ?_)
        · refine ⟨_, rfl, p, _, rfl, dget (k := kC) k1'' v_C, .inl ⟨rfl, _, SqL.of upd_same⟩, _, rfl, _, rfl, 2, n, rfl, _, _, rfl, rfl, ?_, c, _, _, rfl, rfl, upd_same, ?_, ?_⟩
          · show (0 : Int) < (if n > 2 then n else 2) ∧ (if n > 2 then n else 2) < 1073741824
            split <;> omega
          · rw [List.length_map, sizeLine_eq]; omega
          refine ⟨_, rfl, .inl ⟨_, rfl, _, rfl, _, _, rfl, rfl, (by show (0 : Int) < n; omega), ?_⟩⟩
          refine fin cell _ ?_
          have e2 : ini.map V.int ++ [V.int (cell / (if n > 2 then n else 2))] = (ini ++ [cell / (if n > 2 then n else 2)]).map V.int := by simp
          show Gx p c H (upd _ c (.lst (ini.map V.int ++ [V.int (cell / (if n > 2 then n else 2))])))
          rw [e2]
          exact putc _ _ (fun b hb => by rw [upd_ne hb]) (by simp; omega)
        · refine ⟨_, rfl, _, rfl, .inl ⟨_, rfl, _, _, rfl, rfl, (by show (0 : Int) < 2147483563; decide), _, _, rfl, rfl, _, _, rfl, putc _ _ (fun b hb => rfl) (by omega)⟩⟩
      · exact ⟨_, _, rfl, g2⟩
    · rintro σ H2 ⟨fig, x3, rfl, g2⟩
      obtain ⟨m2, t2, cs2, j1, j2, j3⟩ := g2.2
      refine ⟨_, rfl, _, _, rfl, rfl, .inr ⟨by decide, by decide⟩, _, _, rfl, rfl, .inl ⟨_, rfl, _, _, rfl, rfl, (by show (0 : Int) < 2147483587; decide), ?_⟩⟩
      have b1 := Int.emod_nonneg (fig * 48271 + 17) (by decide : (2147483587 : Int) ≠ 0)
      have b2 := Int.emod_lt_of_pos (fig * 48271 + 17) (by decide : (0 : Int) < 2147483587)
      generalize (fig * 48271 + 17) % 2147483587 = f1 at b1 b2
      refine ⟨_, rfl, _, rfl, _, _, rfl, rfl, .inl ⟨by omega, by omega⟩, _, rfl, p, _, rfl, dget (k := kT) j1 v_T, _, _, rfl, rfl, .inl ⟨by decide, by decide⟩, _, _, rfl, rfl, _, _, rfl, rfl, .inl ⟨_, rfl, _, _, rfl, rfl, (by show (0 : Int) < 2147483647; decide), ?_⟩⟩
      refine ⟨_, rfl, _, _, rfl, rfl, .inr ⟨by decide, by decide⟩, .inl ⟨_, rfl, _, _, rfl, rfl, (by show (0 : Int) < 2147483629; decide), _, _, rfl, rfl, ⟨by decide, by decide⟩, .inl ⟨_, rfl, _, rfl, _, _, rfl, rfl, (by show (0 : Int) < n; omega), ?_⟩⟩⟩
      exact fin _ H2 g2
/-- _law_pick: any item of a list that the deck is not, any sign of a text -/
def spPick : Sp := fun vs H Q _ => ∃ (p c : Addr) (v : V), vs = [.ref p, v] ∧ Dk p c H ∧
  ((∃ (a : Addr) (xs : List V), v = .ref a ∧ At p c H a (.lst xs) ∧ 1 ≤ xs.length ∧ xs.length ≤ 100000 ∧ ∀ (r : Nat) x H', xs[r]? = some x → Gx p c H H' → Q x H') ∨
   ∃ z : List Nat, v = .str (S z) ∧ 1 ≤ z.length ∧ z.length ≤ 1000 ∧ ∀ (r : Nat) d H', z[r]? = some d → Gx p c H H' → Q (.str (S [d])) H')
theorem ok_pick {f f1 : Addr} {fd fd1 : FuncData} (F : Fn K mg "_law_pick" s__law_pick ["_law_deck", "_law_some"] f fd) (B : Blt mg) (F__law_draw : Fn K mg "_law_draw" s__law_draw ["_law_deck", "_law_many"] f1 fd1) :
    FnOk P w K mg base CX0 2 f fd ["_law_deck", "_law_some"] spPick := by
  have G__law_draw : FnOk P w K mg base CX0 1 f1 fd1 ["_law_deck", "_law_many"] spDraw := ok_draw F__law_draw B
  refine F.F.ok sc__law_pick (fun vs H Q E h => ?_) (fun cdv A outer s H vs Q E hr h => ?_)
  · obtain ⟨p, c, v, rfl, _⟩ := h
    rfl
  · obtain ⟨p, c, v, rfl, dk, h⟩ := h
    refine ⟨_, (pss_one (ps_ret (pe_ix ix_seq (pv 1) (pe_call G__law_draw (hr.mono (by decide)) (by rfl) F__law_draw.g F__law_draw.F.kp F__law_draw.b .nil pass0 (pa_cons (pv 0) (pa_cons (pe_callB call_len (by rfl) B.n_len PySem.boot_len (pa_cons (pv 1) pa_nil)) pa_nil))) (fun _ _ => rfl)))), ?_⟩
    rcases h with ⟨a, xs, rfl, ha, hl1, hl2, q⟩ | ⟨z, rfl, hl1, hl2, q⟩
    · refine ⟨_, rfl, _, rfl, _, rfl, .ref a, xs.length, rfl, .inl ⟨xs, SqL.of ha.2.2, rfl⟩, p, c, _, rfl, dk, by omega, by omega, fun r H' hr' g => ?_⟩
      have hlt : r < xs.length := by omega
      exact .inl ⟨a, xs, _, _, rfl, rfl, SqL.of (ha.gx g).2.2, atI_nat (List.getElem?_eq_getElem hlt), q r _ H' (List.getElem?_eq_getElem hlt) g⟩
    · refine ⟨_, rfl, _, rfl, _, rfl, .str (S z), z.length, rfl, ⟨sz (by rw [S_len]; omega), by rw [S_len]⟩, p, c, _, rfl, dk, by omega, by omega, fun r H' hr' g => ?_⟩
      have hlt : r < z.length := by omega
      have hz : (S z).cps.toList[r]? = some z[r] := List.getElem?_eq_getElem hlt
      exact .inr (.inr ⟨S z, _, _, rfl, rfl, sz (by rw [S_len]; omega), atI_nat hz, q r _ H' (List.getElem?_eq_getElem hlt) g⟩)
end
end Ag

end
/-! ## T6 -/
section
set_option linter.all false
set_option maxRecDepth 100000
namespace Ag
open PySem PySem.Spec PyProof.Rows L2
open SX (S S_len S_cat S_inj)
theorem tup_gx {p c a : Addr} {H H' : Hp} {xs : List V} (d : Dk p c H) (g : Gx p c H H') (h : H a = some (.tup xs)) : H' a = some (.tup xs) := by
  obtain ⟨m, t, cs, h1, h2, _⟩ := d
  exact g.1 a _ (ne_of h h1 (by intro z; cases z)) (ne_of h h2 (by intro z; cases z)) h
theorem PlI.gx {p c : Addr} {H H' : Hp} {ts : List Addr} {ps : List (List Nat × Nat)} (h : PlI H ts ps) (d : Dk p c H) (g : Gx p c H H') : PlI H' ts ps := ⟨h.1, fun j t e => by
  obtain ⟨x, h1, h2⟩ := h.2 j t e
  exact ⟨x, h1, tup_gx d g h2⟩⟩
theorem Pool.gx {p c a : Addr} {H H' : Hp} {ts : List Addr} {ps : List (List Nat × Nat)} (h : Pool a ts ps H) (d : Dk p c H) (g : Gx p c H H') : Pool a ts ps H' := ⟨tup_gx d g h.at_, h.it.gx d g, h.ok⟩
/-- tuples stay where a list is changed -/
theorem tup_put {a l : Addr} {H : Hp} {xs ys : List V} {o : HO} (h : H a = some (.tup xs)) (hl : H l = some (.lst ys)) : upd H l o a = some (.tup xs) := by
  rw [upd_ne (ne_of h hl (by intro z; cases z))]
  exact h
theorem PlI.put {l : Addr} {H : Hp} {ts : List Addr} {ps : List (List Nat × Nat)} {ys : List V} {o : HO} (h : PlI H ts ps) (hl : H l = some (.lst ys)) : PlI (upd H l o) ts ps := ⟨h.1, fun j t e => by
  obtain ⟨x, h1, h2⟩ := h.2 j t e
  exact ⟨x, h1, tup_put h2 hl⟩⟩
theorem PlI.snoc {H : Hp} {ts : List Addr} {ps : List (List Nat × Nat)} (h : PlI H ts ps) {T : Addr} {e : List Nat × Nat} (hT : H T = some (.tup [.str (S e.1), .int (e.2 : Nat)])) : PlI H (ts ++ [T]) (ps ++ [e]) := by
  refine ⟨by simp [h.1], fun j t ej => ?_⟩
  rw [List.getElem?_append] at ej
  split at ej
  · rename_i hj
    obtain ⟨x, h1, h2⟩ := h.2 j t ej
    exact ⟨x, by rw [List.getElem?_append_left (by rw [← h.1]; exact hj)]; exact h1, h2⟩
  · rename_i hj
    have e0 : j - ts.length = 0 := by
      cases hq : j - ts.length with
      | zero => rfl
      | succ k => rw [hq] at ej; simp at ej
    rw [e0] at ej
    simp at ej
    subst ej
    refine ⟨e, ?_, hT⟩
    rw [List.getElem?_append_right (by rw [← h.1]; omega), ← h.1, e0]
    rfl
theorem erase_map {α β : Type} (f : α → β) : ∀ (l : List α) (k : Nat), (l.map f).eraseIdx k = (l.eraseIdx k).map f
  | [], _ => rfl
  | _ :: _, 0 => rfl
  | x :: l, k + 1 => by
    show f x :: (l.map f).eraseIdx k = f x :: (l.eraseIdx k).map f
    rw [erase_map f l k]
theorem erase_perm {α : Type} : ∀ (l : List α) (k : Nat) (h : k < l.length), (l[k] :: l.eraseIdx k).Perm l
  | x :: l, 0, _ => List.Perm.refl _
  | x :: l, k + 1, h => (List.Perm.swap x (l[k]'(Nat.lt_of_succ_lt_succ h)) _).trans ((erase_perm l k (Nat.lt_of_succ_lt_succ h)).cons x)
/-- the eight names -/
def names8 : List (List Nat) := [[97, 115, 104], [111, 97, 107], [101, 108, 109], [98], [97], [97, 98, 99, 100, 101, 102, 103, 104, 105, 106], [121, 101, 119], [122]]
theorem names8_V : ([.str (Str.ofString "ash"), .str (Str.ofString "oak"), .str (Str.ofString "elm"), .str (Str.ofString "b"), .str (Str.ofString "a"), .str (Str.ofString "abcdefghij"), .str (Str.ofString "yew"), .str (Str.ofString "z")] : List V) = names8.map fun l => V.str (S l) := by decide +kernel
theorem names8_ok : names8.Nodup ∧ ∀ l ∈ names8, wordL l = true := by decide +kernel
section
variable {P : Program} {w : World} {K : PySem.W.Frag} {mg : Str → Option Value} {base : Heap} {tw tp tg tt : Tok}
def spWhole : Sp := fun vs H Q _ => ∃ i lo hi : Int, vs = [.int i, .int lo, .int hi] ∧ lo ≤ i ∧ i ≤ hi ∧ Q (.bl true) H
theorem ok_whole {f : Addr} {fd : FuncData} (F : Fn K mg "_law_is_whole" s__law_is_whole ["_law_thing", "_law_low", "_law_high"] f fd) (B : Blt mg) : FnOk P w K mg base CX0 1 f fd ["_law_thing", "_law_low", "_law_high"] spWhole := by
  refine F.F.ok sc__law_is_whole (fun vs H Q E h => ?_) (fun cdv A outer s H vs Q E hr h => ?_)
  · obtain ⟨i, lo, hi, rfl, _⟩ := h
    rfl
  · obtain ⟨i, lo, hi, rfl, h1, h2, q⟩ := h
    refine ⟨_, (pss_one (ps_ret (pe_and (pe_callB call_isi (by rfl) B.n_isinstance (by decide +kernel) (pa_cons (pv 0) (pa_cons (pe_bltn (v := .ty "int") (by rfl) B.n_int (by decide +kernel) rfl) pa_nil))) (pe_and (pe_not (pe_callB call_isi (by rfl) B.n_isinstance (by decide +kernel) (pa_cons (pv 0) (pa_cons (pe_bltn (v := .ty "bool") (by rfl) B.n_bool (by decide +kernel) rfl) pa_nil)))) (pe_one (pe_chain op_le op_le (pv 1) (pv 0) (pv 2))))))), ?_⟩
    refine ⟨.int i, rfl, .int i, .ty "int", _, _, true, rfl, .ty "int", .base (.int _), kit_ty (by decide +kernel), _, rfl, iteT ?_⟩
    refine ⟨.int i, rfl, .int i, .ty "bool", _, _, false, rfl, .ty "bool", .base (.int _), kit_ty (by decide +kernel), _, rfl, _, rfl, iteT ?_⟩
    refine ⟨_, rfl, _, rfl, _, _, rfl, rfl, _, rfl, ?_⟩
    rw [decide_eq_true h1]
    exact iteT ⟨_, rfl, _, _, rfl, rfl, bl_t h2 q⟩
def spMkPool : Sp := fun vs H Q _ => ∃ p c, vs = [.ref p] ∧ Dk p c H ∧ ∀ a ts ps H', Gx p c H H' → Pool a ts ps H' → Q (.ref a) H'
def PoolI (H : Hp) (p c NA FA : Addr) (many way : Nat) (j : Nat) (σ : L2.St) (H' : Hp) : Prop := ∃ (ns : List (List Nat)) (ts : List Addr) (ps : List (List Nat × Nat)) (x5 x6 : Option V), σ = [some (.ref p), some (.int many), some (.int way), some (.ref NA), some (.ref FA), x5, x6] ∧
  Gx p c H H' ∧ H' NA = some (.lst (ns.map fun l => V.str (S l))) ∧ H' FA = some (.lst (ts.map V.ref)) ∧ PlI H' ts ps ∧ (ps.map Prod.fst ++ ns).Perm names8 ∧ ps.length = j ∧ ∀ e ∈ ps, 1 ≤ e.2 ∧ e.2 ≤ 100
structure PF (H : Hp) (p c NA FA : Addr) (ns : List (List Nat)) (ts : List Addr) (ps : List (List Nat × Nat)) (H' : Hp) : Prop where
  g : Gx p c H H'
  hN : H' NA = some (.lst (ns.map fun l => V.str (S l)))
  hF : H' FA = some (.lst (ts.map V.ref))
  it : PlI H' ts ps
theorem PF.gx {H : Hp} {p c NA FA : Addr} {ns : List (List Nat)} {ts : List Addr} {ps : List (List Nat × Nat)} {H1 H2 : Hp} (f : PF H p c NA FA ns ts ps H1) (nN : NA ≠ p ∧ NA ≠ c) (nF : FA ≠ p ∧ FA ≠ c) (g : Gx p c H1 H2) : PF H p c NA FA ns ts ps H2 :=
  ⟨f.g.trans g, g.1 _ _ nN.1 nN.2 f.hN, g.1 _ _ nF.1 nF.2 f.hF, f.it.gx f.g.2 g⟩
set_option maxHeartbeats 1000000 in
theorem ok_mkpool {f f1 f2 : Addr} {fd fd1 fd2 : FuncData} (F : Fn K mg "_law_pool" s__law_pool ["_law_deck"] f fd) (B : Blt mg) (F__law_pick : Fn K mg "_law_pick" s__law_pick ["_law_deck", "_law_some"] f1 fd1) (G__law_pick : FnOk P w K mg base CX0 2 f1 fd1 ["_law_deck", "_law_some"] spPick)
    (F__law_draw : Fn K mg "_law_draw" s__law_draw ["_law_deck", "_law_many"] f2 fd2) (G__law_draw : FnOk P w K mg base CX0 1 f2 fd2 ["_law_deck", "_law_many"] spDraw) : FnOk P w K mg base CX0 3 f fd ["_law_deck"] spMkPool := by
  refine F.F.ok sc__law_pool (fun vs H Q E h => ?_) (fun cdv A outer s H vs Q E hr h => ?_)
  · obtain ⟨p, c, rfl, _⟩ := h
    rfl
  · obtain ⟨p, c, rfl, dk, q⟩ := h
    refine ⟨_, (pss_cons (ps_par (i := 1) (j := 2) (by rfl) sc__law_pool.nd rfl rfl (by decide) rfl rfl (pa_cons (pe_call G__law_pick (hr.mono (by decide)) (by rfl) F__law_pick.g F__law_pick.F.kp F__law_pick.b .nil pass0 (pa_cons (pv 0) (pa_cons (pe_lst (pa_cons pe_int (pa_cons pe_int (pa_cons pe_int (pa_cons pe_int (pa_cons pe_int (pa_cons pe_int (pa_cons pe_int pa_nil)))))))) pa_nil))) (pa_cons (pe_call G__law_draw (hr.mono (by decide)) (by rfl) F__law_draw.g F__law_draw.F.kp F__law_draw.b .nil pass0 (pa_cons (pv 0) (pa_cons pe_int pa_nil))) pa_nil)) (by rfl))
      (pss_cons (ps_par (i := 3) (j := 4) (by rfl) sc__law_pool.nd rfl rfl (by decide) rfl rfl (pa_cons (pe_lst (pa_cons pe_str (pa_cons pe_str (pa_cons pe_str (pa_cons pe_str (pa_cons pe_str (pa_cons pe_str (pa_cons pe_str (pa_cons pe_str pa_nil))))))))) (pa_cons (pe_lst pa_nil) pa_nil)) (by rfl))
      (pss_cons (ps_for PassesOwn.never rfl (pi_range1 (by rfl) B.n_range (pa_cons (pv 1) pa_nil)) (pg_name (i := 5) sc__law_pool.nd rfl (Or.inl rfl))
      (pss_cons (ps_set (i := 6) sc__law_pool.nd rfl (.inl rfl) (pe_op op_add pe_int (pe_call G__law_draw (hr.mono (by decide)) (by rfl) F__law_draw.g F__law_draw.F.kp F__law_draw.b .nil pass0 (pa_cons (pv 0) (pa_cons (pe_ix ix_list (pe_lst (pa_cons pe_int (pa_cons pe_int (pa_cons pe_int (pa_cons pe_int (pa_cons pe_int pa_nil)))))) (pv 2) (fun _ _ => rfl)) pa_nil)))))
        (C8.pss_cut (ps_if (PW.pt (pw_and (pt_cmpR op_eq (pv 2) pe_int (nomark _)) (pw_and1 (pt_cmpR op_eq (pv 5) pe_int (nomark _)))))
        (pss_one (ps_set (i := 6) sc__law_pool.nd rfl (.inl rfl) (pe_op op_sub pe_int (pe_call G__law_draw (hr.mono (by decide)) (by rfl) F__law_draw.g F__law_draw.F.kp F__law_draw.b .nil pass0 (pa_cons (pv 0) (pa_cons pe_int pa_nil))))))
        pss_nil)
        (pss_one (ps_expr (pe_bm PySem.F.plainAttrs_list PySem.F.slot_list_append PySem.F.type_list_append mt_append (pv 4) (pa_cons (pe_tup (pa_cons (pe_bm PySem.F.plainAttrs_list PySem.F.slot_list_pop PySem.F.type_list_pop mt_popAt (pv 3) (pa_cons (pe_call G__law_draw (hr.mono (by decide)) (by rfl) F__law_draw.g F__law_draw.F.kp F__law_draw.b .nil pass0 (pa_cons (pv 0) (pa_cons (pe_callB call_len_seq (by rfl) B.n_len PySem.boot_len (pa_cons (pv 3) pa_nil)) pa_nil))) pa_nil)) (pa_cons (pv 6) pa_nil))) pa_nil)))))))
      (pss_one (ps_ret (pe_callTy call_tuple_of (by rfl) B.n_tuple (by decide +kernel) (pa_cons (pv 4) pa_nil))))))), ?_⟩
    refine ⟨_, rfl, sz (by show 7 ≤ 16000000; decide), fun L hL => ⟨p, c, .ref L, rfl, dk.same (same_new hL), .inl ⟨L, _, rfl, At.new dk hL, (by show 1 ≤ 7; decide), (by show 7 ≤ 100000; decide), fun z x Ha hx ga => ?_⟩⟩⟩
    have ga := (Gx.new dk hL).trans ga
    obtain ⟨many, m1, m8, rfl⟩ : ∃ n : Nat, 1 ≤ n ∧ n ≤ 8 ∧ x = .int (n : Int) := by
      match z, hx with
      | 0, hx => exact ⟨3, by decide, by decide, (Option.some.inj hx).symm⟩
      | 1, hx => exact ⟨2, by decide, by decide, (Option.some.inj hx).symm⟩
      | 2, hx => exact ⟨4, by decide, by decide, (Option.some.inj hx).symm⟩
      | 3, hx => exact ⟨1, by decide, by decide, (Option.some.inj hx).symm⟩
      | 4, hx => exact ⟨8, by decide, by decide, (Option.some.inj hx).symm⟩
      | 5, hx => exact ⟨5, by decide, by decide, (Option.some.inj hx).symm⟩
      | 6, hx => exact ⟨6, by decide, by decide, (Option.some.inj hx).symm⟩
      | z + 7, hx => cases hx
    clear hx
    refine ⟨_, rfl, p, c, 5, rfl, ga.2, by decide, by decide, fun way Hb hway gb => ⟨_, _, rfl, ?_⟩⟩
    have gb := ga.trans gb
    have hway : way < 5 := by omega
    refine ⟨sz (by show 8 ≤ 16000000; decide), fun NA hNA => ⟨Nat.zero_le _, fun FA hFA => ⟨_, _, rfl, ?_⟩⟩⟩
    have nN := gb.2.ne hNA
    have gc := gb.trans (Gx.new (o := .lst (names8.map fun l => V.str (S l))) gb.2 hNA)
    rw [names8_V] at hFA ⊢
    have hN1 : upd Hb NA (.lst (names8.map fun l => V.str (S l))) NA = some (.lst (names8.map fun l => V.str (S l))) := upd_same
    have nNA : H NA = none := gb.free dk hNA
    generalize upd Hb NA (.lst (names8.map fun l => V.str (S l))) = Hc at gc hN1 hFA ⊢
    have nF := gc.2.ne hFA
    have nFA : H FA = none := gc.free dk hFA
    have nNF : NA ≠ FA := ne_of_none hN1 hFA
    have gd := gc.trans (Gx.new (o := .lst []) gc.2 hFA)
    refine ⟨_, rfl, _, rfl, by omega, by omega, ?_⟩
    refine for_range (lo := 0) (n := ((many : Nat) : Int).toNat) (PoolI H p c NA FA many way) ⟨names8, [], [], none, none, rfl, gd, by rw [upd_ne nNF]; exact hN1, upd_same, ⟨rfl, fun j t e => by cases e⟩, List.Perm.refl _, rfl, fun e he => by cases he⟩ ?_ ?_
    · rintro j σ H1 hj ⟨ns, ts, ps, x5, x6, rfl, g1, hN, hF, it, pm, hlen, hwt⟩
      have hj : j < many := by omega
      have f1 : PF H p c NA FA ns ts ps H1 := ⟨g1, hN, hF, it⟩
      clear g1 hN hF it
      -- the weight
      refine ⟨_, rfl, sz (by show 5 ≤ 16000000; decide), fun Z hZ => ?_⟩
      have f2 := f1.gx nN nF (Gx.new (o := .lst [.int 5, .int 100, .int 12, .int 3, .int 2]) f1.g.2 hZ)
      have hZ2 : upd H1 Z (.lst [.int 5, .int 100, .int 12, .int 3, .int 2]) Z = some (.lst [.int 5, .int 100, .int 12, .int 3, .int 2]) := upd_same
      generalize upd H1 Z (.lst [.int 5, .int 100, .int 12, .int 3, .int 2]) = H2 at f2 hZ2 ⊢
      obtain ⟨wm, w1, w9, hwm⟩ : ∃ n : Nat, 1 ≤ n ∧ n ≤ 100 ∧ ([.int 5, .int 100, .int 12, .int 3, .int 2] : List V)[way]? = some (.int (n : Int)) := by
        match way, hway with
        | 0, _ => exact ⟨5, by decide, by decide, rfl⟩
        | 1, _ => exact ⟨100, by decide, by decide, rfl⟩
        | 2, _ => exact ⟨12, by decide, by decide, rfl⟩
        | 3, _ => exact ⟨3, by decide, by decide, rfl⟩
        | 4, _ => exact ⟨2, by decide, by decide, rfl⟩
      refine ⟨_, rfl, Z, _, _, _, rfl, rfl, SqL.of hZ2, atI_nat hwm, p, c, wm, rfl, f2.g.2, by omega, by omega, fun r H3 hr3 g3 => ⟨_, _, rfl, rfl, ?_⟩⟩
      have f3 := f2.gx nN nF g3
      refine ⟨fun σ H' => ∃ wt : Nat, 1 ≤ wt ∧ wt ≤ 100 ∧ σ = [some (.ref p), some (.int many), some (.int way), some (.ref NA), some (.ref FA), some (.int (0 + (j : Int))), some (.int wt)] ∧ PF H p c NA FA ns ts ps H', ?_, ?_⟩
      · have plain : ∃ wt : Nat, 1 ≤ wt ∧ wt ≤ 100 ∧ [some (V.ref p), some (.int many), some (.int way), some (.ref NA), some (.ref FA), some (.int (0 + (j : Int))), some (.int (1 + (r : Int)))] = [some (.ref p), some (.int many), some (.int way), some (.ref NA), some (.ref FA), some (.int (0 + (j : Int))), some (.int wt)] ∧ PF H p c NA FA ns ts ps H3 :=
          ⟨1 + r, by omega, by omega, rfl, f3⟩
        refine ⟨_, rfl, rfl, _, rfl, ite2 (fun _ => ⟨_, rfl, rfl, _, rfl, ite2 (fun _ => ?_) (fun _ => plain)⟩) (fun _ => plain)⟩
        refine ⟨_, rfl, p, c, 3, rfl, f3.g.2, by decide, by decide, fun r2 H4 hr4 g4 => ⟨_, _, rfl, rfl, ?_⟩⟩
        refine ⟨100 - r2, by omega, by omega, ?_, f3.gx nN nF g4⟩
        rw [show ((100 - r2 : Nat) : Int) = 100 - (r2 : Int) by omega]
        rfl
      rintro σ H4 ⟨wt, wt1, wt9, rfl, f4⟩
      refine ⟨_, rfl, .inl ⟨rfl, _, SqL.of f4.hF⟩, _, rfl, .inl ⟨rfl, _, SqL.of f4.hN⟩, _, rfl, _, rfl, NA, _, rfl, .inl (SqL.of f4.hN), ?_⟩
      have nl : ns.length = 8 - j := by
        have := pm.length_eq
        rw [List.length_append, List.length_map, hlen] at this
        have e8 : names8.length = 8 := rfl
        omega
      refine ⟨p, c, _, rfl, f4.g.2, by rw [List.length_map]; omega, by rw [List.length_map]; omega, fun k H5 hk g5 => ?_⟩
      rw [List.length_map] at hk
      have hk : k < ns.length := by omega
      have f5 := f4.gx nN nF g5
      refine ⟨NA, _, _, k, .str (S ns[k]), rfl, rfl, f5.hN, by omega, by omega, ?_, by rw [List.getElem?_map, List.getElem?_eq_getElem hk]; rfl, ?_⟩
      · have := seqIndex_of (k := (k : Int)) (n := (ns.map fun l => V.str (S l)).length) (by omega) (by rw [List.length_map]; omega)
        rw [this]
        simp
      have eE : (ns.map fun l => V.str (S l)).eraseIdx k = (ns.eraseIdx k).map fun l => V.str (S l) := by
        exact erase_map _ _ _
      rw [eE]
      have hF6 : upd H5 NA (.lst ((ns.eraseIdx k).map fun l => V.str (S l))) FA = some (.lst (ts.map V.ref)) := by
        rw [upd_ne nNF.symm]
        exact f5.hF
      have f6 : PF H p c NA FA (ns.eraseIdx k) ts ps (upd H5 NA (.lst ((ns.eraseIdx k).map fun l => V.str (S l)))) := ⟨f5.g.put dk nNA nN, upd_same, hF6, f5.it.put f5.hN⟩
      generalize upd H5 NA (.lst ((ns.eraseIdx k).map fun l => V.str (S l))) = H6 at f6 ⊢
      refine ⟨_, rfl, sz (by show 2 ≤ 16000000; decide), fun T hT => ?_⟩
      have f7 := f6.gx nN nF (Gx.new (o := .tup [.str (S ns[k]), .int wt]) f6.g.2 hT)
      have hT7 : upd H6 T (.tup [.str (S ns[k]), .int wt]) T = some (.tup [.str (S ns[k]), .int wt]) := upd_same
      generalize upd H6 T (.tup [.str (S ns[k]), .int wt]) = H7 at f7 hT7 ⊢
      have ltl := f7.it.1
      refine ⟨FA, _, _, rfl, rfl, f7.hF, by rw [List.length_map, sizeLine_eq]; omega, ?_⟩
      refine ⟨ns.eraseIdx k, ts ++ [T], ps ++ [(ns[k], wt)], _, _, rfl, f7.g.put dk nFA nF, by rw [upd_ne nNF]; exact f7.hN, by rw [upd_same, List.map_append]; rfl, (f7.it.snoc (e := (ns[k], wt)) hT7).put f7.hF, ?_, by simp [hlen], fun e he => ?_⟩
      · rw [List.map_append, List.append_assoc]
        exact (List.Perm.append_left _ (erase_perm ns k hk)).trans pm
      · rcases List.mem_append.mp he with h | h
        · exact hwt e h
        · rw [List.mem_singleton.mp h]
          exact ⟨wt1, wt9⟩
    · rintro σ H1 ⟨ns, ts, ps, x5, x6, rfl, g1, hN, hF, it, pm, hlen, hwt⟩
      have hlen : ps.length = many := by simpa using hlen
      refine ⟨_, rfl, FA, _, rfl, .inl ⟨SqL.of hF, fun t ht => ?_⟩⟩
      have nd : (ps.map Prod.fst ++ ns).Nodup := pm.nodup_iff.mpr names8_ok.1
      refine q t ts ps _ (g1.trans (Gx.new g1.2 ht)) ⟨upd_same, it.to (same_new ht), by omega, by omega, fun e he => ?_, hwt, (List.nodup_append.mp nd).1⟩
      exact names8_ok.2 _ (pm.mem_iff.mp (List.mem_append_left _ (List.mem_map_of_mem he)))
end
end Ag

end
/-! ## T7 -/
section
set_option linter.all false
set_option maxRecDepth 100000
namespace Ag
open PySem PySem.Spec PyProof.Rows L2
instance rdyDec {n : Nat} {w k : Nat → Nat} {j t : Nat} : Decidable (Fair.rdy n w k j t) := by
  unfold Fair.rdy
  infer_instance
/-- what the law notes of a place -/
def bV (n : Nat) (w k : Nat → Nat) (t j : Nat) : V := if Fair.rdy n w k j t then .int ((Fair.due n w k j : Nat) : Int) else .non
def dL (n : Nat) (w k : Nat → Nat) (t : Nat) : List Int := ((List.range n).filter fun j => decide (Fair.rdy n w k j t)).map fun j => ((Fair.due n w k j : Nat) : Int)
theorem bV_succ (n : Nat) (w k : Nat → Nat) (t j : Nat) : (List.range (j + 1)).map (bV n w k t) = (List.range j).map (bV n w k t) ++ [bV n w k t j] := by
  rw [List.range_succ, List.map_append]
  rfl
theorem flat_bV (n : Nat) (w k : Nat → Nat) (t j : Nat) : flatV (bV n w k t j) = true := by
  unfold bV
  split <;> rfl
section
variable {P : Program} {w : World} {K : PySem.W.Frag} {mg : Str → Option Value} {base : Heap} {tw tp tg tt : Tok}
def spIsNext : Sp := fun vs H Q _ => ∃ a ts ps c cs, ∃ t at_ : Nat, vs = [.ref a, .ref c, .int t, .int at_] ∧ Pool a ts ps H ∧ H c = some (.lst (ctV cs)) ∧ cs.length = ps.length ∧ Fair.Inv ps.length (wF ps) (kF cs) cs.sum ∧ t = cs.sum + 1 ∧
  ∀ (b : Bool) H', Same H H' → (b = true ↔ Fair.Pick ps.length (wF ps) (kF cs) t at_) → Q (.bl b) H'
set_option maxHeartbeats 1000000 in
theorem ok_isnext {f : Addr} {fd : FuncData} (F : Fn K mg "_law_is_next" s__law_is_next ["_law_pool_here", "_law_counts", "_law_t", "_law_at"] f fd) (B : Blt mg) : FnOk P w K mg base CX0 1 f fd ["_law_pool_here", "_law_counts", "_law_t", "_law_at"] spIsNext := by
  refine F.F.ok sc__law_is_next (fun vs H Q E h => ?_) (fun cdv A outer s H vs Q E hr h => ?_)
  · obtain ⟨a, ts, ps, c, cs, t, at_, rfl, _⟩ := h
    rfl
  · obtain ⟨a, ts, ps, c, cs, t, at_, rfl, p, hc, hl, inv, ht, q⟩ := h
    refine ⟨_, (pss_cons (ps_par (i := 4) (j := 5) (by rfl) sc__law_is_next.nd rfl rfl (by decide) rfl rfl (pa_cons (pe_callB (cr_sum rfl) (by rfl) B.n_sum (by decide +kernel) (pa_cons (pe_lc (own := [("_law_label", 11), ("_law_weight", 10)]) rfl sc__law_is_next.nd (pi_tup (pv 0)) (blkOk_by (N := N__law_is_next) (sc := defScope s__law_is_next) (by decide +kernel)) (fun _ _ _ _ _ => pg_two (i := 11) (j := 10) K rfl sc__law_is_next.nd rfl rfl rfl rfl rfl) (fun _ _ _ _ _ => pts_nil) (fun _ _ _ _ _ => (pv 10))) pa_nil)) (pa_cons (pe_lst pa_nil) pa_nil)) (by rfl))
      (pss_cons (ps_for PassesOwn.never rfl (pi_enumT (by rfl) B.n_enumerate (pa_cons (pv 0) pa_nil)) (pg_tup rfl (pgs_cons (pg_name (i := 6) sc__law_is_next.nd rfl (Or.inl rfl)) (pgs_cons (pg_name (i := 7) sc__law_is_next.nd rfl (Or.inl rfl)) pgs_nil)))
      (pss_one (ps_if (pt_cmpR op_gt (pv 2) (pe_op op_fdiv (pe_op op_mul (pe_ix ix_list (pv 1) (pv 6) (fun _ _ => rfl)) (pv 4)) (pe_ix ix_seq (pv 7) pe_int (fun _ _ => rfl))) (nomark _))
        (pss_one (ps_expr (pe_bm PySem.F.plainAttrs_list PySem.F.slot_list_append PySem.F.type_list_append mt_append (pv 5) (pa_cons (pe_op op_fdiv (pe_op op_sub (pe_op op_add (pe_op op_mul (pe_op op_add (pe_ix ix_list (pv 1) (pv 6) (fun _ _ => rfl)) pe_int) (pv 4)) (pe_ix ix_seq (pv 7) pe_int (fun _ _ => rfl))) pe_int) (pe_ix ix_seq (pv 7) pe_int (fun _ _ => rfl))) pa_nil))))
        (pss_one (ps_expr (pe_bm PySem.F.plainAttrs_list PySem.F.slot_list_append PySem.F.type_list_append mt_append (pv 5) (pa_cons pe_non pa_nil)))))))
      (pss_cons (ps_setLc (i := 8) (own := [("_law_due", 9)]) rfl sc__law_is_next.nd rfl rfl (sw_true rfl rfl rfl (by decide +kernel)) (pi_list (pv 5)) (blkOk_by (N := N__law_is_next) (sc := defScope s__law_is_next) (by decide +kernel)) (fun _ _ _ _ _ => (pg_name (i := 9) sc__law_is_next.nd rfl (Or.inl rfl))) (fun _ _ _ _ _ => (pts_one (pt_cmpR op_notN (pv 9) pe_non (nomark _)))) (fun _ _ _ _ _ => (pv 9)))
      (pss_one (ps_ret (pe_and (pe_cmpR (op_neD hr.units) (pv 8) (pe_lst pa_nil) (nomark _)) (pe_and (pe_cmpR op_eq (pv 3) (pe_bm PySem.F.plainAttrs_list PySem.F.slot_list_index PySem.F.type_list_index mt_index (pv 5) (pa_cons (pe_callB (cr_min rfl) (by rfl) B.n_min (by decide +kernel) (pa_cons (pv 8) pa_nil)) pa_nil)) (nomark _)) (pe_one (pe_cmpR op_ge (pe_callB (cr_min rfl) (by rfl) B.n_min (by decide +kernel) (pa_cons (pv 8) pa_nil)) (pv 2) (nomark _)))))))))), ?_⟩
    have n8 := p.ok.n8
    have ln := p.it.1
    have W8 := tW_le p.ok
    have W1 := tW_pos p.ok
    refine ⟨_, rfl, a, rfl, ⟨_, SqT.of p.at_⟩, fun D hD => ?_⟩
    refine lc_sel (walk_tup (K := K) (a := a) (xs := ts.map V.ref)) (fun _ => true) (fun i => .int ((wF ps i : Nat) : Int)) (by rw [List.length_map]; omega) hD (fun H' s => SqT.of (s _ _ p.at_)) ?_ ?_
    · rintro j y H1 H2 k k0 hi s1 ⟨rfl, hy⟩ hk _
      obtain ⟨t, e, rfl, _, he, ht⟩ := (p.it.to s1).get hy
      have hk := hk rfl _ (Same.refl _)
      rw [wF_at he] at hk
      exact ⟨t, _, rfl, SqT.of ht, rfl, _, _, rfl, _, _, rfl, rfl, rfl, _, rfl, hk⟩
    · intro H1 s1 h1
      have e1 : (List.range (ts.map V.ref).length).map (fun i => V.int ((wF ps i : Nat) : Int)) = ((List.range ps.length).map fun i => ((wF ps i : Nat) : Int)).map V.int := by
        rw [List.length_map, ln, List.map_map]
        rfl
      rw [filt_all, e1] at h1
      refine ⟨D, _, rfl, SqL.of h1, ?_⟩
      rw [sum_range]
      refine ⟨Nat.zero_le _, fun BA hBA => ⟨_, _, rfl, ?_⟩⟩
      have nB : H BA = none := s1.free hBA
      have s2 := s1.trans (same_new (o := .lst []) hBA)
      have hB2 : upd H1 BA (.lst []) BA = some (.lst []) := upd_same
      generalize upd H1 BA (.lst []) = H2 at s2 hB2 ⊢
      refine ⟨_, rfl, a, _, rfl, SqT.of (s2 _ _ p.at_), ?_⟩
      refine for_it (walk_enumT (K := K) (a := a) (xs := ts.map V.ref)) (fun j σ H' => ∃ (x6 x7 x8 x9 x10 x11 : Option V), σ = [some (.ref a), some (.ref c), some (.int t), some (.int at_), some (.int (tW ps : Nat)), some (.ref BA), x6, x7, x8, x9, x10, x11] ∧ Same H H' ∧ H' BA = some (.lst ((List.range j).map (bV ps.length (wF ps) (kF cs) t)))) ⟨_, _, _, _, _, _, rfl, s2, hB2⟩ (fun j σ H' _ z => ?_) ?_ ?_
      · obtain ⟨_, _, _, _, _, _, _, sm, _⟩ := z
        exact SqT.of (sm _ _ p.at_)
      · rintro j y σ H3 H4 hj ⟨x6, x7, x8, x9, x10, x11, rfl, s3, hB⟩ ⟨T2, x, rfl, hT2, rfl, hx⟩
        rw [List.length_map, ln] at hj
        have s4 := s3.trans (same_new (o := .tup [.int (j : Nat), x]) hT2)
        have h4 : upd H3 T2 (.tup [.int (j : Nat), x]) T2 = some (.tup [.int (j : Nat), x]) := upd_same
        have hB4 := same_new (o := .tup [.int (j : Nat), x]) hT2 _ _ hB
        generalize upd H3 T2 (.tup [.int (j : Nat), x]) = H4 at s4 h4 hB4 ⊢
        obtain ⟨tr, e, rfl, _, he, htr⟩ := (p.it.to s4).get hx
        have hw := p.ok.wt e (List.mem_of_getElem? he)
        obtain ⟨k, hk⟩ : ∃ k, cs[j]? = some k := ⟨cs[j]'(by omega), List.getElem?_eq_getElem (by omega)⟩
        refine ⟨T2, _, rfl, SqT.of h4, rfl, _, _, rfl, _, _, rfl, rfl, ?_⟩
        have ck := SqL.of (K := K) (s4 _ _ hc)
        have ak := atI_nat (ctV_at hk)
        refine ⟨_, rfl, _, rfl, _, rfl, c, _, _, _, rfl, rfl, ck, ak, _, rfl, _, _, rfl, rfl, .inr ⟨by omega, by omega⟩, _, rfl, .inr (.inl ⟨tr, _, _, _, rfl, rfl, SqT.of htr, atI_nat (j := 1) rfl, _, _, rfl, rfl, ⟨by omega, by omega⟩, _, _, rfl, rfl, _, rfl, ?_⟩)⟩
        have hW : tW ps = Fair.tot ps.length (wF ps) := rfl
        have hD : Fair.due ps.length (wF ps) (kF cs) j = ((k + 1) * tW ps + e.2 - 1) / e.2 := by
          unfold Fair.due
          rw [kF_at hk, wF_at he, ← hW]
        have hm : (((k + 1) * tW ps : Nat) : Int) = ((k : Int) + 1) * (tW ps : Nat) := by
          rw [Int.natCast_mul]
          rfl
        have hdv : (((k : Int) + 1) * (tW ps : Nat) + (e.2 : Nat) - 1) / ((e.2 : Nat) : Int) = ((Fair.due ps.length (wF ps) (kF cs) j : Nat) : Int) := by
          rw [hD, Int.natCast_ediv, ← hm]
          congr 1
          omega
        have hrd : ((t : Nat) : Int) > (k : Int) * (tW ps : Int) / (e.2 : Int) ↔ Fair.rdy ps.length (wF ps) (kF cs) j t := by
          unfold Fair.rdy
          rw [kF_at hk, wF_at he, ← hW, ← Int.natCast_mul, ← Int.natCast_ediv]
          omega
        by_cases hr : Fair.rdy ps.length (wF ps) (kF cs) j t
        · refine iteB (decide_eq_true (hrd.mpr hr)) ?_
          refine ⟨_, rfl, .inl ⟨rfl, _, SqL.of hB4⟩, _, rfl, _, rfl, c, _, _, _, rfl, rfl, ck, ak, _, _, rfl, rfl, _, rfl, _, _, rfl, rfl, .inr ⟨by omega, by omega⟩, _, rfl, .inr (.inl ⟨tr, _, _, _, rfl, rfl, SqT.of htr, atI_nat (j := 1) rfl, _, _, rfl, rfl, _, _, rfl, rfl, _, rfl, .inr (.inl ⟨tr, _, _, _, rfl, rfl, SqT.of htr, atI_nat (j := 1) rfl, _, _, rfl, rfl, ⟨by omega, by omega⟩, BA, _, _, rfl, rfl, hB4, by rw [List.length_map, List.length_range, sizeLine_eq]; omega, ?_⟩)⟩)⟩
          refine ⟨_, _, _, _, _, _, rfl, fun b o eb => by rw [upd_ne (ne_of_none eb nB)]; exact s4 _ _ eb, ?_⟩
          rw [upd_same, bV_succ]
          have eb : bV ps.length (wF ps) (kF cs) t j = .int ((((k : Int) + 1) * (tW ps : Nat) + (e.2 : Nat) - 1) / ((e.2 : Nat) : Int)) := by
            unfold bV
            rw [if_pos hr, hdv]
          rw [eb]
        · refine iteC (decide_eq_false fun z => hr (hrd.mp z)) ?_
          refine ⟨_, rfl, .inl ⟨rfl, _, SqL.of hB4⟩, BA, _, _, rfl, rfl, hB4, by rw [List.length_map, List.length_range, sizeLine_eq]; omega, ?_⟩
          refine ⟨_, _, _, _, _, _, rfl, fun b o eb => by rw [upd_ne (ne_of_none eb nB)]; exact s4 _ _ eb, ?_⟩
          rw [upd_same, bV_succ]
          have eb : bV ps.length (wF ps) (kF cs) t j = .non := by
            unfold bV
            rw [if_neg hr]
          rw [eb]
      · rintro σ H3 ⟨x6, x7, x8, x9, x10, x11, rfl, s3, hB⟩
        rw [List.length_map, ln] at hB
        refine ⟨_, rfl, BA, rfl, ⟨_, SqL.of hB⟩, fun D2 hD2 => ?_⟩
        have bat : ∀ {j : Nat} {y : V}, ((List.range ps.length).map (bV ps.length (wF ps) (kF cs) t))[j]? = some y → j < ps.length ∧ y = bV ps.length (wF ps) (kF cs) t j := by
          intro j y hy
          rw [List.getElem?_map] at hy
          by_cases hj : j < ps.length
          · rw [List.getElem?_range hj] at hy
            exact ⟨hj, (Option.some.inj hy).symm⟩
          · rw [List.getElem?_eq_none (by simpa using hj)] at hy
            cases hy
        refine lc_sel (walk_list (K := K) (a := BA) (xs := (List.range ps.length).map (bV ps.length (wF ps) (kF cs) t))) (fun j => decide (Fair.rdy ps.length (wF ps) (kF cs) j t)) (fun j => .int ((Fair.due ps.length (wF ps) (kF cs) j : Nat) : Int)) (by rw [List.length_map, List.length_range]; omega) hD2 (fun H' s => SqL.of (s _ _ hB)) ?_ ?_
        · rintro j y H5 H6 kk k0 hj s5 ⟨rfl, hy⟩ hk hk0
          obtain ⟨hjn, rfl⟩ := bat hy
          refine ⟨rfl, _, rfl, rfl, _, rfl, ?_⟩
          by_cases hr : Fair.rdy ps.length (wF ps) (kF cs) j t
          · have eb : bV ps.length (wF ps) (kF cs) t j = .int ((Fair.due ps.length (wF ps) (kF cs) j : Nat) : Int) := by
              unfold bV
              rw [if_pos hr]
            rw [eb]
            exact iteT ⟨_, rfl, hk (decide_eq_true hr) _ (Same.refl _)⟩
          · have eb : bV ps.length (wF ps) (kF cs) t j = .non := by
              unfold bV
              rw [if_neg hr]
            rw [eb]
            exact iteF (hk0 (decide_eq_false hr) _ (Same.refl _))
        · intro H5 s5 h5
          have el : (((List.range ((List.range ps.length).map (bV ps.length (wF ps) (kF cs) t)).length).filter fun j => decide (Fair.rdy ps.length (wF ps) (kF cs) j t)).map fun j => V.int ((Fair.due ps.length (wF ps) (kF cs) j : Nat) : Int)) = (dL ps.length (wF ps) (kF cs) t).map V.int := by
            unfold dL
            rw [List.length_map, List.length_range, List.map_map]
            rfl
          rw [el] at h5
          have mem : ∀ x, x ∈ dL ps.length (wF ps) (kF cs) t ↔ ∃ j, j < ps.length ∧ Fair.rdy ps.length (wF ps) (kF cs) j t ∧ x = ((Fair.due ps.length (wF ps) (kF cs) j : Nat) : Int) := by
            intro x
            unfold dL
            rw [List.mem_map]
            constructor
            · rintro ⟨j, hj, rfl⟩
              rw [List.mem_filter, List.mem_range, decide_eq_true_eq] at hj
              exact ⟨j, hj.1, hj.2, rfl⟩
            · rintro ⟨j, hj, hr, rfl⟩
              exact ⟨j, by rw [List.mem_filter, List.mem_range, decide_eq_true_eq]; exact ⟨hj, hr⟩, rfl⟩
          obtain ⟨i0, pk⟩ := Fair.exists_pick (n := ps.length) (w := wF ps) (k := kF cs) (t := cs.sum) p.ok.n1 p.ok.w1 inv.sum
          rw [← ht] at pk
          have m0 := (mem _).mpr ⟨i0, pk.lt, pk.rd, rfl⟩
          generalize hdl : dL ps.length (wF ps) (kF cs) t = dl at h5 mem m0
          have hne : dl ≠ [] := fun z => by rw [z] at m0; cases m0
          have hpos : 0 < dl.length := by cases dl; exact absurd rfl hne; simp
          have isMin : ∀ m, m ∈ dl → (∀ y, y ∈ dl → m ≤ y) → m = ((Fair.due ps.length (wF ps) (kF cs) i0 : Nat) : Int) := by
            intro m hm hmin
            obtain ⟨j, hj, hr, rfl⟩ := (mem m).mp hm
            have h1 := hmin _ m0
            have h2 := pk.least j hj hr
            omega
          refine ⟨_, rfl, Nat.zero_le _, fun Z hZ => ?_⟩
          have h6 := same_new (o := .lst []) hZ _ _ h5
          have hB6 := same_new (o := .lst []) hZ _ _ (s5 _ _ hB)
          have s6 := s3.trans (s5.trans (same_new (o := .lst []) hZ))
          have hZ6 : upd H5 Z (.lst []) Z = some (.lst []) := upd_same
          generalize upd H5 Z (.lst []) = H6 at h6 hB6 s6 hZ6 ⊢
          refine ⟨.list (dl.map .int), .list [], .lst (SqL.of h6) (dpIntsG dl), .lst (SqL.of hZ6) .nil, shaped_ints dl, shaped_ints [], _, rfl, ?_⟩
          rw [ne_nil_ints, decide_eq_true hne]
          refine iteT ⟨_, rfl, _, rfl, .inl ⟨rfl, _, SqL.of hB6⟩, _, rfl, D2, dl, rfl, SqL.of h6, hpos, fun m hm hmin => ?_⟩
          have em := isMin m hm hmin
          subst em
          refine ⟨BA, _, _, i0, bV ps.length (wF ps) (kF cs) t i0, rfl, rfl, SqL.of hB6, rfl, ?_, ?_, ?_, fun j z hj hz => ?_, ?_⟩
          · rw [List.all_eq_true]
            intro y hy
            obtain ⟨j, _, rfl⟩ := List.mem_map.mp hy
            exact flat_bV _ _ _ _ _
          · rw [List.getElem?_map, List.getElem?_range pk.lt]
            rfl
          · unfold bV
            rw [if_pos pk.rd]
            simp [eqV]
          · obtain ⟨hjn, rfl⟩ := bat hz
            unfold bV
            split
            · rename_i hr
              have h2 := pk.least j hjn hr
              simp only [eqV, beq_eq_false_iff_ne]
              omega
            · rfl
          refine ⟨rfl, _, rfl, ite2 (fun y => ?_) (fun y => ?_)⟩
          · have y := V.int.inj (of_decide_eq_true y)
            have ea : at_ = i0 := by omega
            refine ⟨_, rfl, D2, dl, rfl, SqL.of h6, hpos, fun m hm hmin => ?_⟩
            have em := isMin m hm hmin
            subst em
            have hd := inv.dueT p.ok.w1 p.ok.n1 pk.lt
            refine ⟨_, rfl, _, _, rfl, rfl, ?_⟩
            refine bl_t (show ((Fair.due ps.length (wF ps) (kF cs) i0 : Nat) : Int) ≥ (t : Int) by omega) (q true H6 s6 ⟨fun _ => by rw [ea]; exact pk, fun _ => rfl⟩)
          · have y : ¬ V.int (at_ : Int) = V.int (i0 : Int) := of_decide_eq_false (Bool.eq_false_iff.mpr y)
            refine q false H6 s6 ⟨fun z => (by cases z), fun pa => absurd ?_ y⟩
            rw [pa.uniq _ _ pk]
def spIsShare : Sp := fun vs H Q _ => ∃ a ts ps c cs, ∃ t : Nat, vs = [.ref a, .ref c, .int t] ∧ Pool a ts ps H ∧ H c = some (.lst (ctV cs)) ∧ cs.length = ps.length ∧ Fair.Inv ps.length (wF ps) (kF cs) t ∧ ∀ H', Same H H' → Q (.bl true) H'
set_option maxHeartbeats 1000000 in
theorem ok_isshare {f : Addr} {fd : FuncData} (F : Fn K mg "_law_is_share" s__law_is_share ["_law_pool_here", "_law_counts", "_law_t"] f fd) (B : Blt mg) : FnOk P w K mg base CX0 1 f fd ["_law_pool_here", "_law_counts", "_law_t"] spIsShare := by
  refine F.F.ok sc__law_is_share (fun vs H Q E h => ?_) (fun cdv A outer s H vs Q E hr h => ?_)
  · obtain ⟨a, ts, ps, c, cs, t, rfl, _⟩ := h
    rfl
  · obtain ⟨a, ts, ps, c, cs, t, rfl, p, hc, hl, inv, q⟩ := h
    refine ⟨_, (pss_cons (ps_set (i := 3) sc__law_is_share.nd rfl (.inl rfl) (pe_callB (cr_sum rfl) (by rfl) B.n_sum (by decide +kernel) (pa_cons (pe_lc (own := [("_law_label", 7), ("_law_weight", 6)]) rfl sc__law_is_share.nd (pi_tup (pv 0)) (blkOk_by (N := N__law_is_share) (sc := defScope s__law_is_share) (by decide +kernel)) (fun _ _ _ _ _ => pg_two (i := 7) (j := 6) K rfl sc__law_is_share.nd rfl rfl rfl rfl rfl) (fun _ _ _ _ _ => pts_nil) (fun _ _ _ _ _ => (pv 6))) pa_nil)))
      (pss_cons (ps_for PassesOwn.never rfl (pi_zipTL (by rfl) B.n_zip (pa_cons (pv 0) (pa_cons (pv 1) pa_nil))) (pg_tup rfl (pgs_cons (pg_name (i := 4) sc__law_is_share.nd rfl (Or.inl rfl)) (pgs_cons (pg_name (i := 5) sc__law_is_share.nd rfl (Or.inl rfl)) pgs_nil)))
      (pss_one (ps_if (pt_not (pt_chain op_le op_le (pe_op op_fdiv (pe_op op_mul (pv 2) (pe_ix ix_tup (pv 4) pe_int (fun _ _ => rfl))) (pv 3)) (pv 5) (pe_op op_fdiv (pe_op op_sub (pe_op op_add (pe_op op_mul (pv 2) (pe_ix ix_tup (pv 4) pe_int (fun _ _ => rfl))) (pv 3)) pe_int) (pv 3))))
        (pss_one (ps_ret pe_bl))
        pss_nil)))
      (pss_one (ps_ret pe_bl)))), ?_⟩
    have n8 := p.ok.n8
    have ln := p.it.1
    have W8 := tW_le p.ok
    have W1 := tW_pos p.ok
    refine ⟨_, rfl, a, rfl, ⟨_, SqT.of p.at_⟩, fun D hD => ?_⟩
    refine lc_sel (walk_tup (K := K) (a := a) (xs := ts.map V.ref)) (fun _ => true) (fun i => .int ((wF ps i : Nat) : Int)) (by rw [List.length_map]; omega) hD (fun H' s => SqT.of (s _ _ p.at_)) ?_ ?_
    · rintro j y H1 H2 k k0 hi s1 ⟨rfl, hy⟩ hk _
      obtain ⟨t, e, rfl, _, he, ht⟩ := (p.it.to s1).get hy
      have hk := hk rfl _ (Same.refl _)
      rw [wF_at he] at hk
      exact ⟨t, _, rfl, SqT.of ht, rfl, _, _, rfl, _, _, rfl, rfl, rfl, _, rfl, hk⟩
    · intro H1 s1 h1
      have e1 : (List.range (ts.map V.ref).length).map (fun i => V.int ((wF ps i : Nat) : Int)) = ((List.range ps.length).map fun i => ((wF ps i : Nat) : Int)).map V.int := by
        rw [List.length_map, ln, List.map_map]
        rfl
      rw [filt_all, e1] at h1
      refine ⟨D, _, rfl, SqL.of h1, ?_⟩
      rw [sum_range]
      refine ⟨_, rfl, _, rfl, a, c, _, _, rfl, SqT.of (s1 _ _ p.at_), SqL.of (s1 _ _ hc), ?_⟩
      refine for_it (walk_zipTL (K := K) (a := a) (b := c) (xs := ts.map V.ref) (ys := ctV cs) (by rw [List.length_map, ctV_len, hl, ln])) (fun j σ H' => ∃ (x4 x5 x6 x7 : Option V), σ = [some (.ref a), some (.ref c), some (.int t), some (.int (tW ps : Nat)), x4, x5, x6, x7] ∧ Same H H') ⟨_, _, _, _, rfl, s1⟩ (fun j σ H' _ z => ?_) ?_ ?_
      · obtain ⟨_, _, _, _, _, sm⟩ := z
        exact ⟨SqT.of (sm _ _ p.at_), SqL.of (sm _ _ hc)⟩
      · rintro j y σ H3 H4 hj ⟨x4, x5, x6, x7, rfl, s3⟩ ⟨T2, x, z, rfl, hT2, rfl, hx, hz⟩
        rw [List.length_map, ln] at hj
        have s4 := s3.trans (same_new (o := .tup [x, z]) hT2)
        have h4 : upd H3 T2 (.tup [x, z]) T2 = some (.tup [x, z]) := upd_same
        generalize upd H3 T2 (.tup [x, z]) = H4 at s4 h4 ⊢
        obtain ⟨tr, e, rfl, _, he, htr⟩ := (p.it.to s4).get hx
        have hw := p.ok.wt e (List.mem_of_getElem? he)
        obtain ⟨k, hk⟩ : ∃ k, cs[j]? = some k := ⟨cs[j]'(by omega), List.getElem?_eq_getElem (by omega)⟩
        have hz : (ctV cs)[j]? = some z := hz
        rw [ctV_at hk] at hz
        obtain rfl := Option.some.inj hz
        have lo := inv.low hj
        have up := inv.up j hj
        rw [kF_at hk, wF_at he] at lo up
        have lo : t * e.2 / tW ps ≤ k := lo
        have up : k ≤ (t * e.2 + tW ps - 1) / tW ps := up
        have hlo : (t : Int) * (e.2 : Nat) / ((tW ps : Nat) : Int) ≤ (k : Int) := by
          rw [← Int.natCast_mul, ← Int.natCast_ediv]
          omega
        have hm : ((t * e.2 : Nat) : Int) = (t : Int) * (e.2 : Nat) := Int.natCast_mul _ _
        have hup : (k : Int) ≤ ((t : Int) * (e.2 : Nat) + (tW ps : Nat) - 1) / ((tW ps : Nat) : Int) := by
          rw [← hm, show ((t * e.2 : Nat) : Int) + ((tW ps : Nat) : Int) - 1 = ((t * e.2 + tW ps - 1 : Nat) : Int) by omega, ← Int.natCast_ediv]
          omega
        refine ⟨T2, _, rfl, SqT.of h4, rfl, _, _, rfl, _, _, rfl, rfl, ?_⟩
        refine ⟨_, rfl, _, rfl, tr, _, _, _, rfl, rfl, SqT.of htr, atI_nat (j := 1) rfl, _, _, rfl, rfl, .inr ⟨by omega, by omega⟩, _, rfl, _, _, rfl, rfl, ⟨by omega, by omega⟩, _, rfl, _, _, rfl, rfl, _, rfl, ?_⟩
        refine iteB (decide_eq_true hlo) ⟨_, rfl, _, rfl, tr, _, _, _, rfl, rfl, SqT.of htr, atI_nat (j := 1) rfl, _, _, rfl, rfl, .inr ⟨by omega, by omega⟩, _, rfl, _, _, rfl, rfl, _, _, rfl, rfl, _, rfl, _, _, rfl, rfl, ⟨by omega, by omega⟩, _, _, rfl, rfl, _, rfl, ?_⟩
        refine iteC (by rw [Bool.not_eq_false']; exact decide_eq_true hup) ?_
        exact ⟨_, _, _, _, rfl, s4⟩
      · rintro σ H3 ⟨x4, x5, x6, x7, rfl, s3⟩
        exact q _ s3
end
end Ag

end
/-! ## Rep -/
section
set_option linter.all false
set_option maxRecDepth 100000
namespace Ag
open PySem PySem.Spec PyProof.Rows L2
open SX (S S_len S_cat S_inj)
theorem toStr (n : Nat) : (Str.ofString (toString ((n : Nat) : Int))) = S (numL n) := SX.num_S n
theorem log_small {n : Nat} (h : n < 2 ^ 200) : ((n : Nat) : Int).natAbs.log2 < 1920 := by
  rw [Int.natAbs_natCast]
  by_cases z : n = 0
  · subst z; decide
  · have h2 : n < 2 ^ 1920 := Nat.lt_of_lt_of_le h (Nat.pow_le_pow_right (by decide) (by decide))
    exact (Nat.log2_lt z).mpr h2
theorem hu66 {k : Nat} {A : Around} (hr : Room k A) : A.units + 66 < cLine := by have := hr.un; omega
def asc (l : List Nat) : Prop := ∀ c ∈ l, c < 128
/-! data whose texts are ascii, and whose ints are small -/
mutual
def okD : PyData → Bool
  | .none => true
  | .bool _ => true
  | .int i => decide (0 ≤ i) && decide (i ≤ 1000000000000000000)
  | .str x => x.cps.toList.all (· < 128)
  | .list xs => okAll xs
  | .tuple xs => okAll xs
  | .dict _ => false
def okAll : List PyData → Bool
  | [] => true
  | x :: xs => okD x && okAll xs
end
theorem shown_small {i : Int} (h0 : 0 ≤ i) (h1 : i ≤ 1000000000000000000) : (PyData.int i).shown.length ≤ 22 := by
  rw [PyData.shown_int]
  obtain ⟨n, rfl⟩ := Int.eq_ofNat_of_zero_le h0
  rw [toStr, S_len]
  have : (numL n).length ≤ 19 := TL.numL_len (by decide) (by omega)
  omega
mutual
theorem ok_all4 : ∀ d : PyData, okD d = true → d.showable = true ∧ d.hasDict = false ∧ d.canLay0 = true ∧ d.leavesShort 22 = true
  | .none, _ => by simp [PyData.showable, PyData.hasDict, PyData.canLay0, PyData.leavesShort]
  | .bool _, _ => by simp [PyData.showable, PyData.hasDict, PyData.canLay0, PyData.leavesShort]
  | .int i, h => by
    simp only [okD, Bool.and_eq_true, decide_eq_true_eq] at h
    obtain ⟨n, rfl⟩ := Int.eq_ofNat_of_zero_le h.1
    have hs := shown_small h.1 h.2
    have hl : ((n : Int)).natAbs.log2 < 1920 := log_small (Nat.lt_of_le_of_lt (show n ≤ 1000000000000000000 by omega) (by decide))
    simp only [PyData.showable, PyData.hasDict, PyData.canLay0, PyData.leavesShort, decide_eq_true_eq]
    exact ⟨hl, trivial, trivial, hs⟩
  | .str x, h => by
    simp only [okD, List.all_eq_true, decide_eq_true_eq] at h
    simp only [PyData.showable, PyData.hasDict, PyData.canLay0, PyData.leavesShort]
    refine ⟨trivial, trivial, ?_, ?_⟩
    · unfold PyData.strOk
      rw [← Array.all_toList, List.all_eq_true]
      intro c hc
      have := h c hc
      simp
      omega
    · rw [List.all_eq_true]
      intro c hc
      have := h c hc
      simp
      omega
  | .list xs, h => by
    have := ok_allA xs (by simpa only [okD] using h)
    simpa only [PyData.showable, PyData.hasDict, PyData.canLay0, PyData.leavesShort] using this
  | .tuple xs, h => by
    have := ok_allA xs (by simpa only [okD] using h)
    simpa only [PyData.showable, PyData.hasDict, PyData.canLay0, PyData.leavesShort] using this
  | .dict _, h => by simp [okD] at h
theorem ok_allA : ∀ xs : List PyData, okAll xs = true → PyData.showableAll xs = true ∧ PyData.hasDictAll xs = false ∧ PyData.canLayAll0 xs = true ∧ PyData.leavesShortAll 22 xs = true
  | [], _ => by simp [PyData.showableAll, PyData.hasDictAll, PyData.canLayAll0, PyData.leavesShortAll]
  | x :: xs, h => by
    simp only [okAll, Bool.and_eq_true] at h
    obtain ⟨a1, a2, a3, a4⟩ := ok_all4 x h.1
    obtain ⟨b1, b2, b3, b4⟩ := ok_allA xs h.2
    simp only [PyData.showableAll, PyData.hasDictAll, PyData.canLayAll0, PyData.leavesShortAll, a1, a2, a3, a4, b1, b2, b3, b4]
    exact ⟨rfl, rfl, rfl, rfl⟩
end
structure Fit (d : PyData) : Prop where
  ok : okD d = true
  dp : d.depth ≤ 60
  bk : d.bulk ≤ 500000
theorem Fit.shown {d : PyData} (f : Fit d) : d.showable = true ∧ d.hasDict = false ∧ d.depth ≤ 64 ∧ d.shown.length ≤ sizeLine := by
  obtain ⟨a1, a2, a3, a4⟩ := ok_all4 d f.ok
  refine ⟨a1, a2, by have := f.dp; omega, ?_⟩
  have := PyData.shown_le_bulk 22 (by decide) d a4
  have := f.bk
  rw [sizeLine_eq]
  omega
theorem Fit.shaped {d : PyData} (f : Fit d) : SeqAt.shaped d = true := by
  obtain ⟨a1, a2, a3, a4⟩ := ok_all4 d f.ok
  unfold SeqAt.shaped
  rw [a3, decide_eq_true (by have := f.dp; omega)]
  rfl
theorem Fit.refl {d : PyData} (f : Fit d) : PyData.eqv d d = true := SeqAt.eqv_refl d (ok_all4 d f.ok).2.2.1
theorem ok_str {l : List Nat} (h : asc l) : okD (.str (S l)) = true := by
  simp only [okD]
  rw [List.all_eq_true]
  intro c hc
  simpa using h c hc
/-- small data: how deep, how much -/
structure Sm (d : PyData) (n b : Nat) : Prop where
  ok : okD d = true
  dp : d.depth ≤ n
  bk : d.bulk ≤ b
structure SmA (ds : List PyData) (n b : Nat) : Prop where
  ok : okAll ds = true
  dp : PyData.depthAll ds ≤ n
  bk : PyData.bulkAll ds ≤ b
theorem Sm.fit {d : PyData} {n b : Nat} (h : Sm d n b) (hn : n ≤ 60) (hb : b ≤ 500000) : Fit d := ⟨h.ok, by have := h.dp; omega, by have := h.bk; omega⟩
theorem SmA.nil {n b : Nat} : SmA [] n b := ⟨by simp [okAll], by simp [PyData.depthAll], by simp [PyData.bulkAll]⟩
theorem SmA.cons {d : PyData} {ds : List PyData} {n b b1 b2 : Nat} (h : Sm d n b1) (k : SmA ds n b2) (hb : b1 + b2 + 2 ≤ b) : SmA (d :: ds) n b := by
  refine ⟨?_, ?_, ?_⟩
  · simp only [okAll, h.ok, k.ok]
    rfl
  · simp only [PyData.depthAll]
    have := h.dp
    have := k.dp
    omega
  · simp only [PyData.bulkAll]
    have := h.bk
    have := k.bk
    omega
theorem Sm.tup {ds : List PyData} {n b : Nat} (h : SmA ds n b) : Sm (.tuple ds) (n + 1) (b + 2) := by
  refine ⟨?_, ?_, ?_⟩
  · simp only [okD]
    exact h.ok
  · simp only [PyData.depth]
    have := h.dp
    omega
  · simp only [PyData.bulk]
    have := h.bk
    omega
theorem Sm.lst {ds : List PyData} {n b : Nat} (h : SmA ds n b) : Sm (.list ds) (n + 1) (b + 2) := by
  refine ⟨?_, ?_, ?_⟩
  · simp only [okD]
    exact h.ok
  · simp only [PyData.depth]
    have := h.dp
    omega
  · simp only [PyData.bulk]
    have := h.bk
    omega
theorem Sm.str {l : List Nat} {n b : Nat} (h : asc l) (hb : l.length + 2 ≤ b) : Sm (.str (S l)) n b := by
  refine ⟨ok_str h, by simp [PyData.depth], ?_⟩
  simp only [PyData.bulk]
  rw [show (S l).cps.size = l.length from List.size_toArray ..]
  omega
theorem Sm.int {k n b : Nat} (h : k ≤ 1000000000000000000) (hb : 2 ≤ b) : Sm (.int (k : Int)) n b := by
  refine ⟨?_, by simp [PyData.depth], ?_⟩
  · simp only [okD, Bool.and_eq_true, decide_eq_true_eq]
    omega
  · simp only [PyData.bulk]
    omega
theorem Sm.bool {c : Bool} {n b : Nat} (hb : 2 ≤ b) : Sm (.bool c) n b := by
  refine ⟨by simp [okD], by simp [PyData.depth], ?_⟩
  simp only [PyData.bulk]
  omega
theorem Sm.mono {d : PyData} {n m b c : Nat} (h : Sm d n b) (hn : n ≤ m) (hb : b ≤ c) : Sm d m c := ⟨h.ok, Nat.le_trans h.dp hn, Nat.le_trans h.bk hb⟩
end Ag

end
/-! ## T8 -/
section
set_option linter.all false
set_option maxRecDepth 100000
namespace Ag
open PySem PySem.Spec PyProof.Rows L2
theorem testE {t : TE} {σ : L2.St} {H : Hp} {Q : VK} (I : V → Hp → Prop) (h : ∀ Q' : VK, (∀ v H', I v H' → Q' v H') → t σ H Q') (k : ∀ v H', I v H' → Q v H') : t σ H Q := h Q k
theorem seqE {te : TE} {g : TG} {u : TS} {D : Ends} {σ : L2.St} {H : Hp} (I : V → Hp → Prop) (h : ∀ Q' : VK, (∀ v H', I v H' → Q' v H') → te σ H Q') (k : ∀ v H', I v H' → g v σ H' fun σ2 H2 => u D σ2 H2) : tSeq (tAsg te g) u D σ H := h _ k
abbrev ctD (cs : List Nat) : List PyData := cs.map fun k => PyData.int ((k : Nat) : Int)
theorem sm_ct : ∀ cs : List Nat, (∀ x ∈ cs, x ≤ 1000000000000000000) → SmA (ctD cs) 0 (4 * cs.length)
  | [], _ => .nil
  | x :: cs, h => by
    have k := sm_ct cs fun y hy => h y (List.mem_cons_of_mem _ hy)
    exact SmA.cons (b1 := 2) (.int (h x List.mem_cons_self) (by decide)) k (by rw [List.length_cons]; omega)
/-- what stands in the heap while the law goes through the turns -/
structure LF (p c a : Addr) (ts : List Addr) (ps : List (List Nat × Nat)) (TO : Addr) (given : List Nat) (C : Addr) (cs : List Nat) (AS : Addr) (as : List Nat) (H : Hp) : Prop where
  dk : Dk p c H
  P : Pool a ts ps H
  hT : H TO = some (.tup (ctV given))
  hC : H C = some (.lst (ctV cs))
  nC : C ≠ p ∧ C ≠ c
  hA : H AS = some (.lst (ctV as))
  nA : AS ≠ p ∧ AS ≠ c
  nCA : C ≠ AS
theorem LF.gx {p c a : Addr} {ts : List Addr} {ps : List (List Nat × Nat)} {TO : Addr} {given : List Nat} {C : Addr} {cs : List Nat} {AS : Addr} {as : List Nat} {H H' : Hp} (f : LF p c a ts ps TO given C cs AS as H) (g : Gx p c H H') : LF p c a ts ps TO given C cs AS as H' :=
  ⟨g.2, f.P.gx f.dk g, tup_gx f.dk g f.hT, g.1 _ _ f.nC.1 f.nC.2 f.hC, f.nC, g.1 _ _ f.nA.1 f.nA.2 f.hA, f.nA, f.nCA⟩
theorem LF.same {p c a : Addr} {ts : List Addr} {ps : List (List Nat × Nat)} {TO : Addr} {given : List Nat} {C : Addr} {cs : List Nat} {AS : Addr} {as : List Nat} {H H' : Hp} (f : LF p c a ts ps TO given C cs AS as H) (s : Same H H') : LF p c a ts ps TO given C cs AS as H' := f.gx (Gx.same f.dk s)
theorem LF.set {p c a : Addr} {ts : List Addr} {ps : List (List Nat × Nat)} {TO : Addr} {given : List Nat} {C : Addr} {cs cs' : List Nat} {AS : Addr} {as : List Nat} {H : Hp} (f : LF p c a ts ps TO given C cs AS as H) : LF p c a ts ps TO given C cs' AS as (upd H C (.lst (ctV cs'))) := by
  obtain ⟨m, t, cc, h1, h2, h3⟩ := f.dk
  refine ⟨⟨m, t, cc, by rw [upd_ne f.nC.1.symm]; exact h1, by rw [upd_ne f.nC.2.symm]; exact h2, h3⟩, ⟨tup_put f.P.at_ f.hC, f.P.it.put f.hC, f.P.ok⟩, tup_put f.hT f.hC, upd_same, f.nC, by rw [upd_ne f.nCA.symm]; exact f.hA, f.nA, f.nCA⟩
theorem nats_of {m : Nat} : ∀ xs : List V, (∀ (i : Nat) (y : V), xs[i]? = some y → ∃ d : Nat, y = .int (d : Int) ∧ d ≤ m) → ∃ as : List Nat, xs = ctV as ∧ ∀ x ∈ as, x ≤ m
  | [], _ => ⟨[], rfl, fun x h => by cases h⟩
  | y :: xs, h => by
    obtain ⟨d, rfl, hd⟩ := h 0 y rfl
    obtain ⟨as, rfl, ha⟩ := nats_of xs fun i z e => h (i + 1) z e
    exact ⟨d :: as, rfl, fun x hx => by
      rcases List.mem_cons.mp hx with rfl | hx
      · exact hd
      · exact ha x hx⟩
theorem csOf_le (n : Nat) (l : List Nat) : ∀ x ∈ csOf n l, x ≤ l.length := by
  intro x hx
  obtain ⟨j, _, rfl⟩ := List.mem_map.mp hx
  exact List.count_le_length
theorem fit_ct {cs : List Nat} {m : Nat} (h : ∀ x ∈ cs, x ≤ m) (hm : m ≤ 1000000) {b : Nat} (hb : 4 * cs.length + 2 ≤ b) : Sm (.tuple (ctD cs)) 1 b :=
  (Sm.tup (sm_ct cs fun x hx => Nat.le_trans (h x hx) (by omega))).mono (Nat.le_refl _) hb
theorem filt_one : ∀ n i : Nat, i < n → (List.range n).filter (fun j => decide (j = i)) = [i]
  | 0, _, h => by omega
  | n + 1, i, h => by
    rw [List.range_succ, List.filter_append]
    by_cases e : i = n
    · subst e
      have : (List.range i).filter (fun j => decide (j = i)) = [] := by
        rw [List.filter_eq_nil_iff]
        intro x hx
        have := List.mem_range.mp hx
        simp
        omega
      rw [this]
      simp
    · rw [filt_one n i (by omega)]
      have : ¬ n = i := fun z => e z.symm
      simp [this]
theorem flat_ct (cs : List Nat) : (ctV cs).all flatV = true := by
  rw [List.all_eq_true]
  intro y hy
  obtain ⟨z, _, rfl⟩ := List.mem_map.mp hy
  rfl
theorem Tn.pick {n : Nat} {w : Nat → Nat} {l : List Nat} (tn : Tn n w l) {t i : Nat} (h : l[t]? = some i) : Fair.Pick n w (kc (l.take t)) (t + 1) i := by
  have hlt : t < l.length := (List.getElem?_eq_some_iff.mp h).1
  have e : l.take (t + 1) = l.take t ++ [i] := by
    rw [List.take_add_one, h]
    rfl
  have h1 := tn.take (t + 1) hlt
  rw [e] at h1
  generalize hk : l.take t ++ [i] = k at h1
  cases h1 with
  | nil => simp at hk
  | @snoc k' i' t' p' =>
    obtain ⟨e1, e2⟩ := List.append_inj' hk rfl
    cases e2
    subst e1
    rw [List.length_take, Nat.min_eq_left (by omega)] at p'
    exact p'
section
variable {P : Program} {w : World} {K : PySem.W.Frag} {mg : Str → Option Value} {base : Heap} {tw tp tg tt : Tok}
def TurnI (a0 p c a : Addr) (ts : List Addr) (ps : List (List Nat × Nat)) (TO : Addr) (given : List Nat) (C AS : Addr) (as : List Nat) (go many : Nat) (j : Nat) (σ : L2.St) (H : Hp) : Prop := ∃ (x8 x9 x10 x11 x12 : Option V), σ = [some (.ref a0), some (.ref p), some (.int (0 + (go : Int))), some (.ref a), some (.int many), some (.ref TO), some (.ref C), some (.ref AS), x8, x9, x10, x11, x12] ∧ LF p c a ts ps TO given C (csOf ps.length (given.take j)) AS as H
def spLaw (K : PySem.W.Frag) : Sp := fun vs H Q _ => ∃ (a : Addr) (ns : List Int), vs = [.ref a] ∧ SqL K H a (ns.map V.int) ∧ ns.length ≤ 63 ∧ ∀ H', Q (.bl true) H'
def LawI (a0 p c : Addr) (j : Nat) (σ : L2.St) (H : Hp) : Prop := ∃ (x2 x3 x4 x5 x6 x7 x8 x9 x10 x11 x12 : Option V), σ = [some (.ref a0), some (.ref p), x2, x3, x4, x5, x6, x7, x8, x9, x10, x11, x12] ∧ Dk p c H
set_option maxHeartbeats 4000000 in
theorem ok_law {f f1 f2 f3 f4 f5 f6 f7 f8 f9 fa : Addr} {fd fd1 fd2 fd3 fd4 fd5 fd6 fd7 fd8 fd9 fda : FuncData} (F : Fn K mg "law" s_law ["_law_script"] f fd) (B : Con mg tw tp tg tt)
    (F__law_dealt : Fn K mg "_law_dealt" s__law_dealt ["_law_script"] f1 fd1) (G__law_dealt : FnOk P w K mg base CX0 1 f1 fd1 ["_law_script"] (spDeck K))
    (F__law_draw : Fn K mg "_law_draw" s__law_draw ["_law_deck", "_law_many"] f2 fd2) (G__law_draw : FnOk P w K mg base CX0 1 f2 fd2 ["_law_deck", "_law_many"] spDraw)
    (F__law_pick : Fn K mg "_law_pick" s__law_pick ["_law_deck", "_law_some"] f3 fd3) (G__law_pick : FnOk P w K mg base CX0 2 f3 fd3 ["_law_deck", "_law_some"] spPick)
    (F__law_pool : Fn K mg "_law_pool" s__law_pool ["_law_deck"] f4 fd4) (G__law_pool : FnOk P w K mg base CX0 3 f4 fd4 ["_law_deck"] spMkPool)
    (F_turns : Fn K mg "turns" s_turns ["pool", "t"] f5 fd5) (G_turns : FnOk P w K mg base CX0 4 f5 fd5 ["pool", "t"] spTurns) (K_turns_t_pool : KwB K fd5 ["pool", "t"] ["t", "pool"] List.reverse List.reverse)
    (F__law_is_whole : Fn K mg "_law_is_whole" s__law_is_whole ["_law_thing", "_law_low", "_law_high"] f6 fd6) (G__law_is_whole : FnOk P w K mg base CX0 1 f6 fd6 ["_law_thing", "_law_low", "_law_high"] spWhole)
    (F__law_is_next : Fn K mg "_law_is_next" s__law_is_next ["_law_pool_here", "_law_counts", "_law_t", "_law_at"] f7 fd7) (G__law_is_next : FnOk P w K mg base CX0 1 f7 fd7 ["_law_pool_here", "_law_counts", "_law_t", "_law_at"] spIsNext)
    (F__law_is_share : Fn K mg "_law_is_share" s__law_is_share ["_law_pool_here", "_law_counts", "_law_t"] f8 fd8) (G__law_is_share : FnOk P w K mg base CX0 1 f8 fd8 ["_law_pool_here", "_law_counts", "_law_t"] spIsShare)
    (F_next_turn : Fn K mg "next_turn" s_next_turn ["pool", "counts"] f9 fd9) (G_next_turn : FnOk P w K mg base CX0 6 f9 fd9 ["pool", "counts"] spNext)
    (F_counts_after : Fn K mg "counts_after" s_counts_after ["pool", "t"] fa fda) (G_counts_after : FnOk P w K mg base CX0 5 fa fda ["pool", "t"] spFrom) (K_counts_after_t_pool : KwB K fda ["pool", "t"] ["t", "pool"] List.reverse List.reverse) :
    FnG P w K mg base 7 f fd ["_law_script"] (spLaw K) := by
  refine okG F.F sc_law (fun vs H Q E h => ?_) (fun cdv A outer s0 H vs Q E hr hG h => ?_)
  · obtain ⟨a, ns, rfl, _⟩ := h
    rfl
  · obtain ⟨a0, ns, rfl, hsc, hn, q⟩ := h
    refine ⟨_, (pss_cons (ps_set (i := 1) sc_law.nd rfl (.inr rfl) (pe_call G__law_dealt (hr.mono (by decide)) (by rfl) F__law_dealt.g F__law_dealt.F.kp F__law_dealt.b .nil pass0 (pa_cons (pv 0) pa_nil)))
      (pss_cons (ps_for PassesOwn.never rfl (pi_range1 (by rfl) B.n_range (pa_cons pe_int pa_nil)) (pg_name (i := 2) sc_law.nd rfl (Or.inl rfl))
      (pss_cons (ps_asg (pe_tup (pa_cons (pe_call G__law_pool (hr.mono (by decide)) (by rfl) F__law_pool.g F__law_pool.F.kp F__law_pool.b .nil pass0 (pa_cons (pv 1) pa_nil)) (pa_cons (pe_call G__law_pick (hr.mono (by decide)) (by rfl) F__law_pick.g F__law_pick.F.kp F__law_pick.b .nil pass0 (pa_cons (pv 1) (pa_cons (pe_lst (pa_cons pe_int (pa_cons pe_int (pa_cons pe_int (pa_cons pe_int (pa_cons pe_int (pa_cons pe_int pa_nil))))))) pa_nil))) pa_nil))) (pg_tup rfl (pgs_cons (pg_name (i := 3) sc_law.nd rfl (Or.inr rfl)) (pgs_cons (pg_name (i := 4) sc_law.nd rfl (Or.inr rfl)) pgs_nil))))
        (C8.pss_cut (ps_if (PW.pt (pw_and (pt_cmpR op_eq (pv 2) pe_int (nomark _)) (pw_and1 (pt_cmpR op_eq (pe_call G__law_draw (hr.mono (by decide)) (by rfl) F__law_draw.g F__law_draw.F.kp F__law_draw.b .nil pass0 (pa_cons (pv 1) (pa_cons pe_int pa_nil))) pe_int (nomark _)))))
        (pss_one (ps_set (i := 4) sc_law.nd rfl (.inr rfl) (pe_call G__law_pick (hr.mono (by decide)) (by rfl) F__law_pick.g F__law_pick.F.kp F__law_pick.b .nil pass0 (pa_cons (pv 1) (pa_cons (pe_lst (pa_cons pe_int (pa_cons pe_int (pa_cons pe_int (pa_cons pe_int pa_nil))))) pa_nil)))))
        pss_nil)
        (pss_cons (ps_set (i := 5) sc_law.nd rfl (.inl rfl) (pe_ifExp (pt_cmpR op_eq (pv 2) pe_int (nomark _)) (pe_call G_turns (hr.mono (by decide)) (by rfl) F_turns.g F_turns.F.kp F_turns.b .nil pass0 (pa_cons (pv 3) (pa_cons (pv 4) pa_nil))) (pe_callKwG (FnG.of G_turns) (hr.mono (by decide)) hG (by rfl) F_turns.g F_turns.F.kp K_turns_t_pool (pk_cons (pv 4) (pk_cons (pv 3) pk_nil)))))
        (pss_cons (ps_if (PW.pt (pw_or (pt_not (pt_val (pe_callB call_isi (by rfl) B.n_isinstance (by decide +kernel) (pa_cons (pv 5) (pa_cons (pe_bltn (v := .ty "tuple") (by rfl) B.n_tuple (by decide +kernel) rfl) pa_nil))))) (pw_or1 (pt_cmpR op_ne (pe_callB call_len_seq (by rfl) B.n_len PySem.boot_len (pa_cons (pv 5) pa_nil)) (pv 4) (nomark _)))))
        (pss_one (ps_ret pe_bl))
        pss_nil)
        (pss_cons (ps_asg (pe_tup (pa_cons (pe_op op_rep (pe_lst (pa_cons pe_int pa_nil)) (pe_callB call_len_seq (by rfl) B.n_len PySem.boot_len (pa_cons (pv 3) pa_nil))) (pa_cons (pe_lc (own := [("_law_turn", 12)]) rfl sc_law.nd (pi_range1 (by rfl) B.n_range (pa_cons pe_int pa_nil)) (blkOk_by (N := N_law) (sc := defScope s_law) (by decide +kernel)) (fun _ _ _ _ _ => (pg_name (i := 12) sc_law.nd rfl (Or.inl rfl))) (fun _ _ _ _ _ => pts_nil) (fun _ _ _ _ _ => (pe_call G__law_draw (hr.mono (by decide)) (by rfl) F__law_draw.g F__law_draw.F.kp F__law_draw.b .nil pass0 (pa_cons (pv 1) (pa_cons (pe_op op_add (pv 4) pe_int) pa_nil))))) pa_nil))) (pg_tup rfl (pgs_cons (pg_name (i := 6) sc_law.nd rfl (Or.inr rfl)) (pgs_cons (pg_name (i := 7) sc_law.nd rfl (Or.inl rfl)) pgs_nil))))
        (pss_cons (ps_for PassesOwn.never rfl (pi_enumT (by rfl) B.n_enumerate (pa_cons (pv 5) pa_nil)) (pg_tup rfl (pgs_cons (pg_name (i := 8) sc_law.nd rfl (Or.inl rfl)) (pgs_cons (pg_name (i := 9) sc_law.nd rfl (Or.inl rfl)) pgs_nil)))
        (pss_cons (ps_if (PW.pt (pw_or (pt_not (pt_val (pe_call G__law_is_whole (hr.mono (by decide)) (by rfl) F__law_is_whole.g F__law_is_whole.F.kp F__law_is_whole.b .nil pass0 (pa_cons (pv 9) (pa_cons pe_int (pa_cons (pe_op op_sub (pe_callB call_len_seq (by rfl) B.n_len PySem.boot_len (pa_cons (pv 3) pa_nil)) pe_int) pa_nil)))))) (pw_or1 (pt_not (pt_val (pe_call G__law_is_next (hr.mono (by decide)) (by rfl) F__law_is_next.g F__law_is_next.F.kp F__law_is_next.b .nil pass0 (pa_cons (pv 3) (pa_cons (pv 6) (pa_cons (pe_op op_add (pv 8) pe_int) (pa_cons (pv 9) pa_nil))))))))))
          (pss_one (ps_ret pe_bl))
          pss_nil)
          (C8.pss_cut (ps_if (pt_cmpR op_in_seq (pv 8) (pv 7) rfl)
          (pss_cons (ps_set (i := 10) sc_law.nd rfl (.inl rfl) (pe_callTy call_tuple_of (by rfl) B.n_tuple (by decide +kernel) (pa_cons (pv 6) pa_nil)))
            (pss_one (ps_if (pt_cmpR op_ne (pe_callB (call_repr_data (hu66 hr) hG) (by rfl) B.n_repr (by decide +kernel) (pa_cons (pe_tup (pa_cons (pe_call G_next_turn (hr.mono (by decide)) (by rfl) F_next_turn.g F_next_turn.F.kp F_next_turn.b .nil pass0 (pa_cons (pv 3) (pa_cons (pv 10) pa_nil))) (pa_cons (pe_call G_counts_after (hr.mono (by decide)) (by rfl) F_counts_after.g F_counts_after.F.kp F_counts_after.b .nil pass0 (pa_cons (pv 3) (pa_cons (pv 8) pa_nil))) pa_nil))) pa_nil)) (pe_callB (call_repr_data (hu66 hr) hG) (by rfl) B.n_repr (by decide +kernel) (pa_cons (pe_tup (pa_cons (pv 9) (pa_cons (pv 10) pa_nil))) pa_nil)) (nomark _))
            (pss_one (ps_ret pe_bl))
            pss_nil)))
          pss_nil)
          (pss_cons (ps_asg (pe_op op_add (pe_ix ix_list (pv 6) (pv 9) (fun _ _ => rfl)) pe_int) (pg_sub (pv 6) (pv 9) set_list))
          (pss_one (ps_if (pt_not (pt_val (pe_call G__law_is_share (hr.mono (by decide)) (by rfl) F__law_is_share.g F__law_is_share.F.kp F__law_is_share.b .nil pass0 (pa_cons (pv 3) (pa_cons (pv 6) (pa_cons (pe_op op_add (pv 8) pe_int) pa_nil))))))
          (pss_one (ps_ret pe_bl))
          pss_nil))))))
        (pss_cons (ps_setLc (i := 11) (own := [("_law_at", 9)]) rfl sc_law.nd rfl rfl (sw_true rfl rfl rfl (by decide +kernel)) (pi_range1 (by rfl) B.n_range (pa_cons (pe_callB call_len_seq (by rfl) B.n_len PySem.boot_len (pa_cons (pv 3) pa_nil)) pa_nil)) (blkOk_by (N := N_law) (sc := defScope s_law) (by decide +kernel)) (fun _ _ _ _ _ => (pg_name (i := 9) sc_law.nd rfl (Or.inl rfl))) (fun _ _ _ _ _ => (pts_one (pt_val (pe_call G__law_is_next (hr.mono (by decide)) (by rfl) F__law_is_next.g F__law_is_next.F.kp F__law_is_next.b .nil pass0 (pa_cons (pv 3) (pa_cons (pv 6) (pa_cons (pe_op op_add (pv 4) pe_int) (pa_cons (pv 9) pa_nil)))))))) (fun _ _ _ _ _ => (pv 9)))
        (pss_cons (ps_if (pt_cmpR op_ne (pe_callB (call_repr_data (hu66 hr) hG) (by rfl) B.n_repr (by decide +kernel) (pa_cons (pe_lst (pa_cons (pe_call G_next_turn (hr.mono (by decide)) (by rfl) F_next_turn.g F_next_turn.F.kp F_next_turn.b .nil pass0 (pa_cons (pv 3) (pa_cons (pe_callTy call_tuple_of (by rfl) B.n_tuple (by decide +kernel) (pa_cons (pv 6) pa_nil)) pa_nil))) pa_nil)) pa_nil)) (pe_callB (call_repr_data (hu66 hr) hG) (by rfl) B.n_repr (by decide +kernel) (pa_cons (pv 11) pa_nil)) (nomark _))
        (pss_one (ps_ret pe_bl))
        pss_nil)
        (pss_one (ps_if (PW.pt (pw_or (pt_cmpR op_ne (pe_callB (call_repr_data (hu66 hr) hG) (by rfl) B.n_repr (by decide +kernel) (pa_cons (pe_callKwG (FnG.of G_counts_after) (hr.mono (by decide)) hG (by rfl) F_counts_after.g F_counts_after.F.kp K_counts_after_t_pool (pk_cons (pv 4) (pk_cons (pv 3) pk_nil))) pa_nil)) (pe_callB (call_repr_data (hu66 hr) hG) (by rfl) B.n_repr (by decide +kernel) (pa_cons (pe_callTy call_tuple_of (by rfl) B.n_tuple (by decide +kernel) (pa_cons (pv 6) pa_nil)) pa_nil)) (nomark _)) (pw_or1 (pt_cmpR op_ne (pe_callB (call_repr_data (hu66 hr) hG) (by rfl) B.n_repr (by decide +kernel) (pa_cons (pe_call G_turns (hr.mono (by decide)) (by rfl) F_turns.g F_turns.F.kp F_turns.b .nil pass0 (pa_cons (pv 3) (pa_cons (pe_ix ix_list (pv 7) pe_int (fun _ _ => rfl)) pa_nil))) pa_nil)) (pe_callB (call_repr_data (hu66 hr) hG) (by rfl) B.n_repr (by decide +kernel) (pa_cons (pe_slice sl_tupA (pv 5) po_none (po_some (pe_ix ix_list (pv 7) pe_int (fun _ _ => rfl)))) pa_nil)) (nomark _)))))
        (pss_one (ps_ret pe_bl))
        pss_nil)))))))))))
      (pss_one (ps_ret pe_bl)))), ?_⟩
    refine ⟨_, rfl, a0, ns, rfl, hsc, hn, fun p c H1 hp hc sm1 dk => ?_⟩
    refine ⟨2, rfl, by decide, by decide, for_range (lo := 0) (n := (2 : Int).toNat) (LawI a0 p c) ⟨_, _, _, _, _, _, _, _, _, _, _, rfl, dk⟩ ?_ ?_⟩
    · rintro go σ Ha hgo ⟨x2, x3, x4, x5, x6, x7, x8, x9, x10, x11, x12, rfl, da⟩
      refine ⟨_, rfl, p, c, rfl, da, fun a ts ps Hb gb Pb => ?_⟩
      refine ⟨_, rfl, sz (by show 6 ≤ 16000000; decide), fun Z hZ => ⟨p, c, .ref Z, rfl, gb.2.same (same_new hZ), .inl ⟨Z, _, rfl, At.new gb.2 hZ, (by show 1 ≤ 6; decide), (by show 6 ≤ 100000; decide), fun z x Hc hx gc => ?_⟩⟩⟩
      have Pc := (Pb.to (same_new hZ)).gx (gb.2.same (same_new hZ)) gc
      obtain ⟨many0, m0, rfl⟩ : ∃ n : Nat, n ≤ 2000 ∧ x = .int (n : Int) := by
        match z, hx with
        | 0, hx => exact ⟨60, by decide, (Option.some.inj hx).symm⟩
        | 1, hx => exact ⟨12, by decide, (Option.some.inj hx).symm⟩
        | 2, hx => exact ⟨30, by decide, (Option.some.inj hx).symm⟩
        | 3, hx => exact ⟨120, by decide, (Option.some.inj hx).symm⟩
        | 4, hx => exact ⟨0, by decide, (Option.some.inj hx).symm⟩
        | 5, hx => exact ⟨1, by decide, (Option.some.inj hx).symm⟩
        | z + 6, hx => cases hx
      clear hx
      refine ⟨sz (by show 2 ≤ 16000000; decide), fun T hT => ⟨T, _, rfl, SqT.of upd_same, rfl, _, _, rfl, _, _, rfl, rfl, ?_⟩⟩
      have dd := gc.2.same (same_new (o := .tup [.ref a, .int many0]) hT)
      have Pd := Pc.to (same_new (o := .tup [.ref a, .int many0]) hT)
      generalize upd Hc T (.tup [.ref a, .int many0]) = Hd at dd Pd ⊢
      -- how many turns
      refine ⟨fun σ H' => ∃ many : Nat, many ≤ 2000 ∧ σ = [some (.ref a0), some (.ref p), some (.int (0 + (go : Int))), some (.ref a), some (.int many), x5, x6, x7, x8, x9, x10, x11, x12] ∧ Dk p c H' ∧ Pool a ts ps H', ?_, ?_⟩
      · have plain : ∃ many : Nat, many ≤ 2000 ∧ [some (V.ref a0), some (.ref p), some (.int (0 + (go : Int))), some (.ref a), some (.int many0), x5, x6, x7, x8, x9, x10, x11, x12] = [some (.ref a0), some (.ref p), some (.int (0 + (go : Int))), some (.ref a), some (.int many), x5, x6, x7, x8, x9, x10, x11, x12] ∧ Dk p c Hd ∧ Pool a ts ps Hd := ⟨many0, m0, rfl, dd, Pd⟩
        refine ⟨_, rfl, rfl, _, rfl, ite2 (fun _ => ⟨_, rfl, p, c, 8, rfl, dd, by decide, by decide, fun r1 He hr1 ge => ⟨rfl, _, rfl, ite2 (fun _ => ?_) (fun _ => ⟨many0, m0, rfl, ge.2, Pd.gx dd ge⟩)⟩⟩) (fun _ => plain)⟩
        have Pe := Pd.gx dd ge
        refine ⟨_, rfl, sz (by show 4 ≤ 16000000; decide), fun Z hZ => ⟨p, c, .ref Z, rfl, ge.2.same (same_new hZ), .inl ⟨Z, _, rfl, At.new ge.2 hZ, (by show 1 ≤ 4; decide), (by show 4 ≤ 100000; decide), fun z x Hf hx gf => ?_⟩⟩⟩
        have Pf := (Pe.to (same_new hZ)).gx (ge.2.same (same_new hZ)) gf
        match z, hx with
        | 0, hx => obtain rfl := (Option.some.inj hx).symm; exact ⟨2000, by decide, rfl, gf.2, Pf⟩
        | 1, hx => obtain rfl := (Option.some.inj hx).symm; exact ⟨1999, by decide, rfl, gf.2, Pf⟩
        | 2, hx => obtain rfl := (Option.some.inj hx).symm; exact ⟨1001, by decide, rfl, gf.2, Pf⟩
        | 3, hx => obtain rfl := (Option.some.inj hx).symm; exact ⟨201, by decide, rfl, gf.2, Pf⟩
        | z + 4, hx => cases hx
      rintro σ He ⟨many, hm, rfl, de, Pe⟩
      clear Pd Pc Pb dd
      refine seqE (fun v H' => ∃ TO given, v = .ref TO ∧ Same He H' ∧ H' TO = some (.tup (ctV given)) ∧ Tn ps.length (wF ps) given ∧ given.length = many) (fun Q' hQ' => ?_) ?_
      · refine ⟨_, rfl, rfl, _, rfl, ite2 (fun _ => ?_) (fun _ => ?_)⟩
        · exact ⟨_, rfl, _, rfl, a, ts, ps, many, rfl, Pe, hm, fun TO given H' s1 h1 h2 h3 => hQ' _ _ ⟨TO, given, rfl, s1, h1, h2, h3⟩⟩
        · exact ⟨_, rfl, _, rfl, rfl, a, ts, ps, many, rfl, Pe, hm, fun TO given H' s1 h1 h2 h3 => hQ' _ _ ⟨TO, given, rfl, s1, h1, h2, h3⟩⟩
      rintro _ Hf ⟨TO, given, rfl, sf, hTO, tn, hlen⟩
      have df := de.same sf
      have Pf := Pe.to sf
      clear de Pe
      refine ⟨_, rfl, .ref TO, .ty "tuple", _, _, true, rfl, .ty "tuple", .base (.tup hTO), kit_ty (by decide +kernel), _, rfl, iteF ?_⟩
      refine ⟨_, rfl, TO, _, rfl, .inr (SqT.of hTO), _, rfl, rfl, _, rfl, ?_⟩
      rw [decide_eq_true (by rw [ctV_len, hlen])]
      refine iteF ?_
      have n8 := Pf.ok.n8
      have ln := Pf.it.1
      -- the counts
      refine ⟨sz (by show 1 ≤ 16000000; decide), fun Z hZ => ?_⟩
      have sg := same_new (o := .lst [.int 0]) hZ
      have hZg : upd Hf Z (.lst [.int 0]) Z = some (.lst [.int 0]) := upd_same
      have dg := df.same sg
      have Pg := Pf.to sg
      have hTg := sg _ _ hTO
      clear df Pf hTO sf
      generalize upd Hf Z (.lst [.int 0]) = Hg at dg Pg hTg hZg ⊢
      refine ⟨_, rfl, a, _, rfl, .inr (SqT.of Pg.at_), Z, _, _, rfl, rfl, hZg, by rw [List.length_map]; omega, by rw [List.length_map]; omega, ?_, fun C hC => ?_⟩
      · rw [List.length_map, sizeLine_eq]
        simp
        omega
      rw [List.length_map, ln, show ((ps.length : Nat) : Int).toNat = ps.length by simp, rep0]
      have nC := dg.ne hC
      have sh := same_new (o := .lst (ctV (csOf ps.length []))) hC
      have hCh : upd Hg C (.lst (ctV (csOf ps.length []))) C = some (.lst (ctV (csOf ps.length []))) := upd_same
      have dh := dg.same sh
      have Ph := Pg.to sh
      have hTh := sh _ _ hTg
      clear dg Pg hTg hZg
      generalize upd Hg C (.lst (ctV (csOf ps.length []))) = Hh at dh Ph hTh hCh ⊢
      refine ⟨4, rfl, by decide, by decide, fun D hD => ?_⟩
      have nD := dh.ne hD
      have nCD : C ≠ D := ne_of_none hCh hD
      refine lc_all (walk_range (lo := 0) (n := (4 : Int).toNat)) (fun H' => Gx p c Hh H') (fun _ y => ∃ d : Nat, y = .int (d : Int) ∧ d ≤ many) (by decide) (Gx.refl dh) (fun H' o r => r.put dh hD nD) (fun _ _ => trivial) ?_ ?_
      · rintro i x H4 H5 xs k hi r hxs ⟨rfl, hx⟩ hk
        refine ⟨rfl, _, rfl, _, rfl, _, _, rfl, rfl, p, c, _, rfl, r.2, by omega, by omega, fun d H6 hd g6 => ?_⟩
        exact hk _ _ ⟨d, rfl, by omega⟩ (r.trans g6) (g6.1 _ _ nD.1 nD.2 hxs)
      rintro Hi xs hxl hv gi hDi
      obtain ⟨as, rfl, has⟩ := nats_of xs hv
      have LFi : LF p c a ts ps TO given C (csOf ps.length (given.take 0)) D as Hi := ⟨gi.2, Ph.gx dh gi, tup_gx dh gi hTh, by rw [List.take_zero]; exact gi.1 _ _ nC.1 nC.2 hCh, nC, hDi, nD, nCD⟩
      clear dh Ph hTh hCh
      have asl : as.length = 4 := by rw [← ctV_len]; exact hxl
      refine ⟨sz (by show 2 ≤ 16000000; decide), fun T hT => ⟨T, _, rfl, SqT.of upd_same, rfl, _, _, rfl, _, _, rfl, rfl, ?_⟩⟩
      have LFj := LFi.same (same_new (o := .tup [.ref C, .ref D]) hT)
      clear LFi
      generalize upd Hi T (.tup [.ref C, .ref D]) = Hj at LFj ⊢
      -- the turns
      refine ⟨_, rfl, TO, _, rfl, SqT.of LFj.hT, ?_⟩
      refine for_it (walk_enumT (K := K) (a := TO) (xs := ctV given)) (TurnI a0 p c a ts ps TO given C D as go many) ⟨_, _, _, _, _, rfl, LFj⟩ (fun j σ H' _ z => ?_) ?_ ?_
      · obtain ⟨_, _, _, _, _, _, fz⟩ := z
        exact SqT.of fz.hT
      · rintro t y σ H3 H4 ht ⟨y8, y9, y10, y11, y12, rfl, f3⟩ ⟨T2, x, rfl, hT2, rfl, hx⟩
        rw [ctV_len] at ht
        have f4 := f3.same (same_new (o := .tup [.int (t : Nat), x]) hT2)
        have h4 : upd H3 T2 (.tup [.int (t : Nat), x]) T2 = some (.tup [.int (t : Nat), x]) := upd_same
        clear f3
        generalize upd H3 T2 (.tup [.int (t : Nat), x]) = H4 at f4 h4 ⊢
        obtain ⟨i, hi⟩ : ∃ i, given[t]? = some i := ⟨given[t], List.getElem?_eq_getElem ht⟩
        rw [ctV_at hi] at hx
        obtain rfl := Option.some.inj hx
        have tnt := tn.take t (by omega)
        have lt_ : (given.take t).length = t := by rw [List.length_take]; omega
        have pk := tn.pick hi
        have hin := pk.lt
        have kf := kF_csOf tnt
        have sm : (csOf ps.length (given.take t)).sum = t := by rw [csOf_sum f4.P.ok.n1 f4.P.ok.w1 tnt, lt_]
        have run : Fair.Run ps.length (wF ps) (kF (csOf ps.length (given.take t))) (csOf ps.length (given.take t)).sum := by
          rw [kf, sm]
          have := tnt.run
          rw [lt_] at this
          exact this
        have inv := run.inv f4.P.ok.n1 f4.P.ok.w1
        refine ⟨T2, _, rfl, SqT.of h4, rfl, _, _, rfl, _, _, rfl, rfl, ?_⟩
        refine ⟨_, rfl, _, rfl, a, _, rfl, .inr (SqT.of f4.P.at_), _, _, rfl, rfl, i, 0, _, rfl, by omega, by rw [List.length_map]; omega, _, rfl, iteF ?_⟩
        refine ⟨_, rfl, _, rfl, _, rfl, _, _, rfl, rfl, _, rfl, a, ts, ps, C, csOf ps.length (given.take t), t + 1, i, rfl, f4.P, f4.hC, csOf_len _ _, inv, by rw [sm], fun b H5 s5 hb => ?_⟩
        have eb : b = true := hb.mpr (by rw [kf]; exact pk)
        subst eb
        have f5 := f4.same s5
        refine ⟨_, rfl, iteF ?_⟩
        clear f4
        have csl := csOf_len ps.length (given.take t)
        have csle := csOf_le ps.length (given.take t)
        rw [lt_] at csle
        generalize hcs : csOf ps.length (given.take t) = cs at f5 kf sm run inv csl csle
        -- what is asked now and then
        refine ⟨fun σ H' => ∃ z10 : Option V, σ = [some (.ref a0), some (.ref p), some (.int (0 + (go : Int))), some (.ref a), some (.int many), some (.ref TO), some (.ref C), some (.ref D), some (.int t), some (.int i), z10, y11, y12] ∧ LF p c a ts ps TO given C cs D as H', ?_, ?_⟩
        · refine ⟨_, rfl, _, rfl, D, _, rfl, .inl (SqL.of f5.hA), rfl, flat_ct as, _, rfl, ite2 (fun _ => ?_) (fun _ => ⟨_, rfl, f5⟩)⟩
          refine ⟨_, rfl, C, _, rfl, .inl ⟨SqL.of f5.hC, fun S hS => ?_⟩⟩
          have f6 := f5.same (same_new (o := .tup (ctV cs)) hS)
          have hS6 : upd H5 S (.tup (ctV cs)) S = some (.tup (ctV cs)) := upd_same
          generalize upd H5 S (.tup (ctV cs)) = H6 at f6 hS6 ⊢
          refine ⟨_, rfl, _, rfl, a, ts, ps, S, cs, rfl, f6.P, hS6, csl, run, fun i' H7 s7 pk' => ?_⟩
          have ei : i' = i := by
            rw [sm, kf] at pk'
            exact pk'.uniq _ _ pk
          subst ei
          have f7 := f6.same s7
          refine ⟨_, rfl, _, rfl, a, ts, ps, t, rfl, f7.P, fun tk ks H8 s8 hk1 hk2 hk3 => ?_⟩
          have ek : ks = cs := kF_ext (hk2.trans csl.symm) (hk3.uniq (by rw [sm] at run; exact run))
          subst ek
          have f8 := f7.same s8
          refine ⟨sz (by show 2 ≤ 16000000; decide), fun T5 hT5 => ?_⟩
          have s9 := same_new (o := .tup [.int i', .ref tk]) hT5
          have f9 := f8.same s9
          have h9 : upd H8 T5 (.tup [.int i', .ref tk]) T5 = some (.tup [.int i', .ref tk]) := upd_same
          have hk9 := s9 _ _ hk1
          have hS9 := s9 _ _ (s8 _ _ (s7 _ _ hS6))
          generalize upd H8 T5 (.tup [.int i', .ref tk]) = H9 at f9 h9 hk9 hS9 ⊢
          have FD : Sm (.tuple [.int (i' : Nat), .tuple (ctD ks)]) 2 200 := (Sm.tup (b := 198) (.cons (b1 := 2) (b2 := 100) (.int (by omega) (by decide)) (.cons (b1 := 60) (b2 := 0) (fit_ct csle (by omega) (by omega)) .nil (by decide)) (by decide)))
          obtain ⟨z1, z2, z3, z4⟩ := (FD.fit (by decide) (by decide)).shown
          refine ⟨.ref T5, _, rfl, .tup (SqT.of h9) (.cons (.int _) (.cons (.tup (SqT.of hk9) (dp_ct ks)) .nil)), z1, z2, z3, z4, _, rfl, _, rfl, sz (by show 2 ≤ 16000000; decide), fun T6 hT6 => ?_⟩
          have f10 := f9.same (same_new (o := .tup [.int i', .ref S]) hT6)
          refine ⟨.ref T6, .tuple [.int (i' : Nat), .tuple (ctD ks)], rfl, .tup (SqT.of (xs := [.int i', .ref S]) upd_same) (.cons (.int _) (.cons (.tup (SqT.of (same_new hT6 _ _ hS9)) (dp_ct ks)) .nil)), z1, z2, z3, z4, rfl, _, rfl, ?_⟩
          rw [decide_eq_true rfl]
          exact iteF ⟨_, rfl, f10⟩
        rintro σ H6 ⟨z10, rfl, f6⟩
        -- one turn more
        have hci : cs[i]? = some ((given.take t).count i) := by
          rw [← hcs]
          exact csOf_at hin
        refine ⟨_, rfl, _, rfl, C, _, _, _, rfl, rfl, SqL.of f6.hC, atI_nat (ctV_at hci), _, _, rfl, rfl, _, rfl, _, rfl, C, _, _, i, rfl, rfl, f6.hC, ixN_nat (by rw [ctV_len, csl]; exact hin), ?_⟩
        have eset : (ctV cs).set i (.int ((((given.take t).count i : Nat) : Int) + 1)) = ctV (csOf ps.length (given.take (t + 1))) := by
          rw [← hcs, csOf_snoc hin]
          congr 2
          rw [List.take_add_one, hi]
          rfl
        have f7 := f6.set (cs' := csOf ps.length (given.take (t + 1)))
        have eset' : upd H6 C (.lst ((ctV cs).set i (.int ((((given.take t).count i : Nat) : Int) + 1)))) = upd H6 C (.lst (ctV (csOf ps.length (given.take (t + 1))))) := by rw [eset]
        rw [← eset'] at f7
        have tn1 := tn.take (t + 1) (by omega)
        have lt1 : (given.take (t + 1)).length = t + 1 := by rw [List.length_take]; omega
        have inv1 := tn1.run.inv f7.P.ok.n1 f7.P.ok.w1
        rw [lt1, ← kF_csOf tn1] at inv1
        refine ⟨_, rfl, _, rfl, _, rfl, _, _, rfl, rfl, a, ts, ps, C, csOf ps.length (given.take (t + 1)), t + 1, rfl, f7.P, f7.hC, csOf_len _ _, inv1, fun H8 s8 => ⟨_, rfl, iteF ?_⟩⟩
        exact ⟨_, _, _, _, _, rfl, f7.same s8⟩
      · rintro σ H3 ⟨y8, y9, y10, y11, y12, rfl, f3⟩
        rw [ctV_len, List.take_length] at f3
        have csl := csOf_len ps.length given
        have csle := csOf_le ps.length given
        rw [hlen] at csle
        have kf := kF_csOf tn
        have sm : (csOf ps.length given).sum = many := by rw [csOf_sum f3.P.ok.n1 f3.P.ok.w1 tn, hlen]
        have run : Fair.Run ps.length (wF ps) (kF (csOf ps.length given)) (csOf ps.length given).sum := by
          rw [kf, sm, ← hlen]
          exact tn.run
        have inv := run.inv f3.P.ok.n1 f3.P.ok.w1
        obtain ⟨i0, pk⟩ := Fair.exists_pick (n := ps.length) (w := wF ps) (k := kF (csOf ps.length given)) (t := (csOf ps.length given).sum) f3.P.ok.n1 f3.P.ok.w1 inv.sum
        generalize csOf ps.length given = cs at f3 csl csle kf sm run inv pk
        have hin := pk.lt
        refine ⟨_, rfl, a, _, rfl, .inr (SqT.of f3.P.at_), _, rfl, by rw [List.length_map]; omega, by rw [List.length_map]; omega, fun E2 hE2 => ?_⟩
        refine lc_sel (walk_range (lo := 0) (n := (((ts.map V.ref).length : Nat) : Int).toNat)) (fun j => decide (j = i0)) (fun j => .int (0 + (j : Int))) (by rw [List.length_map]; omega) hE2 (fun _ _ => trivial) ?_ ?_
        · rintro j x H4 H5 k k0 hj s4 ⟨rfl, rfl⟩ hk hk0
          have f4 := f3.same s4
          refine ⟨rfl, _, rfl, _, rfl, _, rfl, _, _, rfl, rfl, _, rfl, a, ts, ps, C, cs, many + 1, j, by show [V.ref a, V.ref C, V.int ((many : Int) + 1), V.int (0 + (j : Int))] = _; rw [Int.zero_add]; rfl, f4.P, f4.hC, csl, inv, by rw [sm], fun b H6 s6 hb => ⟨_, rfl, ?_⟩⟩
          by_cases e : j = i0
          · have eb : b = true := hb.mpr (by rw [e, ← sm]; exact pk)
            subst eb
            exact iteT ⟨_, rfl, hk (decide_eq_true e) _ s6⟩
          · have eb : b = false := by
              cases b with
              | false => rfl
              | true => exact absurd ((by rw [← sm] at hb; exact (hb.mp rfl).uniq _ _ pk)) e
            subst eb
            exact iteF (hk0 (decide_eq_false e) _ s6)
        intro H4 s4 h4
        have f4 := f3.same s4
        have el : (((List.range (((ts.map V.ref).length : Nat) : Int).toNat).filter fun j => decide (j = i0)).map fun (j : Nat) => V.int (0 + (j : Int))) = [.int (i0 : Nat)] := by
          rw [List.length_map, ln, show ((ps.length : Nat) : Int).toNat = ps.length by simp]
          rw [filt_one _ _ hin]
          show [V.int (0 + (i0 : Int))] = _
          rw [Int.zero_add]
        rw [el] at h4
        clear f3
        have as0 : ∃ k, as[0]? = some k ∧ k ≤ many := by
          obtain ⟨k, hk⟩ : ∃ k, as[0]? = some k := ⟨as[0]'(by omega), List.getElem?_eq_getElem (by omega)⟩
          exact ⟨k, hk, has _ (List.mem_of_getElem? hk)⟩
        obtain ⟨k0, hk0, hk0m⟩ := as0
        -- the next one
        refine ⟨_, rfl, _, rfl, C, _, rfl, .inl ⟨SqL.of f4.hC, fun S hS => ?_⟩⟩
        have f5 := f4.same (same_new (o := .tup (ctV cs)) hS)
        have hS5 : upd H4 S (.tup (ctV cs)) S = some (.tup (ctV cs)) := upd_same
        have h5 := same_new (o := .tup (ctV cs)) hS _ _ h4
        generalize upd H4 S (.tup (ctV cs)) = H5 at f5 hS5 h5 ⊢
        refine ⟨a, ts, ps, S, cs, rfl, f5.P, hS5, csl, run, fun i' H6 s6 pk' => ?_⟩
        have ei : i' = i0 := pk'.uniq _ _ pk
        subst ei
        have f6 := f5.same s6
        have h6 := s6 _ _ h5
        refine ⟨sz (by show 1 ≤ 16000000; decide), fun L5 hL5 => ?_⟩
        have f7 := f6.same (same_new (o := .lst [.int (i' : Nat)]) hL5)
        have h7 := same_new (o := .lst [.int (i' : Nat)]) hL5 _ _ h6
        obtain ⟨z1, z2, z3, z4⟩ := (((Sm.lst (b := 10) (.cons (b1 := 2) (b2 := 0) (.int (k := i') (by omega) (by decide)) .nil (by decide)) : Sm (.list [.int (i' : Nat)]) 1 12)).fit (by decide) (by decide)).shown
        refine ⟨.ref L5, .list [.int (i' : Nat)], rfl, .lst (SqL.of (xs := [.int (i' : Nat)]) upd_same) (.cons (.int _) .nil), z1, z2, z3, z4, _, rfl, .ref E2, .list [.int (i' : Nat)], rfl, .lst (SqL.of h7) (.cons (.int _) .nil), z1, z2, z3, z4, rfl, _, rfl, ?_⟩
        rw [decide_eq_true rfl]
        refine iteF ?_
        clear f4 f5 f6
        generalize upd H6 L5 (.lst [.int (i' : Nat)]) = H7 at f7 h7 ⊢
        -- the counts after all
        refine ⟨_, rfl, _, rfl, rfl, a, ts, ps, many, rfl, f7.P, fun tk ks H8 s8 hk1 hk2 hk3 => ?_⟩
        have ek : ks = cs := kF_ext (hk2.trans csl.symm) (hk3.uniq (by rw [sm] at run; exact run))
        subst ek
        have f8 := f7.same s8
        obtain ⟨z1, z2, z3, z4⟩ := ((fit_ct (b := 100) csle (by omega) (by omega)).fit (by decide) (by decide)).shown
        refine ⟨.ref tk, .tuple (ctD ks), rfl, .tup (SqT.of hk1) (dp_ct ks), z1, z2, z3, z4, _, rfl, C, _, rfl, .inl ⟨SqL.of f8.hC, fun S2 hS2 => ?_⟩⟩
        have f9 := f8.same (same_new (o := .tup (ctV ks)) hS2)
        refine ⟨.ref S2, .tuple (ctD ks), rfl, .tup (SqT.of (xs := ctV ks) upd_same) (dp_ct ks), z1, z2, z3, z4, rfl, _, rfl, ?_⟩
        rw [decide_eq_true rfl]
        refine iteF ?_
        generalize upd H8 S2 (.tup (ctV ks)) = H9 at f9 ⊢
        -- a beginning of more
        refine ⟨_, rfl, _, rfl, D, _, _, _, rfl, rfl, SqL.of f9.hA, atI_nat (j := 0) (ctV_at hk0), a, ts, ps, k0, rfl, f9.P, by omega, fun T5 g5 H10 s10 g51 g52 g53 => ?_⟩
        have f10 := f9.same s10
        have eg : g5 = given.take k0 := g52.uniq (tn.take k0 (by omega)) (by rw [g53, List.length_take]; omega)
        subst eg
        have gl8 : ∀ x ∈ given.take k0, x ≤ 8 := fun x hx => by
          have := tn.lt x (List.mem_of_mem_take hx)
          omega
        have glen : (given.take k0).length = k0 := g53
        obtain ⟨y1, y2, y3, y4⟩ := ((fit_ct (b := 9000) gl8 (by omega) (by omega)).fit (by decide) (by decide)).shown
        have hcut : cutV (ctV given) none (some ((k0 : Nat) : Int)) = ctV (given.take k0) := by
          unfold cutV ctV
          rw [HT.sIx_none, List.length_map, sIx_at (by omega : k0 ≤ given.length), List.drop_zero, Nat.sub_zero, List.map_take]
        refine ⟨.ref T5, .tuple (ctD (given.take k0)), rfl, .tup (SqT.of g51) (dp_ct _), y1, y2, y3, y4, ?_⟩
        refine ⟨_, rfl, _, rfl, D, _, _, _, rfl, rfl, SqL.of f10.hA, atI_nat (j := 0) (ctV_at hk0), _, rfl, TO, _, rfl, SqT.of f10.hT, fun z => ?_, fun z T6 hT6 => ?_⟩
        · have ez : k0 = given.length := by
            have := z.2
            rw [ctV_len, sIx_at (by omega : k0 ≤ given.length)] at this
            exact this
          refine ⟨.ref TO, .tuple (ctD (given.take k0)), rfl, .tup (SqT.of (f10.hT.trans (by rw [ez, List.take_length]))) (dp_ct _), y1, y2, y3, y4, rfl, _, rfl, ?_⟩
          rw [decide_eq_true rfl]
          exact iteF ⟨_, _, _, _, _, _, _, _, _, _, _, rfl, f10.dk⟩
        · refine ⟨.ref T6, .tuple (ctD (given.take k0)), rfl, .tup (SqT.of (upd_same.trans (by rw [hcut]))) (dp_ct _), y1, y2, y3, y4, rfl, _, rfl, ?_⟩
          rw [decide_eq_true rfl]
          exact iteF ⟨_, _, _, _, _, _, _, _, _, _, _, rfl, (f10.same (same_new hT6)).dk⟩
    · rintro σ Ha ⟨x2, x3, x4, x5, x6, x7, x8, x9, x10, x11, x12, rfl, da⟩
      exact q _
end
end Ag

end
/-! ## E -/
section
set_option linter.all false
set_option maxRecDepth 100000
namespace Ag
open PySem PySem.Spec PyProof.Rows L2
theorem vals_app : ∀ {a : List V} {b : List Value} {c : List V} {d : List Value}, Vals a b → Vals c d → Vals (a ++ c) (b ++ d)
  | [], [], _, _, _, h => h
  | _ :: _, _ :: _, _, _, .cons h t, k => .cons h (vals_app t k)
theorem vals_rev : ∀ {a : List V} {b : List Value}, Vals a b → Vals a.reverse b.reverse
  | [], [], _ => .nil
  | _ :: _, _ :: _, .cons h t => by
    rw [List.reverse_cons, List.reverse_cons]
    exact vals_app (vals_rev t) (.cons h .nil)
set_option maxHeartbeats 4000000 in
theorem all_mk {l : PySem.W.OpenLaw} {w : World} {K : PySem.W.Frag} {h : Heap} {mg : Str → Option Value} {fa f0 f1 f2 f3 f4 f5 f6 f7 f8 f9 f10 f11 f12 f13 f14 f15 f16 f17 f18 f19 f20 : Addr} (X : K.In h) (G : h.Ns mainGlobals mg) (hfa : mg "law" = some (.ref fa))
    {od0 an0 od1 an1 od2 an2 od3 an3 od4 an4 od5 an5 od6 an6 od7 an7 od8 an8 od9 an9 od10 an10 od11 an11 od12 an12 od13 an13 od14 an14 od15 an15 od16 an16 od17 an17 od18 an18 od19 an19 od20 an20 : Option Addr} {sl0 sl1 sl2 sl3 sl4 sl5 sl6 sl7 sl8 sl9 sl10 sl11 sl12 sl13 sl14 sl15 sl16 sl17 sl18 sl19 sl20 : Array (Option Value)} {oc0 kV0 dc0 pm0 ct0 cd0 oc1 kV1 dc1 pm1 ct1 cd1 oc2 kV2 dc2 pm2 ct2 cd2 oc3 kV3 dc3 pm3 ct3 cd3 oc4 kV4 dc4 pm4 ct4 cd4 oc5 kV5 dc5 pm5 ct5 cd5 oc6 kV6 dc6 pm6 ct6 cd6 oc7 kV7 dc7 pm7 ct7 cd7 oc8 kV8 dc8 pm8 ct8 cd8 oc9 kV9 dc9 pm9 ct9 cd9 oc10 kV10 dc10 pm10 ct10 cd10 oc11 kV11 dc11 pm11 ct11 cd11 oc12 kV12 dc12 pm12 ct12 cd12 oc13 kV13 dc13 pm13 ct13 cd13 oc14 kV14 dc14 pm14 ct14 cd14 oc15 kV15 dc15 pm15 ct15 cd15 oc16 kV16 dc16 pm16 ct16 cd16 oc17 kV17 dc17 pm17 ct17 cd17 oc18 kV18 dc18 pm18 ct18 cd18 oc19 kV19 dc19 pm19 ct19 cd19 oc20 kV20 dc20 pm20 ct20 cd20 : Value} {tk0 tk1 tk2 tk3 : Tok}
    (a0 : PySem.W.nsIn K mainGlobals "is_integer" = some (some (.ref f0))) (l0 : K.lookup f0 = some ⟨oc0, od0, .func (PySem.W.fnOf "is_integer" "is_integer" (defArgs s_is_integer) (defBody s_is_integer) (defScope s_is_integer) .none kV0 dc0 pm0 an0 cd0 ct0), sl0⟩) (c0 : PySem.W.codeIn K cd0 "is_integer" = true) (k0 : PySem.W.keepIn K (.ref f0) = true)
    (a1 : PySem.W.nsIn K mainGlobals "is_word" = some (some (.ref f1))) (l1 : K.lookup f1 = some ⟨oc1, od1, .func (PySem.W.fnOf "is_word" "is_word" (defArgs s_is_word) (defBody s_is_word) (defScope s_is_word) .none kV1 dc1 pm1 an1 cd1 ct1), sl1⟩) (c1 : PySem.W.codeIn K cd1 "is_word" = true) (k1 : PySem.W.keepIn K (.ref f1) = true)
    (a2 : PySem.W.nsIn K mainGlobals "is_pool" = some (some (.ref f2))) (l2 : K.lookup f2 = some ⟨oc2, od2, .func (PySem.W.fnOf "is_pool" "is_pool" (defArgs s_is_pool) (defBody s_is_pool) (defScope s_is_pool) .none kV2 dc2 pm2 an2 cd2 ct2), sl2⟩) (c2 : PySem.W.codeIn K cd2 "is_pool" = true) (k2 : PySem.W.keepIn K (.ref f2) = true)
    (a3 : PySem.W.nsIn K mainGlobals "is_share" = some (some (.ref f3))) (l3 : K.lookup f3 = some ⟨oc3, od3, .func (PySem.W.fnOf "is_share" "is_share" (defArgs s_is_share) (defBody s_is_share) (defScope s_is_share) .none kV3 dc3 pm3 an3 cd3 ct3), sl3⟩) (c3 : PySem.W.codeIn K cd3 "is_share" = true) (k3 : PySem.W.keepIn K (.ref f3) = true)
    (a4 : PySem.W.nsIn K mainGlobals "are_loads" = some (some (.ref f4))) (l4 : K.lookup f4 = some ⟨oc4, od4, .func (PySem.W.fnOf "are_loads" "are_loads" (defArgs s_are_loads) (defBody s_are_loads) (defScope s_are_loads) .none kV4 dc4 pm4 an4 cd4 ct4), sl4⟩) (c4 : PySem.W.codeIn K cd4 "are_loads" = true) (k4 : PySem.W.keepIn K (.ref f4) = true)
    (a5 : PySem.W.nsIn K mainGlobals "are_counts" = some (some (.ref f5))) (l5 : K.lookup f5 = some ⟨oc5, od5, .func (PySem.W.fnOf "are_counts" "are_counts" (defArgs s_are_counts) (defBody s_are_counts) (defScope s_are_counts) .none kV5 dc5 pm5 an5 cd5 ct5), sl5⟩) (c5 : PySem.W.codeIn K cd5 "are_counts" = true) (k5 : PySem.W.keepIn K (.ref f5) = true)
    (a6 : PySem.W.nsIn K mainGlobals "weight_sum" = some (some (.ref f6))) (l6 : K.lookup f6 = some ⟨oc6, od6, .func (PySem.W.fnOf "weight_sum" "weight_sum" (defArgs s_weight_sum) (defBody s_weight_sum) (defScope s_weight_sum) .none kV6 dc6 pm6 an6 cd6 ct6), sl6⟩) (c6 : PySem.W.codeIn K cd6 "weight_sum" = true) (k6 : PySem.W.keepIn K (.ref f6) = true)
    (a7 : PySem.W.nsIn K mainGlobals "turn_after" = some (some (.ref f7))) (l7 : K.lookup f7 = some ⟨oc7, od7, .func (PySem.W.fnOf "turn_after" "turn_after" (defArgs s_turn_after) (defBody s_turn_after) (defScope s_turn_after) .none kV7 dc7 pm7 an7 cd7 ct7), sl7⟩) (c7 : PySem.W.codeIn K cd7 "turn_after" = true) (k7 : PySem.W.keepIn K (.ref f7) = true)
    (a8 : PySem.W.nsIn K mainGlobals "first_turns" = some (some (.ref f8))) (l8 : K.lookup f8 = some ⟨oc8, od8, .func (PySem.W.fnOf "first_turns" "first_turns" (defArgs s_first_turns) (defBody s_first_turns) (defScope s_first_turns) .none kV8 dc8 pm8 an8 cd8 ct8), sl8⟩) (c8 : PySem.W.codeIn K cd8 "first_turns" = true) (k8 : PySem.W.keepIn K (.ref f8) = true)
    (a9 : PySem.W.nsIn K mainGlobals "counts_from_start" = some (some (.ref f9))) (l9 : K.lookup f9 = some ⟨oc9, od9, .func (PySem.W.fnOf "counts_from_start" "counts_from_start" (defArgs s_counts_from_start) (defBody s_counts_from_start) (defScope s_counts_from_start) .none kV9 dc9 pm9 an9 cd9 ct9), sl9⟩) (c9 : PySem.W.codeIn K cd9 "counts_from_start" = true) (k9 : PySem.W.keepIn K (.ref f9) = true)
    (a10 : PySem.W.nsIn K mainGlobals "next_turn" = some (some (.ref f10))) (l10 : K.lookup f10 = some ⟨oc10, od10, .func (PySem.W.fnOf "next_turn" "next_turn" (defArgs s_next_turn) (defBody s_next_turn) (defScope s_next_turn) .none kV10 dc10 pm10 an10 cd10 ct10), sl10⟩) (c10 : PySem.W.codeIn K cd10 "next_turn" = true) (k10 : PySem.W.keepIn K (.ref f10) = true)
    (a11 : PySem.W.nsIn K mainGlobals "turns" = some (some (.ref f11))) (l11 : K.lookup f11 = some ⟨oc11, od11, .func (PySem.W.fnOf "turns" "turns" (defArgs s_turns) (defBody s_turns) (defScope s_turns) .none kV11 dc11 pm11 an11 cd11 ct11), sl11⟩) (c11 : PySem.W.codeIn K cd11 "turns" = true) (k11 : PySem.W.keepIn K (.ref f11) = true)
    (a12 : PySem.W.nsIn K mainGlobals "counts_after" = some (some (.ref f12))) (l12 : K.lookup f12 = some ⟨oc12, od12, .func (PySem.W.fnOf "counts_after" "counts_after" (defArgs s_counts_after) (defBody s_counts_after) (defScope s_counts_after) .none kV12 dc12 pm12 an12 cd12 ct12), sl12⟩) (c12 : PySem.W.codeIn K cd12 "counts_after" = true) (k12 : PySem.W.keepIn K (.ref f12) = true)
    (a13 : PySem.W.nsIn K mainGlobals "_law_dealt" = some (some (.ref f13))) (l13 : K.lookup f13 = some ⟨oc13, od13, .func (PySem.W.fnOf "_law_dealt" "_law_dealt" (defArgs s__law_dealt) (defBody s__law_dealt) (defScope s__law_dealt) .none kV13 dc13 pm13 an13 cd13 ct13), sl13⟩) (c13 : PySem.W.codeIn K cd13 "_law_dealt" = true) (k13 : PySem.W.keepIn K (.ref f13) = true)
    (a14 : PySem.W.nsIn K mainGlobals "_law_draw" = some (some (.ref f14))) (l14 : K.lookup f14 = some ⟨oc14, od14, .func (PySem.W.fnOf "_law_draw" "_law_draw" (defArgs s__law_draw) (defBody s__law_draw) (defScope s__law_draw) .none kV14 dc14 pm14 an14 cd14 ct14), sl14⟩) (c14 : PySem.W.codeIn K cd14 "_law_draw" = true) (k14 : PySem.W.keepIn K (.ref f14) = true)
    (a15 : PySem.W.nsIn K mainGlobals "_law_pick" = some (some (.ref f15))) (l15 : K.lookup f15 = some ⟨oc15, od15, .func (PySem.W.fnOf "_law_pick" "_law_pick" (defArgs s__law_pick) (defBody s__law_pick) (defScope s__law_pick) .none kV15 dc15 pm15 an15 cd15 ct15), sl15⟩) (c15 : PySem.W.codeIn K cd15 "_law_pick" = true) (k15 : PySem.W.keepIn K (.ref f15) = true)
    (a16 : PySem.W.nsIn K mainGlobals "_law_is_whole" = some (some (.ref f16))) (l16 : K.lookup f16 = some ⟨oc16, od16, .func (PySem.W.fnOf "_law_is_whole" "_law_is_whole" (defArgs s__law_is_whole) (defBody s__law_is_whole) (defScope s__law_is_whole) .none kV16 dc16 pm16 an16 cd16 ct16), sl16⟩) (c16 : PySem.W.codeIn K cd16 "_law_is_whole" = true) (k16 : PySem.W.keepIn K (.ref f16) = true)
    (a17 : PySem.W.nsIn K mainGlobals "_law_pool" = some (some (.ref f17))) (l17 : K.lookup f17 = some ⟨oc17, od17, .func (PySem.W.fnOf "_law_pool" "_law_pool" (defArgs s__law_pool) (defBody s__law_pool) (defScope s__law_pool) .none kV17 dc17 pm17 an17 cd17 ct17), sl17⟩) (c17 : PySem.W.codeIn K cd17 "_law_pool" = true) (k17 : PySem.W.keepIn K (.ref f17) = true)
    (a18 : PySem.W.nsIn K mainGlobals "_law_is_next" = some (some (.ref f18))) (l18 : K.lookup f18 = some ⟨oc18, od18, .func (PySem.W.fnOf "_law_is_next" "_law_is_next" (defArgs s__law_is_next) (defBody s__law_is_next) (defScope s__law_is_next) .none kV18 dc18 pm18 an18 cd18 ct18), sl18⟩) (c18 : PySem.W.codeIn K cd18 "_law_is_next" = true) (k18 : PySem.W.keepIn K (.ref f18) = true)
    (a19 : PySem.W.nsIn K mainGlobals "_law_is_share" = some (some (.ref f19))) (l19 : K.lookup f19 = some ⟨oc19, od19, .func (PySem.W.fnOf "_law_is_share" "_law_is_share" (defArgs s__law_is_share) (defBody s__law_is_share) (defScope s__law_is_share) .none kV19 dc19 pm19 an19 cd19 ct19), sl19⟩) (c19 : PySem.W.codeIn K cd19 "_law_is_share" = true) (k19 : PySem.W.keepIn K (.ref f19) = true)
    (a20 : PySem.W.nsIn K mainGlobals "law" = some (some (.ref f20))) (l20 : K.lookup f20 = some ⟨oc20, od20, .func (PySem.W.fnOf "law" "law" (defArgs s_law) (defBody s_law) (defScope s_law) .none kV20 dc20 pm20 an20 cd20 ct20), sl20⟩) (c20 : PySem.W.codeIn K cd20 "law" = true) (k20 : PySem.W.keepIn K (.ref f20) = true)
    (z0 : PySem.W.nsIn K mainGlobals "len" = some none)
    (z1 : PySem.W.nsIn K mainGlobals "int" = some none)
    (z2 : PySem.W.nsIn K mainGlobals "str" = some none)
    (z3 : PySem.W.nsIn K mainGlobals "isinstance" = some none)
    (z4 : PySem.W.nsIn K mainGlobals "range" = some none)
    (z5 : PySem.W.nsIn K mainGlobals "tuple" = some none)
    (z6 : PySem.W.nsIn K mainGlobals "list" = some none)
    (z7 : PySem.W.nsIn K mainGlobals "max" = some none)
    (z8 : PySem.W.nsIn K mainGlobals "min" = some none)
    (z9 : PySem.W.nsIn K mainGlobals "repr" = some none)
    (z10 : PySem.W.nsIn K mainGlobals "bool" = some none)
    (z11 : PySem.W.nsIn K mainGlobals "all" = some none)
    (z12 : PySem.W.nsIn K mainGlobals "set" = some none)
    (z13 : PySem.W.nsIn K mainGlobals "sum" = some none)
    (z14 : PySem.W.nsIn K mainGlobals "enumerate" = some none)
    (z15 : PySem.W.nsIn K mainGlobals "zip" = some none)
    (z16 : PySem.W.nsIn K mainGlobals "divmod" = some none)
    (x0 : PySem.W.nsIn K mainGlobals "WORD_MOST" = some (some (.int 10 tk0)))
    (x1 : PySem.W.nsIn K mainGlobals "POOL_MOST" = some (some (.int 8 tk1)))
    (x2 : PySem.W.nsIn K mainGlobals "WEIGHT_MOST" = some (some (.int 100 tk2)))
    (x3 : PySem.W.nsIn K mainGlobals "TURNS_MOST" = some (some (.int 2000 tk3)))
    :
    ∃ fd : FuncData, (∀ (s : Shared) (v : Value), BindsTo s fd ⟨[v], []⟩ [("_law_script", v)]) ∧ ∀ base : Heap, K.In base → base.Ns mainGlobals mg → FnG l.prog w K mg base 7 fa fd ["_law_script"] (spLaw K) := by
  have e := hfa.symm.trans (PySem.W.mg_of X G a20)
  cases e
  have B : Blt mg := ⟨PySem.W.mg_none_of X G z0, PySem.W.mg_none_of X G z1, PySem.W.mg_none_of X G z2, PySem.W.mg_none_of X G z3, PySem.W.mg_none_of X G z4, PySem.W.mg_none_of X G z5, PySem.W.mg_none_of X G z6, PySem.W.mg_none_of X G z7, PySem.W.mg_none_of X G z8, PySem.W.mg_none_of X G z9, PySem.W.mg_none_of X G z10, PySem.W.mg_none_of X G z11, PySem.W.mg_none_of X G z12, PySem.W.mg_none_of X G z13, PySem.W.mg_none_of X G z14, PySem.W.mg_none_of X G z15, PySem.W.mg_none_of X G z16⟩
  have Cn : Con mg tk0 tk1 tk2 tk3 := ⟨B, PySem.W.mg_of X G x0, PySem.W.mg_of X G x1, PySem.W.mg_of X G x2, PySem.W.mg_of X G x3⟩
  have U0 := fun_mk (st := s_is_integer) l0 c0 k0
  have b0 := U0.binds (ps := ["thing"]) fun _ _ _ _ _ _ us hl => match us, hl with | [_], _ => rfl
  have F0 : Fn K mg "is_integer" s_is_integer ["thing"] _ _ := ⟨U0, b0, PySem.W.mg_of X G a0⟩
  have U1 := fun_mk (st := s_is_word) l1 c1 k1
  have b1 := U1.binds (ps := ["thing"]) fun _ _ _ _ _ _ us hl => match us, hl with | [_], _ => rfl
  have F1 : Fn K mg "is_word" s_is_word ["thing"] _ _ := ⟨U1, b1, PySem.W.mg_of X G a1⟩
  have U2 := fun_mk (st := s_is_pool) l2 c2 k2
  have b2 := U2.binds (ps := ["thing"]) fun _ _ _ _ _ _ us hl => match us, hl with | [_], _ => rfl
  have F2 : Fn K mg "is_pool" s_is_pool ["thing"] _ _ := ⟨U2, b2, PySem.W.mg_of X G a2⟩
  have U3 := fun_mk (st := s_is_share) l3 c3 k3
  have b3 := U3.binds (ps := ["thing"]) fun _ _ _ _ _ _ us hl => match us, hl with | [_], _ => rfl
  have F3 : Fn K mg "is_share" s_is_share ["thing"] _ _ := ⟨U3, b3, PySem.W.mg_of X G a3⟩
  have U4 := fun_mk (st := s_are_loads) l4 c4 k4
  have b4 := U4.binds (ps := ["pool", "thing"]) fun _ _ _ _ _ _ us hl => match us, hl with | [_, _], _ => rfl
  have F4 : Fn K mg "are_loads" s_are_loads ["pool", "thing"] _ _ := ⟨U4, b4, PySem.W.mg_of X G a4⟩
  have U5 := fun_mk (st := s_are_counts) l5 c5 k5
  have b5 := U5.binds (ps := ["pool", "thing"]) fun _ _ _ _ _ _ us hl => match us, hl with | [_, _], _ => rfl
  have F5 : Fn K mg "are_counts" s_are_counts ["pool", "thing"] _ _ := ⟨U5, b5, PySem.W.mg_of X G a5⟩
  have U6 := fun_mk (st := s_weight_sum) l6 c6 k6
  have b6 := U6.binds (ps := ["pool"]) fun _ _ _ _ _ _ us hl => match us, hl with | [_], _ => rfl
  have F6 : Fn K mg "weight_sum" s_weight_sum ["pool"] _ _ := ⟨U6, b6, PySem.W.mg_of X G a6⟩
  have U7 := fun_mk (st := s_turn_after) l7 c7 k7
  have b7 := U7.binds (ps := ["pool", "counts"]) fun _ _ _ _ _ _ us hl => match us, hl with | [_, _], _ => rfl
  have F7 : Fn K mg "turn_after" s_turn_after ["pool", "counts"] _ _ := ⟨U7, b7, PySem.W.mg_of X G a7⟩
  have U8 := fun_mk (st := s_first_turns) l8 c8 k8
  have b8 := U8.binds (ps := ["pool", "many"]) fun _ _ _ _ _ _ us hl => match us, hl with | [_, _], _ => rfl
  have F8 : Fn K mg "first_turns" s_first_turns ["pool", "many"] _ _ := ⟨U8, b8, PySem.W.mg_of X G a8⟩
  have U9 := fun_mk (st := s_counts_from_start) l9 c9 k9
  have b9 := U9.binds (ps := ["pool", "many"]) fun _ _ _ _ _ _ us hl => match us, hl with | [_, _], _ => rfl
  have F9 : Fn K mg "counts_from_start" s_counts_from_start ["pool", "many"] _ _ := ⟨U9, b9, PySem.W.mg_of X G a9⟩
  have U10 := fun_mk (st := s_next_turn) l10 c10 k10
  have b10 := U10.binds (ps := ["pool", "counts"]) fun _ _ _ _ _ _ us hl => match us, hl with | [_, _], _ => rfl
  have F10 : Fn K mg "next_turn" s_next_turn ["pool", "counts"] _ _ := ⟨U10, b10, PySem.W.mg_of X G a10⟩
  have U11 := fun_mk (st := s_turns) l11 c11 k11
  have b11 := U11.binds (ps := ["pool", "t"]) fun _ _ _ _ _ _ us hl => match us, hl with | [_, _], _ => rfl
  have F11 : Fn K mg "turns" s_turns ["pool", "t"] _ _ := ⟨U11, b11, PySem.W.mg_of X G a11⟩
  have U12 := fun_mk (st := s_counts_after) l12 c12 k12
  have b12 := U12.binds (ps := ["pool", "t"]) fun _ _ _ _ _ _ us hl => match us, hl with | [_, _], _ => rfl
  have F12 : Fn K mg "counts_after" s_counts_after ["pool", "t"] _ _ := ⟨U12, b12, PySem.W.mg_of X G a12⟩
  have U13 := fun_mk (st := s__law_dealt) l13 c13 k13
  have b13 := U13.binds (ps := ["_law_script"]) fun _ _ _ _ _ _ us hl => match us, hl with | [_], _ => rfl
  have F13 : Fn K mg "_law_dealt" s__law_dealt ["_law_script"] _ _ := ⟨U13, b13, PySem.W.mg_of X G a13⟩
  have U14 := fun_mk (st := s__law_draw) l14 c14 k14
  have b14 := U14.binds (ps := ["_law_deck", "_law_many"]) fun _ _ _ _ _ _ us hl => match us, hl with | [_, _], _ => rfl
  have F14 : Fn K mg "_law_draw" s__law_draw ["_law_deck", "_law_many"] _ _ := ⟨U14, b14, PySem.W.mg_of X G a14⟩
  have U15 := fun_mk (st := s__law_pick) l15 c15 k15
  have b15 := U15.binds (ps := ["_law_deck", "_law_some"]) fun _ _ _ _ _ _ us hl => match us, hl with | [_, _], _ => rfl
  have F15 : Fn K mg "_law_pick" s__law_pick ["_law_deck", "_law_some"] _ _ := ⟨U15, b15, PySem.W.mg_of X G a15⟩
  have U16 := fun_mk (st := s__law_is_whole) l16 c16 k16
  have b16 := U16.binds (ps := ["_law_thing", "_law_low", "_law_high"]) fun _ _ _ _ _ _ us hl => match us, hl with | [_, _, _], _ => rfl
  have F16 : Fn K mg "_law_is_whole" s__law_is_whole ["_law_thing", "_law_low", "_law_high"] _ _ := ⟨U16, b16, PySem.W.mg_of X G a16⟩
  have U17 := fun_mk (st := s__law_pool) l17 c17 k17
  have b17 := U17.binds (ps := ["_law_deck"]) fun _ _ _ _ _ _ us hl => match us, hl with | [_], _ => rfl
  have F17 : Fn K mg "_law_pool" s__law_pool ["_law_deck"] _ _ := ⟨U17, b17, PySem.W.mg_of X G a17⟩
  have U18 := fun_mk (st := s__law_is_next) l18 c18 k18
  have b18 := U18.binds (ps := ["_law_pool_here", "_law_counts", "_law_t", "_law_at"]) fun _ _ _ _ _ _ us hl => match us, hl with | [_, _, _, _], _ => rfl
  have F18 : Fn K mg "_law_is_next" s__law_is_next ["_law_pool_here", "_law_counts", "_law_t", "_law_at"] _ _ := ⟨U18, b18, PySem.W.mg_of X G a18⟩
  have U19 := fun_mk (st := s__law_is_share) l19 c19 k19
  have b19 := U19.binds (ps := ["_law_pool_here", "_law_counts", "_law_t"]) fun _ _ _ _ _ _ us hl => match us, hl with | [_, _, _], _ => rfl
  have F19 : Fn K mg "_law_is_share" s__law_is_share ["_law_pool_here", "_law_counts", "_law_t"] _ _ := ⟨U19, b19, PySem.W.mg_of X G a19⟩
  have U20 := fun_mk (st := s_law) l20 c20 k20
  have b20 := U20.binds (ps := ["_law_script"]) fun _ _ _ _ _ _ us hl => match us, hl with | [_], _ => rfl
  have F20 : Fn K mg "law" s_law ["_law_script"] _ _ := ⟨U20, b20, PySem.W.mg_of X G a20⟩
  have Kt : KwB K (PySem.W.fnOf "turns" "turns" (defArgs s_turns) (defBody s_turns) (defScope s_turns) .none kV11 dc11 pm11 an11 cd11 ct11) ["pool", "t"] ["t", "pool"] List.reverse List.reverse := ⟨fun s ws hl => match ws, hl with | [y0, y1], _ => .of_eq rfl, fun _ r => vals_rev r⟩
  have Kc : KwB K (PySem.W.fnOf "counts_after" "counts_after" (defArgs s_counts_after) (defBody s_counts_after) (defScope s_counts_after) .none kV12 dc12 pm12 an12 cd12 ct12) ["pool", "t"] ["t", "pool"] List.reverse List.reverse := ⟨fun s ws hl => match ws, hl with | [y0, y1], _ => .of_eq rfl, fun _ r => vals_rev r⟩
  refine ⟨PySem.W.fnOf "law" "law" (defArgs s_law) (defBody s_law) (defScope s_law) .none kV20 dc20 pm20 an20 cd20 ct20, fun s v => .of_eq rfl, fun base _ _ => ?_⟩
  have Gint : FnOk l.prog w K mg base CX0 _ _ _ _ _ := ok_is_integer F0 B
  have Gshare : FnOk l.prog w K mg base CX0 _ _ _ _ _ := ok_is_share F3 Cn F1 F0
  have Gpool : FnOk l.prog w K mg base CX0 _ _ _ _ _ := ok_is_pool F2 Cn F3 Gshare
  have Gloads : FnOk l.prog w K mg base CX0 _ _ _ _ _ := ok_loads F4 B F0
  have Gafter : FnOk l.prog w K mg base CX0 _ _ _ _ _ := ok_after F7 B F6
  have Gfirst : FnOk l.prog w K mg base CX0 _ _ _ _ _ := ok_first F8 B F7 Gafter
  have Gfrom : FnOk l.prog w K mg base CX0 _ _ _ _ _ := ok_from F9 B F6 F8 Gfirst
  have Gcounts : FnOk l.prog w K mg base CX0 _ _ _ _ _ := ok_counts F5 B F4 Gloads F9 Gfrom
  have Gnext : FnOk l.prog w K mg base CX0 _ _ _ _ _ := ok_next F10 Cn F2 Gpool F5 Gcounts F7 Gafter
  have Gturns : FnOk l.prog w K mg base CX0 _ _ _ _ _ := ok_turns F11 Cn F2 Gpool F0 Gint F8 Gfirst
  have Gca : FnOk l.prog w K mg base CX0 _ _ _ _ _ := ok_ca F12 Cn F2 Gpool F0 Gint F9 Gfrom
  have Gdeck : FnOk l.prog w K mg base CX0 _ _ _ _ _ := ok_deck F13 B
  have Gdraw : FnOk l.prog w K mg base CX0 _ _ _ _ _ := ok_draw F14 B
  have Gpick : FnOk l.prog w K mg base CX0 _ _ _ _ _ := ok_pick F15 B F14
  have Gwhole : FnOk l.prog w K mg base CX0 _ _ _ _ _ := ok_whole F16 B
  have Gmk : FnOk l.prog w K mg base CX0 _ _ _ _ _ := ok_mkpool F17 B F15 Gpick F14 Gdraw
  have Gisnext : FnOk l.prog w K mg base CX0 _ _ _ _ _ := ok_isnext F18 B
  have Gisshare : FnOk l.prog w K mg base CX0 _ _ _ _ _ := ok_isshare F19 B
  exact ok_law F20 Cn F13 Gdeck F14 Gdraw F15 Gpick F17 Gmk F11 Gturns Kt F16 Gwhole F18 Gisnext F19 Gisshare F10 Gnext F12 Gca Kc
end Ag

end
/-! ## Tail -/
open PySem PySem.W PyProof.Rows
set_option maxRecDepth 100000 in
set_option maxHeartbeats 0 in
theorem PySem.Challenge.cw_answergate_k18_whole_turns_within_their_holds : PySem.Challenge.rw_answergate_k18_whole_turns_within_their.Holds := by
  w_on; o_law; k_head; (case hw => w_witness2)
  k_fill
  refine Ag.walkG (l := PySem.Challenge.rw_answergate_k18_whole_turns_within_their) (n := 63) (k := 7) (x := "_law_script") (sp := Ag.spLaw) rfl (by decide) rfl ⟨rfl, by decide, by decide⟩ (fun w h Y => PySem.W.kIn_of Y) ?F (fun K H a ns hl hS => ⟨a, ns, rfl, hS, hl, fun _ => rfl⟩)
  case F =>
    intro w mg fa h KX G hmg
    refine' Ag.all_mk KX G hmg ?ya0 ?yl0 ?yc0 ?yk0 ?ya1 ?yl1 ?yc1 ?yk1 ?ya2 ?yl2 ?yc2 ?yk2 ?ya3 ?yl3 ?yc3 ?yk3 ?ya4 ?yl4 ?yc4 ?yk4 ?ya5 ?yl5 ?yc5 ?yk5 ?ya6 ?yl6 ?yc6 ?yk6 ?ya7 ?yl7 ?yc7 ?yk7 ?ya8 ?yl8 ?yc8 ?yk8 ?ya9 ?yl9 ?yc9 ?yk9 ?ya10 ?yl10 ?yc10 ?yk10 ?ya11 ?yl11 ?yc11 ?yk11 ?ya12 ?yl12 ?yc12 ?yk12 ?ya13 ?yl13 ?yc13 ?yk13 ?ya14 ?yl14 ?yc14 ?yk14 ?ya15 ?yl15 ?yc15 ?yk15 ?ya16 ?yl16 ?yc16 ?yk16 ?ya17 ?yl17 ?yc17 ?yk17 ?ya18 ?yl18 ?yc18 ?yk18 ?ya19 ?yl19 ?yc19 ?yk19 ?ya20 ?yl20 ?yc20 ?yk20 ?yz0 ?yz1 ?yz2 ?yz3 ?yz4 ?yz5 ?yz6 ?yz7 ?yz8 ?yz9 ?yz10 ?yz11 ?yz12 ?yz13 ?yz14 ?yz15 ?yz16 ?yx0 ?yx1 ?yx2 ?yx3
    (case ya0 => k_is); (case yl0 => k_is); (case yc0 => k_is); (case yk0 => k_is)
    (case ya1 => k_is); (case yl1 => k_is); (case yc1 => k_is); (case yk1 => k_is)
    (case ya2 => k_is); (case yl2 => k_is); (case yc2 => k_is); (case yk2 => k_is)
    (case ya3 => k_is); (case yl3 => k_is); (case yc3 => k_is); (case yk3 => k_is)
    (case ya4 => k_is); (case yl4 => k_is); (case yc4 => k_is); (case yk4 => k_is)
    (case ya5 => k_is); (case yl5 => k_is); (case yc5 => k_is); (case yk5 => k_is)
    (case ya6 => k_is); (case yl6 => k_is); (case yc6 => k_is); (case yk6 => k_is)
    (case ya7 => k_is); (case yl7 => k_is); (case yc7 => k_is); (case yk7 => k_is)
    (case ya8 => k_is); (case yl8 => k_is); (case yc8 => k_is); (case yk8 => k_is)
    (case ya9 => k_is); (case yl9 => k_is); (case yc9 => k_is); (case yk9 => k_is)
    (case ya10 => k_is); (case yl10 => k_is); (case yc10 => k_is); (case yk10 => k_is)
    (case ya11 => k_is); (case yl11 => k_is); (case yc11 => k_is); (case yk11 => k_is)
    (case ya12 => k_is); (case yl12 => k_is); (case yc12 => k_is); (case yk12 => k_is)
    (case ya13 => k_is); (case yl13 => k_is); (case yc13 => k_is); (case yk13 => k_is)
    (case ya14 => k_is); (case yl14 => k_is); (case yc14 => k_is); (case yk14 => k_is)
    (case ya15 => k_is); (case yl15 => k_is); (case yc15 => k_is); (case yk15 => k_is)
    (case ya16 => k_is); (case yl16 => k_is); (case yc16 => k_is); (case yk16 => k_is)
    (case ya17 => k_is); (case yl17 => k_is); (case yc17 => k_is); (case yk17 => k_is)
    (case ya18 => k_is); (case yl18 => k_is); (case yc18 => k_is); (case yk18 => k_is)
    (case ya19 => k_is); (case yl19 => k_is); (case yc19 => k_is); (case yk19 => k_is)
    (case ya20 => k_is); (case yl20 => k_is); (case yc20 => k_is); (case yk20 => k_is)
    (case yz0 => k_is); (case yz1 => k_is); (case yz2 => k_is); (case yz3 => k_is); (case yz4 => k_is); (case yz5 => k_is); (case yz6 => k_is); (case yz7 => k_is); (case yz8 => k_is); (case yz9 => k_is); (case yz10 => k_is); (case yz11 => k_is); (case yz12 => k_is); (case yz13 => k_is); (case yz14 => k_is); (case yz15 => k_is); (case yz16 => k_is)
    (case yx0 => k_is); (case yx1 => k_is); (case yx2 => k_is); (case yx3 => k_is)

