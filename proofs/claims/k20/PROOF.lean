import PyProof.Rows.All
import Wide.All
import OpenK.AllK
import Wide.FinOn
import HandS.ForMost
import HandS.IsInst
import HandS.FStr
import HandS.StrMore
import HandS.Style
import HandS.SortInts
import HandS.Wide
import HandS.TupAny
import HandS.TupMul
import PyProof.StrBlock2
import PyProof.ReprRoads
import PyProof.ReprText
import HandS.Codes
import HandS.Walk
import PyProof.Draws
import PyProof.EnumFor
import PyProof.EnumMake
import PyProof.ListStr
import HandS.Conv
import HandS.Strs
import HandS.SetFor
import PyProof.SetRoads
import KE.GoesMore
import KE.GoesEnum
import PyProof.SumWalkG
import PyProof.WalksMore
import KE.GoesZip
import HandS.Zip
import KE.DatumOrd
import HandS.ExcValue
import PyProof.TupleOfSeq
import HandS.Star
import PySem.Challenge.RW_answergate_k20_whole_least_busy_and_by_k
set_option Elab.async false
/-! ## Base0 -/
section
set_option linter.all false
set_option maxRecDepth 100000
namespace Ag
open PySem PySem.Spec PyProof.Rows L2
/-! ### a def's promise where it is known that no repr runs around the call -/
structure FnG (P : Program) (w : World) (K : PySem.W.Frag) (mg : Str → Option Value) (base : Heap) (k : Nat) (f : Addr) (fd : FuncData) (ps : List Str) (sp : Sp) : Prop where
  len : ∀ vs H Q E, sp vs H Q E → vs.length = ps.length
  run : ∀ (A : Around) (outer : List Env) (s : Shared) (H : Hp) (args : Args) (us : List Value) (vs : List V) (Q : VK) (E : XK), Room k A → A.guards = some [] →
    Env0 P w K mg base A outer s H → BindsTo s fd args (ps.zip us) → Vals vs us → sp vs H Q E → codeAny (model P w) A (.call (.ref f) args) (CR CX0 outer P w H s Q E) s
theorem FnG.of {P : Program} {w : World} {K : PySem.W.Frag} {mg : Str → Option Value} {base : Heap} {k : Nat} {f : Addr} {fd : FuncData} {ps : List Str} {sp : Sp} (F : FnOk P w K mg base CX0 k f fd ps sp) :
    FnG P w K mg base k f fd ps sp := ⟨F.len, fun A outer s H args us vs Q E hr _ => F.run A outer s H args us vs Q E hr⟩
theorem g_deeper {A : Around} {env : Env} (h : A.guards = some []) : (A.deeper env).guards = some [] := by
  first | exact h | (simp [Around.deeper, h])
section
variable {P : Program} {w : World} {K : PySem.W.Frag} {mg : Str → Option Value} {base : Heap}
theorem okG {x qual : Str} {st : Stmt} {f : Addr} {fd : FuncData} {N ps : List Str} {k : Nat} {sp : Sp} (F : Fun K x qual st f fd) (S : FnScope N ps (defScope st))
    (len : ∀ vs H Q E, sp vs H Q E → vs.length = ps.length)
    (hbody : ∀ (cdv : Value) (A : Around) (outer : List Env) (s : Shared) (H : Hp) (vs : List V) (Q : VK) (E : XK), Room k (A.deeper (envOfC qual (defScope st) s.heap.objs.size f cdv)) →
      (A.deeper (envOfC qual (defScope st) s.heap.objs.size f cdv)).guards = some [] → sp vs H Q E →
      ∃ t, PSs (cxOf CX0 P w K mg base N qual (defScope st) f cdv A outer s H E).nox (defBody st) t ∧ t { nx := fun _ H' => Q .non H', rt := Q } (start N vs) H) :
    FnG P w K mg base (k + 1) f fd ps sp := by
  obtain ⟨oc, od, kV, doc, pm, an, cdv, ct, osl, rfl, lk, hcd⟩ := F.ex
  refine ⟨len, ?_⟩
  intro A outer s H args us vs Q E hr hg env0 hb rel hsp
  have hlen := len vs H Q E hsp
  have below : ∀ b o, base.get? b = some o → s.heap.get? b = some o := fun b o e => (env0.bs b o e).1
  have KX : K.In s.heap := env0.mod.kin.keeps below
  have noLim : s.heap.NoLimit := env0.mod.nolimit.keeps below
  have kinds : ∀ y ∈ ps.zip us, (defScope st).names.lookup y.1 = some .local ∨ ((defScope st).names.lookup y.1 = some .cell ∧ ((cellsFrom (s.heap.objs.size + 1) (defScope st).names []).lookup y.1).isSome = true) := by
    rintro ⟨n, v⟩ hy
    exact (S.par n (List.of_mem_zip hy).1).imp id fun q => ⟨q, PySem.W.cellsFrom_some _ _ _ (.inl q)⟩
  refine codeAny_call_function hr.depth (KX f _ lk) rfl S.co S.gen rfl (PySem.W.codeRec_of KX hcd) (hb _ _ _ _ (wpAny_newFunctionEnv_cells S.kind kinds ?_))
  intro env he s1 x
  subst he
  refine ⟨noLim.keeps x.toInCall.keep, codeAny_func ?_⟩
  obtain ⟨t, ht, hq⟩ := hbody cdv A outer s H vs Q E (hr.deeper _) (g_deeper hg) hsp
  have I := inv_start (CX := CX0) (E := E) S hr.hd env0 hlen rel x
  refine wpAny_mono (ht.nox.run [] s1 (start N vs) H _ I hq) (fun fl s' hs => ?_) (fun e s' hs => hs)
  cases fl with
  | brk => exact hs.elim fun _ z => z.elim fun _ z => z.2.elim
  | cont => exact hs.elim fun _ z => z.elim fun _ z => z.2.elim
  | next =>
    obtain ⟨σ', H', J, q⟩ := hs
    exact ⟨.non, H', J.os, J.bare, J.base, J.hok, rfl, q⟩
  | ret u =>
    obtain ⟨v, σ', H', J, rv, q⟩ := hs
    exact ⟨v, H', J.os, J.bare, J.base, J.hok, rv, q⟩
end
section
variable {X : Cx} {k : Nat} {f : Addr} {fd : FuncData} {ps : List Str} {sp : Sp} {x : Str} {p pos : Pos} {e : Expr} {es : List Expr} {t : TA}
theorem run_G {pins : List (Addr × Obj)} {σ : L2.St} {H : Hp} {s : Shared} {Q : VK} {us : List Value} {vs : List V} {args : Args} (F : FnG X.prog X.w X.K X.mg X.base k f fd ps sp) (hr : Room k X.A) (hG : X.A.guards = some [])
    (I : Inv X pins σ H s) (hb : BindsTo s fd args (ps.zip us)) (r : Vals vs us) (h : sp vs H Q E0) : codeAny (model X.prog X.w) X.A (.call (.ref f) args) (fun r s' => ∃ u, r = .ok (.ret u) ∧ EP X pins σ Q u s') s := by
  refine codeAny_mono (F.run X.A X.stack s H args us vs Q E0 hr hG I.env0 hb r h) ?_
  intro r s' hq
  match r, hq with
  | .error e, hq => exact hq.elim
  | .ok (.ret u), hq => exact ⟨u, rfl, I.after hq⟩
/-- f(e, ..) -/
theorem pe_callG (F : FnG X.prog X.w X.K X.mg X.base k f fd ps sp) (hr : Room k X.A) (hG : X.A.guards = some []) (hg : Gl X x) (hm : X.mg x = some (.ref f)) (hk : PySem.W.keepIn X.K (.ref f) = true) (hb : Binds X.K fd ps [])
    (ha : PA X (e :: es) t) (hdb : (x == ("__debug__" : Str)) = false := by decide) (he : starEach (e :: es) X.env = (false, eval e X.env) :: starEach es X.env := by rfl) (hpl : (backTo pos (starEach es X.env)).any (·.1) = false := by rfl) :
    PE X (.Call (.Name x p) (e :: es) [] pos) (tCall sp [] E0 t) := by
  constructor
  intro pins s σ H Q I h
  refine wpAny_Call_Name_kw (ld_glob I hg hm (PySem.W.callWith_K (h₀ := X.base) I.ok.mod.kin hk (thn (ha.run pos pins s σ H _ I h) ?_) he hpl) hdb)
  rintro us s1 ⟨vs, H1, I1, r, q⟩
  rw [List.append_nil] at q
  have hl : us.length = ps.length := by rw [← r.length]; exact F.len _ _ _ _ q
  have z := hb s1 us I1.kIn (by rw [List.append_nil]; exact hl)
  rw [List.append_nil] at z
  refine ⟨I1.kIn, ?_⟩
  show wpAny _ _ (call (.ref f) us) _ _ _
  refine wpAny_call (codeAny_mono (run_G F hr hG I1 z r q) ?_)
  rintro r s' ⟨u, rfl, z⟩
  exact z
/-- f(k = e, ..), keywords alone -/
structure KwB (K : PySem.W.Frag) (fd : FuncData) (ps ks : List Str) (gv : List Value → List Value) (gV : List V → List V) : Prop where
  to : ∀ (s : Shared) (ws : List Value), ws.length = ks.length → BindsTo s fd ⟨[], ks.zip ws⟩ (ps.zip (gv ws))
  rel : ∀ {zs : List V} {ws : List Value}, zs.length = ks.length → Vals zs ws → Vals (gV zs) (gv ws)
def tCallKw (sp : Sp) (n : Nat) (gV : List V → List V) (t : TA) : TE := fun σ H Q => t σ H fun zs H2 => zs.length = n ∧ sp (gV zs) H2 Q E0
variable {ks : List Str} {gv : List Value → List Value} {gV : List V → List V} {kws : List Keyword}
theorem pe_callKwG (F : FnG X.prog X.w X.K X.mg X.base k f fd ps sp) (hr : Room k X.A) (hG : X.A.guards = some []) (hg : Gl X x) (hm : X.mg x = some (.ref f)) (hk : PySem.W.keepIn X.K (.ref f) = true) (hb : KwB X.K fd ps ks gv gV)
    (ha : PK X kws t) (hall : (backToKw pos (keywordEach kws X.env)).all (·.1.isSome) = true := by rfl) (hks : (backToKw pos (keywordEach kws X.env)).filterMap (·.1) = ks := by rfl) (hdb : (x == ("__debug__" : Str)) = false := by decide)
    (hpl : ((backTo pos (starEach [] X.env)).any (·.1) || (backToKw pos (keywordEach kws X.env)).any (·.1.isNone)) = false := by rfl) : PE X (.Call (.Name x p) [] kws pos) (tCallKw sp ks.length gV t) := by
  constructor
  intro pins s σ H Q I h
  refine wpAny_Call_Name_kw (ld_glob I hg hm (PySem.W.callWith_KW0 (h₀ := X.base) I.ok.mod.kin hk hall (thn (ha.run pos pins s σ H _ I h) ?_) hpl) hdb)
  rintro ws s2 ⟨zs, H2, I2, rz, l, q⟩
  refine ⟨I2.kIn, ?_⟩
  rw [hks]
  refine wpAny_call (codeAny_mono (run_G (args := ⟨[], ks.zip ws⟩) F hr hG I2 (hb.to s2 ws (by rw [← rz.length]; exact l)) (hb.rel l rz) q) ?_)
  rintro r s' ⟨u, rfl, z⟩
  exact z
/-! ### repr of data -/
theorem call_repr_data (hu : X.A.units + 66 < cLine) (hG : X.A.guards = some []) : CallR X (.builtin "repr") (fun xs H Q => ∃ x d, xs = [x] ∧ Dp X.K H x d ∧ d.showable = true ∧ d.hasDict = false ∧ d.depth ≤ 64 ∧ d.shown.length ≤ sizeLine ∧ Q (.str d.shown) H) := by
  intro pins s σ H vs us Q I r h
  obtain ⟨x, d, rfl, hd, h1, h2, h3, h4, q⟩ := h
  obtain ⟨u, rfl, ru⟩ := vals1 r
  cases x with
  | ref a =>
    obtain ⟨as, rd⟩ := Dp.reads I d (.ref a) u hd ru
    obtain rfl : u = Value.ref a := ru
    refine repr_of_reads' rd h1 (fun z => by rw [h2] at z; cases z) hG (by omega) (fun _ _ e => e) (fun h' u tk kp => ?_) h4
    exact ⟨.str d.shown, H, I.kept kp, ⟨_, rfl⟩, q⟩
  | non =>
    cases hd
    obtain rfl : u = Value.none := ru
    exact PySem.P.repr_of_none ⟨.str _, H, I.tok _, ⟨_, rfl⟩, by rw [PyData.shown_none] at q; exact q⟩
  | bl b =>
    cases hd
    obtain rfl : u = Value.bool b := ru
    exact PySem.P.repr_of_bool ⟨.str _, H, I.tok _, ⟨_, rfl⟩, by rw [PyData.shown_bool] at q; exact q⟩
  | int i =>
    cases hd
    obtain ⟨t, rfl⟩ := ru
    exact PySem.P.repr_of_int (by simpa [PyData.showable] using h1) ⟨.str _, H, I.tok _, ⟨_, rfl⟩, by rw [PyData.shown_int] at q; exact q⟩
  | str z =>
    cases hd
    obtain ⟨t, rfl⟩ := ru
    rw [PyData.shown_str] at q h4
    exact PySem.P.repr_of_str ⟨.str _, H, I.tok _, ⟨_, rfl⟩, q⟩ h4
  | byt b => cases hd
  | flt b => cases hd
  | ty n => cases hd
end
end Ag

end
/-! ## Math1 -/
section
set_option linter.all false
namespace Ag
open PySem
/-! ### decimal texts -/
abbrev numL := TL.numL
abbrev digitsVal := NumText.digitsVal
def plainC (c : Nat) : Bool := decide (32 ≤ c) && decide (c ≤ 126)
def digC (c : Nat) : Bool := decide (48 ≤ c) && decide (c ≤ 57)
def plainL (l : List Nat) : Bool := l.all plainC
def isDec (l : List Nat) (m : Nat) : Bool := decide (numL (digitsVal l) = l) && decide (digitsVal l ≤ m)
theorem dv_snoc (l : List Nat) (c : Nat) : digitsVal (l ++ [c]) = digitsVal l * 10 + (c - 48) := by
  show List.foldl _ 0 (l ++ [c]) = _
  rw [List.foldl_append]
  rfl
theorem isDec_iff {l : List Nat} {m : Nat} : isDec l m = true ↔ ∃ k, k ≤ m ∧ l = numL k := by
  unfold isDec
  rw [Bool.and_eq_true, decide_eq_true_eq, decide_eq_true_eq]
  constructor
  · rintro ⟨a, b⟩
    exact ⟨_, b, a.symm⟩
  · rintro ⟨k, hk, rfl⟩
    have e : digitsVal (numL k) = k := TL.numL_val k
    rw [e]
    exact ⟨rfl, hk⟩
theorem numL_all (k : Nat) : ∀ c ∈ numL k, 48 ≤ c ∧ c ≤ 57 := TL.numL_digits k
theorem numL_ne (k : Nat) : numL k ≠ [] := TL.numL_ne k
theorem numL_val (k : Nat) : digitsVal (numL k) = k := TL.numL_val k
theorem numL_zero_head : ∀ (k : Nat) (l : List Nat), numL k = 48 :: l → k = 0 := by
  intro k
  induction k using Nat.strongRecOn with
  | ind k ih =>
    intro l h
    by_cases hk : k < 10
    · have e : numL k = [48 + k] := TL.numL_lt hk
      rw [e] at h
      injection h with h1 h2
      omega
    · have e : numL k = numL (k / 10) ++ [48 + k % 10] := TL.numL_step (by omega)
      rw [e] at h
      have hne := numL_ne (k / 10)
      cases hq : numL (k / 10) with
      | nil => exact absurd hq hne
      | cons d r =>
        rw [hq] at h
        injection h with h1 h2
        subst h1
        have z := ih (k / 10) (by omega) r hq
        omega
/-- one more digit -/
theorem isDec_snoc {s : List Nat} {c m : Nat} (hs : s = [] ∨ ∃ k, s = numL k) :
    isDec (s ++ [c]) m = (digC c && decide (s ≠ [48]) && decide (digitsVal (s ++ [c]) ≤ m)) := by
  rw [Bool.eq_iff_iff, isDec_iff]
  simp only [Bool.and_eq_true, decide_eq_true_eq, digC]
  constructor
  · rintro ⟨k, hk, e⟩
    have hc : 48 ≤ c ∧ c ≤ 57 := numL_all k c (by rw [← e]; simp)
    refine ⟨⟨hc, ?_⟩, ?_⟩
    · rintro rfl
      have z := numL_zero_head k [c] e.symm
      subst z
      have e2 : numL 0 = [48] := TL.numL_lt (by decide)
      rw [e2] at e
      simp at e
    · rw [e, numL_val]
      exact hk
  · rintro ⟨⟨hc, hne⟩, hv⟩
    refine ⟨digitsVal (s ++ [c]), hv, ?_⟩
    rw [dv_snoc]
    rcases hs with rfl | ⟨k, rfl⟩
    · show [c] = numL (0 * 10 + (c - 48))
      have e : numL (0 * 10 + (c - 48)) = [48 + (0 * 10 + (c - 48))] := TL.numL_lt (by omega)
      rw [e]
      congr 1
      omega
    · rw [numL_val]
      have hk : k ≠ 0 := by
        rintro rfl
        exact hne (TL.numL_lt (by decide))
      have e : numL (k * 10 + (c - 48)) = numL ((k * 10 + (c - 48)) / 10) ++ [48 + (k * 10 + (c - 48)) % 10] := TL.numL_step (by omega)
      rw [e, show (k * 10 + (c - 48)) / 10 = k by omega, show 48 + (k * 10 + (c - 48)) % 10 = c by omega]
theorem isDec_nil (m : Nat) : isDec [] m = false := by
  cases h : isDec [] m with
  | false => rfl
  | true =>
    obtain ⟨k, _, e⟩ := isDec_iff.mp h
    exact absurd e.symm (numL_ne k)
theorem numL_len3 {k : Nat} (h : k ≤ 200) : (numL k).length ≤ 3 := TL.numL_len (by decide) (by omega)
/-! ### reading, sign by sign -/
inductive Out where
  | read (ts : List (List Nat)) (r : List Nat)
  | wrong (ts : List (List Nat)) (k : Nat)
  deriving DecidableEq
def Out.pre (ts : List (List Nat)) (i : Nat) : Out → Out
  | .read us r => .read (ts ++ us) r
  | .wrong us k => .wrong (ts ++ us) (i + k)
theorem Out.pre_pre (ts us : List (List Nat)) (i j : Nat) (o : Out) : (o.pre us j).pre ts i = o.pre (ts ++ us) (i + j) := by
  cases o <;> simp [Out.pre, Nat.add_assoc]
theorem Out.pre_nil (o : Out) : o.pre [] 0 = o := by cases o <;> simp [Out.pre]
def glue (s : List Nat) : Option (List Nat) → List Nat
  | none => s
  | some t => s ++ 58 :: t
/-- one sign: none if it is wrong; else the text that is complete, if there is one, and the next state -/
def stp (s : List Nat) (t : Option (List Nat)) (c : Nat) : Option (Option (List Nat) × List Nat × Option (List Nat)) :=
  match t with
  | none => if c = 58 ∧ s ≠ [] then some (none, s, some []) else if isDec (s ++ [c]) 200 = true then some (none, s ++ [c], none) else none
  | some t => if t.length < digitsVal s then (if plainC c = true then some (none, s, some (t ++ [c])) else none) else if c = 44 then some (some t, [], none) else none
def lr (s : List Nat) (t : Option (List Nat)) : List Nat → Out
  | [] => .read [] (glue s t)
  | c :: cs => match stp s t c with
    | none => .wrong [] 0
    | some (o, s', t') => (lr s' t' cs).pre o.toList 1
/-- states that can be -/
def Vd (s : List Nat) : Option (List Nat) → Prop
  | none => s = [] ∨ ∃ k, k ≤ 200 ∧ s = numL k
  | some t => (∃ k, k ≤ 200 ∧ s = numL k ∧ t.length ≤ k) ∧ plainL t = true
theorem plainL_snoc {t : List Nat} {c : Nat} : plainL (t ++ [c]) = (plainL t && plainC c) := by
  simp [plainL, List.all_append]
theorem Vd.step {s : List Nat} {t : Option (List Nat)} {c : Nat} (v : Vd s t) {o : Option (List Nat)} {s' : List Nat} {t' : Option (List Nat)} (h : stp s t c = some (o, s', t')) : Vd s' t' := by
  cases t with
  | none =>
    simp only [stp] at h
    split at h
    · rename_i q
      cases h
      rcases v with rfl | ⟨k, hk, e⟩
      · exact absurd rfl q.2
      · exact ⟨⟨k, hk, e, Nat.zero_le _⟩, rfl⟩
    · split at h
      · rename_i q
        cases h
        exact .inr (isDec_iff.mp q)
      · cases h
  | some t =>
    simp only [stp] at h
    obtain ⟨⟨k, hk, e, hl⟩, hp⟩ := v
    split at h
    · rename_i q
      split at h
      · rename_i hc
        cases h
        refine ⟨⟨k, hk, e, ?_⟩, by rw [plainL_snoc, hp, hc]; rfl⟩
        rw [e, numL_val] at q
        simp
        omega
      · cases h
    · split at h
      · cases h
        exact .inl rfl
      · cases h
/-- the state of a rest -/
def spS (r : List Nat) : List Nat := match TL.par [58] [] r with | some (p, _) => p | none => r
def spT (r : List Nat) : Option (List Nat) := match TL.par [58] [] r with | some (_, q) => some q | none => none
theorem colon_free {k : Nat} : 58 ∉ numL k := TL.numL_free (.inr (by decide))
theorem Vd.free {s : List Nat} {t : Option (List Nat)} (v : Vd s t) : 58 ∉ s := by
  cases t with
  | none =>
    rcases v with rfl | ⟨k, _, rfl⟩
    · exact List.not_mem_nil
    · exact colon_free
  | some t =>
    obtain ⟨⟨k, _, rfl, _⟩, _⟩ := v
    exact colon_free
theorem par_glue {s : List Nat} {t : Option (List Nat)} (h : 58 ∉ s) : TL.par [58] [] (glue s t) = t.map fun t => (s, t) := by
  cases t with
  | none => exact SX.par_head_none h
  | some t => exact SX.par_head t h
theorem sp_glue {s : List Nat} {t : Option (List Nat)} (v : Vd s t) : spS (glue s t) = s ∧ spT (glue s t) = t := by
  unfold spS spT
  rw [par_glue v.free]
  cases t <;> exact ⟨rfl, rfl⟩
/-- reading leads to a rest -/
theorem lr_rest : ∀ (l : List Nat) {s : List Nat} {t : Option (List Nat)} {ts : List (List Nat)} {r : List Nat}, Vd s t → lr s t l = .read ts r → ∃ s' t', Vd s' t' ∧ r = glue s' t'
  | [], s, t, ts, r, v, h => by
    simp only [lr] at h
    cases h
    exact ⟨s, t, v, rfl⟩
  | c :: cs, s, t, ts, r, v, h => by
    simp only [lr] at h
    cases hs : stp s t c with
    | none => rw [hs] at h; cases h
    | some p =>
      obtain ⟨o, s', t'⟩ := p
      rw [hs] at h
      simp only at h
      cases hl : lr s' t' cs with
      | wrong us k => rw [hl] at h; cases h
      | read us r' =>
        rw [hl] at h
        cases h
        exact lr_rest cs (v.step hs) hl
/-- two strings, one behind the other -/
def Out.thn (n : Nat) (o : Out) (k : List Nat → Out) : Out := match o with
  | .read ts r => (k r).pre ts n
  | .wrong ts i => .wrong ts i
theorem lr_app : ∀ (a b : List Nat) {s : List Nat} {t : Option (List Nat)}, Vd s t → lr s t (a ++ b) = (lr s t a).thn a.length fun r => lr (spS r) (spT r) b
  | [], b, s, t, v => by
    show lr s t b = (lr (spS (glue s t)) (spT (glue s t)) b).pre [] 0
    rw [(sp_glue v).1, (sp_glue v).2, Out.pre_nil]
  | c :: cs, b, s, t, v => by
    show lr s t (c :: (cs ++ b)) = _
    simp only [lr]
    cases hs : stp s t c with
    | none => rfl
    | some p =>
      obtain ⟨o, s', t'⟩ := p
      simp only
      rw [lr_app cs b (v.step hs)]
      cases lr s' t' cs with
      | wrong us k => rfl
      | read us r' =>
        show Out.pre o.toList 1 (Out.pre us cs.length (lr (spS r') (spT r') b)) = Out.pre (o.toList ++ us) (cs.length + 1) (lr (spS r') (spT r') b)
        rw [Out.pre_pre, Nat.add_comm 1]
/-! ### the program's way: one frame after the other -/
/-- how many of the signs are digits of a length -/
def dgs (s : List Nat) : List Nat → Nat
  | [] => 0
  | c :: cs => if isDec (s ++ [c]) 200 = true then dgs (s ++ [c]) cs + 1 else 0
theorem dgs_le : ∀ (l s : List Nat), dgs s l ≤ l.length
  | [], _ => Nat.le_refl _
  | c :: cs, s => by
    unfold dgs
    split
    · have := dgs_le cs (s ++ [c])
      simp
      exact this
    · exact Nat.zero_le _
theorem lr_dgs : ∀ (l : List Nat) {s : List Nat}, Vd s none → lr s none l = (lr (s ++ l.take (dgs s l)) none (l.drop (dgs s l))).pre [] (dgs s l) ∧ Vd (s ++ l.take (dgs s l)) none ∧
    (∀ c cs, l.drop (dgs s l) = c :: cs → isDec (s ++ l.take (dgs s l) ++ [c]) 200 = false)
  | [], s, v => by
    refine ⟨?_, ?_, fun c cs h => ?_⟩
    · simp [dgs, Out.pre_nil]
    · simpa [dgs] using v
    · simp at h
  | c :: cs, s, v => by
    by_cases h : isDec (s ++ [c]) 200 = true
    · have hd : dgs s (c :: cs) = dgs (s ++ [c]) cs + 1 := by
        show (if isDec (s ++ [c]) 200 = true then _ else _) = _
        rw [if_pos h]
      have hc : c ≠ 58 := by
        obtain ⟨k, _, e⟩ := isDec_iff.mp h
        have := numL_all k c (by rw [← e]; simp)
        omega
      have v' : Vd (s ++ [c]) none := .inr (isDec_iff.mp h)
      obtain ⟨i1, i2, i3⟩ := lr_dgs cs v'
      have es : stp s none c = some (none, s ++ [c], none) := by
        show (if c = 58 ∧ s ≠ [] then _ else if isDec (s ++ [c]) 200 = true then _ else _) = _
        rw [if_neg (fun z => hc z.1), if_pos h]
      have el : lr s none (c :: cs) = (lr (s ++ [c]) none cs).pre [] 1 := by
        simp only [lr, es]
        rfl
      have ea : s ++ [c] ++ cs.take (dgs (s ++ [c]) cs) = s ++ (c :: cs).take (dgs (s ++ [c]) cs + 1) := by simp
      rw [hd, el, i1, Out.pre_pre, ea]
      rw [ea] at i2 i3
      refine ⟨?_, i2, fun d ds hq => i3 d ds (by simpa using hq)⟩
      rw [List.drop_succ_cons, Nat.add_comm]
      rfl
    · have hd : dgs s (c :: cs) = 0 := by
        show (if isDec (s ++ [c]) 200 = true then _ else _) = _
        rw [if_neg h]
      rw [hd]
      refine ⟨by simp [Out.pre_nil], by simpa using v, fun d ds hq => ?_⟩
      simp at hq
      obtain ⟨rfl, rfl⟩ := hq
      simpa using h
/-- how many signs ahead of the first one that no text has -/
def pls : List Nat → Nat
  | [] => 0
  | c :: cs => if plainC c = true then pls cs + 1 else 0
theorem pls_le : ∀ l : List Nat, pls l ≤ l.length
  | [] => Nat.le_refl _
  | c :: cs => by
    unfold pls
    split
    · have := pls_le cs
      simp
      exact this
    · exact Nat.zero_le _
theorem pls_all {l : List Nat} (h : plainL l = true) : pls l = l.length := by
  induction l with
  | nil => rfl
  | cons c cs ih =>
    have h' : plainC c = true ∧ plainL cs = true := by simpa [plainL] using h
    show (if plainC c = true then pls cs + 1 else 0) = _
    rw [if_pos h'.1, ih h'.2]
    rfl
theorem pls_lt {l : List Nat} (h : plainL l = false) : pls l < l.length ∧ ∃ c, l[pls l]? = some c ∧ plainC c = false := by
  induction l with
  | nil => cases h
  | cons c cs ih =>
    by_cases hc : plainC c = true
    · have h' : plainL cs = false := by
        have z : (plainC c && plainL cs) = false := h
        rw [hc] at z
        exact z
      obtain ⟨a, d, b1, b2⟩ := ih h'
      have e : pls (c :: cs) = pls cs + 1 := by
        show (if plainC c = true then pls cs + 1 else 0) = _
        rw [if_pos hc]
      rw [e]
      exact ⟨by simp; exact a, d, by simpa using b1, b2⟩
    · have e : pls (c :: cs) = 0 := by
        show (if plainC c = true then pls cs + 1 else 0) = _
        rw [if_neg hc]
      rw [e]
      exact ⟨by simp, c, by simp, by simpa using hc⟩
theorem pls_plain : ∀ l : List Nat, plainL (l.take (pls l)) = true
  | [] => rfl
  | c :: cs => by
    by_cases hc : plainC c = true
    · have e : pls (c :: cs) = pls cs + 1 := by
        show (if plainC c = true then pls cs + 1 else 0) = _
        rw [if_pos hc]
      rw [e, List.take_succ_cons]
      show (plainC c && plainL (cs.take (pls cs))) = true
      rw [hc, pls_plain cs]
      rfl
    · have e : pls (c :: cs) = 0 := by
        show (if plainC c = true then pls cs + 1 else 0) = _
        rw [if_neg hc]
      rw [e]
      rfl
/-- the signs of a text -/
theorem lr_text : ∀ (a : List Nat) (l : List Nat) {s t : List Nat}, plainL a = true → t.length + a.length ≤ digitsVal s → lr s (some t) (a ++ l) = (lr s (some (t ++ a)) l).pre [] a.length
  | [], l, s, t, _, _ => by simp [Out.pre_nil]
  | c :: cs, l, s, t, hp, hl => by
    have hp' : plainC c = true ∧ plainL cs = true := by simpa [plainL] using hp
    simp only [List.length_cons] at hl
    have es : stp s (some t) c = some (none, s, some (t ++ [c])) := by
      show (if t.length < digitsVal s then _ else _) = _
      rw [if_pos (by omega), if_pos hp'.1]
    have el : lr s (some t) (c :: (cs ++ l)) = (lr s (some (t ++ [c])) (cs ++ l)).pre [] 1 := by
      simp only [lr, es]
      rfl
    show lr s (some t) (c :: (cs ++ l)) = _
    rw [el, lr_text cs l hp'.2 (by simp; omega), Out.pre_pre]
    simp [Nat.add_comm]
/-- what next_frame tells of the signs from its start on -/
inductive Nf where
  | part (at_ : Nat) | wrong (at_ : Nat) | whole (t : List Nat) (at_ : Nat)
def nf (l : List Nat) : Nf :=
  let k := dgs [] l
  if k = l.length then .part k else
  if k = 0 ∨ l[k]? ≠ some 58 then .wrong k else
  let n := digitsVal (l.take k)
  let part := (l.drop (k + 1)).take n
  let e := k + 1 + pls part
  if e = l.length then .part e else
  if l[e]? ≠ some 44 then .wrong e else .whole part (k + 1 + n + 1)
theorem nf_lr (l : List Nat) : match nf l with
    | .part _ => ∃ r, lr [] none l = .read [] r ∧ r = l
    | .wrong k => lr [] none l = .wrong [] k ∧ k < l.length
    | .whole t k => lr [] none l = (lr [] none (l.drop k)).pre [t] k ∧ k ≤ l.length ∧ 0 < k := by
  obtain ⟨h1, h2, h3⟩ := lr_dgs l (s := []) (.inl rfl)
  simp only [List.nil_append] at h1 h2 h3
  have hk := dgs_le l []
  generalize hkk : dgs [] l = k at h1 h2 h3 hk
  unfold nf
  rw [hkk]
  by_cases e1 : k = l.length
  · simp only [e1, if_true]
    rw [h1, e1, List.take_length, List.drop_length]
    exact ⟨l, by simp [lr, glue, Out.pre], rfl⟩
  · simp only [if_neg e1]
    have hlt : k < l.length := by omega
    obtain ⟨c, hc⟩ : ∃ c, l[k]? = some c := ⟨l[k], by simp [hlt]⟩
    have hd : l.drop k = c :: l.drop (k + 1) := by
      rw [List.drop_eq_getElem_cons hlt]
      congr 1
      rw [List.getElem?_eq_getElem hlt] at hc
      exact Option.some.inj hc
    have nd := h3 c _ hd
    by_cases e2 : k = 0 ∨ l[k]? ≠ some 58
    · simp only [if_pos e2]
      refine ⟨?_, hlt⟩
      rw [h1, hd]
      have es : stp (l.take k) none c = none := by
        show (if c = 58 ∧ l.take k ≠ [] then _ else if isDec (l.take k ++ [c]) 200 = true then _ else none) = _
        rw [if_neg, if_neg (by rw [nd]; decide)]
        rintro ⟨rfl, hn⟩
        rcases e2 with rfl | e2
        · exact hn rfl
        · exact e2 hc
      simp only [lr, es]
      simp [Out.pre]
    · simp only [if_neg e2]
      have hk0 : k ≠ 0 := fun z => e2 (.inl z)
      have hc58 : c = 58 := by
        by_cases q : c = 58
        · exact q
        · exact absurd (.inr (by rw [hc]; simpa using q)) e2
      subst hc58
      have hne : l.take k ≠ [] := by
        intro z
        have := congrArg List.length z
        rw [List.length_take, List.length_nil] at this
        omega
      have es : stp (l.take k) none 58 = some (none, l.take k, some []) := by
        show (if 58 = 58 ∧ l.take k ≠ [] then _ else _) = _
        rw [if_pos ⟨rfl, hne⟩]
      have h4 : lr [] none l = (lr (l.take k) (some []) (l.drop (k + 1))).pre [] (k + 1) := by
        rw [h1, hd]
        simp only [lr, es]
        rw [Out.pre_pre]
        rfl
      generalize hn : digitsVal (l.take k) = n
      generalize hm : l.drop (k + 1) = m at h4
      have hml : m.length = l.length - (k + 1) := by rw [← hm, List.length_drop]
      generalize hp : m.take n = part
      have hpm : m = part ++ m.drop n := by rw [← hp, List.take_append_drop]
      have hpl : part.length ≤ n := by rw [← hp, List.length_take]; omega
      have hb := pls_le part
      have hsp : m = part.take (pls part) ++ m.drop (pls part) := by
        have e : part.take (pls part) = m.take (pls part) := by
          rw [← hp, List.take_take, Nat.min_eq_left (by rw [hp]; omega)]
        rw [e, List.take_append_drop]
      have h5 : lr [] none l = (lr (l.take k) (some (part.take (pls part))) (m.drop (pls part))).pre [] (k + 1 + pls part) := by
        rw [h4]
        conv => lhs; rw [hsp]
        rw [lr_text _ _ (pls_plain part) (by rw [hn, List.length_take]; simp; omega), Out.pre_pre, List.length_take, Nat.min_eq_left hb]
        simp
      have hpm2 : part.length ≤ m.length := by rw [← hp, List.length_take]; omega
      by_cases e3 : k + 1 + pls part = l.length
      · simp only [if_pos e3]
        refine ⟨l, ?_, rfl⟩
        have hd0 : m.drop (pls part) = [] := List.drop_eq_nil_of_le (by omega)
        have ht0 : part.take (pls part) = m := by
          rw [hd0, List.append_nil] at hsp
          exact hsp.symm
        rw [h5, hd0, ht0]
        simp only [lr, glue, Out.pre, List.append_nil]
        rw [← hm]
        congr 1
        rw [← hd, List.take_append_drop]
      · simp only [if_neg e3]
        have hlt3 : k + 1 + pls part < l.length := by omega
        have hget : l[k + 1 + pls part]? = m[pls part]? := by rw [← hm, List.getElem?_drop]
        obtain ⟨d, hdd⟩ : ∃ d, m[pls part]? = some d := ⟨m[pls part]'(by omega), by rw [List.getElem?_eq_getElem (by omega)]⟩
        have hmd : m.drop (pls part) = d :: m.drop (pls part + 1) := by
          rw [List.drop_eq_getElem_cons (by omega)]
          congr 1
          rw [List.getElem?_eq_getElem (by omega)] at hdd
          exact Option.some.inj hdd
        rw [hget, hdd]
        have hcase : (pls part = n ∧ part.length = n) ∨ (pls part < n ∧ plainC d = false) := by
          cases hpp : plainL part with
          | true =>
            have e := pls_all hpp
            left
            have : part.length = n := by
              rw [e] at hlt3
              rw [← hp, List.length_take] at hlt3 ⊢
              omega
            omega
          | false =>
            obtain ⟨a, c', b1, b2⟩ := pls_lt hpp
            right
            refine ⟨by omega, ?_⟩
            have : part[pls part]? = m[pls part]? := by
              conv => rhs; rw [hpm]
              rw [List.getElem?_append_left a]
            rw [this, hdd] at b1
            rw [Option.some.inj b1]
            exact b2
        have htl : (part.take (pls part)).length = pls part := by rw [List.length_take, Nat.min_eq_left hb]
        by_cases e4 : d = 44
        · subst e4
          rw [if_neg (by simp)]
          rcases hcase with ⟨q1, q2⟩ | ⟨q1, q2⟩
          · refine ⟨?_, by omega, by omega⟩
            have et : part.take (pls part) = part := List.take_of_length_le (by omega)
            have es2 : stp (l.take k) (some part) 44 = some (some part, [], none) := by
              show (if part.length < digitsVal (l.take k) then _ else _) = _
              rw [if_neg (by rw [hn]; omega)]
              rfl
            have ed : m.drop (pls part + 1) = l.drop (k + 1 + n + 1) := by
              rw [← hm, List.drop_drop]
              congr 1
              omega
            rw [h5, et, hmd]
            simp only [lr, es2]
            rw [Out.pre_pre, ed]
            simp only [Option.toList, List.nil_append]
            congr 1
            omega
          · exact absurd q2 (by decide)
        · rw [if_pos (by simpa using e4)]
          refine ⟨?_, hlt3⟩
          have es2 : stp (l.take k) (some (part.take (pls part))) d = none := by
            show (if (part.take (pls part)).length < digitsVal (l.take k) then _ else if d = 44 then _ else none) = _
            rcases hcase with ⟨q1, q2⟩ | ⟨q1, q2⟩
            · rw [if_neg (by rw [hn, htl]; omega), if_neg e4]
            · rw [if_pos (by rw [hn, htl]; omega), if_neg (by rw [q2]; decide)]
          rw [h5, hmd]
          simp only [lr, es2]
          simp [Out.pre]
end Ag

end
/-! ## Kit -/
section
set_option linter.all false
set_option maxRecDepth 100000
namespace Ag
open PySem PySem.Spec PyProof.Rows L2
open SX (S S_len S_cat S_inj)
section
variable {J : It} {n : Nat} {G : Hp → Prop} {Y : Nat → Hp → V → Hp → Prop}
/-- a comprehension without tests: R stays, each item is as v says of its place -/
theorem lc_all (w : Walk J n G Y) {g : TG} {te : TE} {vs : List Nat} {σ : L2.St} {H1 : Hp} {D : Addr} {Qd : Hp → Prop} (R : Hp → Prop) (v : Nat → V → Prop) (hn : n ≤ 16000000) (r0 : R H1) (rD : ∀ H o, R H → R (upd H D o)) (hG : ∀ H, R H → G H)
    (hs : ∀ i x H H' xs (k : VK), i < n → R H → H D = some (.lst xs) → Y i H x H' → (∀ y H4, v i y → R H4 → H4 D = some (.lst xs) → k y H4) → g x (wipe σ vs) H' fun σ2 H2 => wipe σ2 vs = wipe σ vs ∧ te σ2 H2 k)
    (hd : ∀ H xs, xs.length = n → (∀ i y, xs[i]? = some y → v i y) → R H → H D = some (.lst xs) → Qd H) :
    ∃ W : Nat → Nat → Hp → Prop, (∃ m, W 0 m (upd H1 D (.lst []))) ∧ ∀ i m H, W i m H →
      (J.stop i H ∧ Qd H) ∨ (J.go i H ∧ ∃ Nx : Hp → Prop, (∀ H', Nx H' → ∃ m', m' < m ∧ W (i + 1) m' H') ∧ ∀ x H', J.yld i H x H' → g x (wipe σ vs) H' fun σ2 H2 => wipe σ2 vs = wipe σ vs ∧ tYes σ2 H2 fun b H3 =>
        if b = true then te σ2 H3 fun y H4 => ∃ acc, H4 D = some (.lst acc) ∧ acc.length < sizeLine ∧ Nx (upd H4 D (.lst (acc ++ [y]))) else Nx H3) := by
  refine lc_it (g := g) (tt := tYes) (te := te) (vs := vs) (σ := σ) w (fun i H => ∃ xs : List V, xs.length = i ∧ (∀ j y, xs[j]? = some y → v j y) ∧ R H ∧ H D = some (.lst xs)) ⟨[], rfl, fun j y h => by simp at h, rD _ _ r0, upd_same⟩ (fun i H hi p => ?_) (fun i x H H' hi p hy => ?_) (fun H p => ?_)
  · obtain ⟨xs, _, _, r, _⟩ := p
    exact hG H r
  · obtain ⟨xs, hl, hv, r, hD⟩ := p
    refine hs i x H H' xs _ hi r hD hy ?_
    rintro y H4 hvy r4 h4
    refine ⟨xs, h4, ?_, xs ++ [y], by simp [hl], fun j z hz => ?_, rD _ _ r4, upd_same⟩
    · rw [sizeLine_eq]; omega
    · rw [List.getElem?_append] at hz
      split at hz
      · exact hv j z hz
      · rename_i hj
        have e : j - xs.length = 0 := by
          cases hq : j - xs.length with
          | zero => rfl
          | succ k => rw [hq] at hz; simp at hz
        rw [e] at hz
        simp at hz
        subst hz
        have : j = i := by omega
        subst this
        exact hvy
  · obtain ⟨xs, hl, hv, r, hD⟩ := p
    exact hd H xs hl hv r hD
end
/-! ### cuts of texts -/
theorem sIx_at {n d a : Nat} (h : a ≤ n) : HT.sIx n d (some (a : Int)) = a := by rw [HT.sIx_nat, Nat.min_eq_left h]
theorem cut_S {l : List Nat} {a b : Nat} (ha : a ≤ l.length) : cutS (S l) (some (a : Int)) (some (b : Int)) = S ((l.drop a).take (b - a)) := by
  unfold cutS
  rw [S_len, sIx_at ha, HT.sIx_nat]
  congr 1
  congr 1
  by_cases hb : b ≤ l.length
  · rw [Nat.min_eq_left hb]
  · rw [Nat.min_eq_right (by omega), List.take_of_length_le (by rw [List.length_drop]; exact Nat.le_refl _), List.take_of_length_le (by rw [List.length_drop]; omega)]
theorem cut_from {l : List Nat} {a : Nat} (ha : a ≤ l.length) : cutS (S l) (some (a : Int)) none = S (l.drop a) := by
  unfold cutS
  rw [S_len, sIx_at ha, HT.sIx_none]
  congr 1
  congr 1
  rw [List.take_of_length_le (by rw [List.length_drop]; exact Nat.le_refl _)]
theorem cut_to {l : List Nat} {b : Nat} : cutS (S l) none (some (b : Int)) = S (l.take b) := by
  unfold cutS
  rw [S_len, HT.sIx_none, HT.sIx_nat, List.drop_zero, Nat.sub_zero]
  congr 1
  congr 1
  by_cases hb : b ≤ l.length
  · rw [Nat.min_eq_left hb]
  · rw [Nat.min_eq_right (by omega), List.take_of_length_le (Nat.le_refl _), List.take_of_length_le (by omega)]
end Ag

end
/-! ## Kit2 -/
section
set_option linter.all false
set_option maxRecDepth 100000
namespace Ag
open PySem PySem.Spec PyProof.Rows L2
open SX (S S_len S_cat S_inj)
/-! ### str * int -/
theorem foldl_cps (z : List Nat) (n : Nat) : (List.replicate n (S z).cps).foldl (· ++ ·) #[] = (List.replicate n z).flatten.toArray := by
  have key : ∀ (n : Nat) (acc : Array Nat), (List.replicate n (S z).cps).foldl (· ++ ·) acc = acc ++ (List.replicate n z).flatten.toArray := by
    intro n
    induction n with
    | zero => intro acc; simp
    | succ n ih =>
      intro acc
      rw [List.replicate_succ, List.foldl_cons, ih, List.replicate_succ, List.flatten_cons]
      apply Array.ext'
      simp
  rw [key n #[]]
  simp
theorem mul_S (z : List Nat) (n : Nat) : Txt.mul (S z) (n : Int) = S (List.replicate n z).flatten := by
  unfold Txt.mul
  by_cases h0 : n = 0
  · subst h0
    rfl
  · rw [if_neg (by omega)]
    split
    · rename_i h
      simp only [Bool.or_eq_true, beq_iff_eq] at h
      rcases h with h | h
      · have : n = 1 := by omega
        subst this
        simp
      · rw [S_len] at h
        have : z = [] := List.length_eq_zero_iff.mp h
        subst this
        simp
    · rw [show ((n : Int)).toNat = n by simp, foldl_cps]
theorem op_rep_str {X : Cx} : OpR X (binaryOp .Mult) (fun x y H Q => ∃ (z : List Nat) (n : Nat), x = .str (S z) ∧ y = .int (n : Int) ∧ z.length * n ≤ 16000000 ∧ n ≤ 16000000 ∧ z.length ≤ 16000000 ∧ Q (.str (S (List.replicate n z).flatten)) H) := by
  intro pins s σ H x y v u Q I rx ry h
  obtain ⟨z, n, rfl, rfl, h1, h2, h3, q⟩ := h
  obtain ⟨t, rfl⟩ := rx
  obtain ⟨t', rfl⟩ := ry
  refine SB.mul ⟨?_, fun _ _ => ?_, fun _ _ => ?_⟩ (fun a k => ?_)
  · rw [Bool.or_eq_false_iff, decide_eq_false_iff_not, decide_eq_false_iff_not]
    omega
  · rename_i a b
    have hn : (1 : Int) ≤ (n : Int) := by omega
    have : (2 ^ 63 - 1) / (n : Int) ≥ (2 ^ 63 - 1) / 16000000 := by
      rw [ge_iff_le, Int.le_ediv_iff_mul_le (by omega)]
      have e : ((2 ^ 63 - 1 : Int) / 16000000) = 576460752303 := by decide
      rw [e]
      omega
    have e : ((2 ^ 63 - 1 : Int) / 16000000) = 576460752303 := by decide
    rw [S_len]
    omega
  · rw [S_len]
    show decide (z.length * (n : Int).toNat > sizeLine) = false
    rw [decide_eq_false_iff_not, sizeLine_eq, show ((n : Int)).toNat = n by simp]
    omega
  · rw [mul_S]
    exact ⟨.str _, H, I.tok _, ⟨_, rfl⟩, q⟩
/-! ### for i, c in enumerate(text) -/
def Ites (x : Str) : It :=
  ⟨fun i _ => i < x.cps.size, fun i H v H' => ∃ T c, v = .ref T ∧ H T = none ∧ H' = upd H T (.tup [.int (i : Nat), .str ⟨#[c]⟩]) ∧ x.cps[i]? = some c, fun i _ => i = x.cps.size⟩
theorem walk_enumS {x : Str} : Walk (Ites x) x.cps.size (fun _ => True) (fun i H v H' => ∃ T c, v = .ref T ∧ H T = none ∧ H' = upd H T (.tup [.int (i : Nat), .str ⟨#[c]⟩]) ∧ x.cps[i]? = some c) :=
  ⟨fun _ _ h _ => h, fun _ _ => rfl, fun _ _ _ _ _ _ z => z⟩
theorem draws_str {P : Program} {w : World} {A : Around} (hh : A.handled = none) (it : Addr) (x : Str) (t : Tok) {ty : String} (hty : ty = "str_ascii_iterator" ∨ ty = "str_iterator") :
    Draws P w A it [it] x.cps.size (fun i v => ∃ c u, x.cps[i]? = some c ∧ v = .str ⟨#[c]⟩ u) (fun i h => h.IsStrIter it ty x t i) := by
  rcases hty with rfl | rfl
  · exact Draws.strAscii hh it x t
  · exact Draws.strWide hh it x t
theorem turn_enumS {P : Program} {w : World} {K : PySem.W.Frag} {elts : List Expr} {kk : Nat} {tpos : Pos} (x : Str) (t : Tok) (ty : String) (hty : ty = "str_ascii_iterator" ∨ ty = "str_iterator") (e it : Addr) :
    Turn P w K (.Tuple elts kk tpos) (Ites x) [e, it] e (fun i h => (∃ old, IsEnum h e it ((i : Nat) : Int) old) ∧ h.IsStrIter it ty x t i ∧ e ≠ it) where
  mem := List.mem_cons_self
  obj := by
    rintro i h ⟨⟨old, he⟩, ⟨o, ho, hc, hd⟩, _⟩ b hb
    rcases List.mem_cons.mp hb with rfl | hb
    · exact ⟨_, he, fun v q => by cases q⟩
    · obtain rfl := List.mem_singleton.mp hb
      exact ⟨o, ho, fun v q => by rw [hd] at q; cases q⟩
  keep := by
    rintro i h h' ⟨⟨old, he⟩, ⟨o, ho, r⟩, hne⟩ k
    exact ⟨⟨old, k e List.mem_cons_self _ he⟩, ⟨o, k it (List.mem_cons_of_mem _ List.mem_cons_self) o ho, r⟩, hne⟩
  item := by
    intro X hP hw hK hc i pins s σ H E I hf st hg
    subst hP hw hK
    obtain ⟨⟨old, he⟩, hit, hne⟩ := st
    have hel : e < s.heap.objs.size := Heap.lt_size he
    have hil : it < s.heap.objs.size := by obtain ⟨_, q, _⟩ := hit; exact Heap.lt_size q
    have D := draws_str (P := X.prog) (w := X.w) (A := X.A.in1) (I.ok.hd hc) it x t hty
    refine wpAny_pyNext_enum_itemD D he hit hg hne (fun z => hne (List.mem_singleton.mp z)) ?_
    rintro v h' tk ⟨c, u, hcx, rfl⟩ ho hit' hT hsz hk
    refine ⟨_, rfl, wpAny_letOwnedTupleGo_enum (s := { s with heap := h', toks := tk + 1 }) ho ?_⟩
    intro h'' he' sb
    have hT2 : h''.get? s.heap.objs.size = some { cls := .type "tuple", data := .seq #[.int i tk, .str ⟨#[c]⟩ u] } := (sb.2 _ (Nat.ne_of_gt hel)).trans hT
    have ok : ObjOk X.prog X.w (upd H s.heap.objs.size (.tup [.int (i : Nat), .str ⟨#[c]⟩])) h'' s.heap.objs.size (.tup [.int (i : Nat), .str ⟨#[c]⟩]) :=
      ⟨by show 2 ≤ sizeLine; decide, [.int i tk, .str ⟨#[c]⟩ u], .cons ⟨_, rfl⟩ (.cons ⟨_, rfl⟩ .nil), ⟨_, hT2, rfl, _, rfl⟩⟩
    have I1 : Inv X pins σ (upd H s.heap.objs.size (.tup [.int (i : Nat), .str ⟨#[c]⟩])) { s with heap := h'', toks := tk + 1 } :=
      I.turnedNew (ch := [e, it]) (fun b ob hb q => (sb.2 b (fun z => hb (by rw [z]; exact List.mem_cons_self))).trans (hk b ob (fun z => hb (by rw [z]; exact List.mem_cons_self)) (fun z => hb (by rw [z]; exact List.mem_cons_of_mem _ List.mem_cons_self)) q)) hf (Nat.le_refl _) ok
    have e1 : ((i + 1 : Nat) : Int) = (i : Int) + 1 := by omega
    have hit2 : h''.IsStrIter it ty x t (i + 1) := by
      obtain ⟨o, q1, q2⟩ := hit'
      exact ⟨o, (sb.2 it hne.symm).trans q1, q2⟩
    refine ⟨.ref s.heap.objs.size, _, I1, rfl, ⟨_, c, rfl, I.hok.fresh (Nat.le_refl _), rfl, hcx⟩, ⟨⟨_, by rw [e1]; exact he'⟩, hit2, hne⟩, fun b hb => ?_⟩
    have hb' : b < s.heap.objs.size := by
      rcases List.mem_cons.mp hb with rfl | z
      · exact hel
      · rw [List.mem_singleton.mp z]
        exact hil
    rw [upd_ne (Nat.ne_of_lt hb')]
    exact (hf b hb).1
  done := by
    intro X hP hw hK hc i pins s σ H E I hf st hg
    subst hP hw hK
    obtain ⟨⟨old, he⟩, hit, hne⟩ := st
    obtain ⟨f0, f1, f2, f3, f4, f5⟩ := hf it (List.mem_cons_of_mem _ List.mem_cons_self)
    obtain rfl : i = x.cps.size := hg
    have D := draws_str (P := X.prog) (w := X.w) (A := X.A.in1) (I.ok.hd hc) it x t hty
    exact wpAny_pyNext_enum_endD D he hit fun h' eb => ⟨rfl, I.turned (t' := s.toks) (fun b o hb q => eb b o hb q) f0 f1 f3 f4 f5⟩
  self := fun A i s Q E st h => st.1.elim fun _ z => wpAny_pyIter_enum z h
def iEnumS (ta : TA) : TI := fun σ H R => ta σ H fun vs H1 => ∃ x, vs = [.str x] ∧ R (Ites x) H1
theorem pi_enumS {X : Cx} {e : Expr} {ta : TA} {p pos tpos : Pos} {elts : List Expr} {kk : Nat} (hg : Gl X "enumerate") (hm : X.mg "enumerate" = none) (ha : PA X [e] ta) (hs : starEach [e] X.env = [(false, eval e X.env)] := by rfl) :
    PI X (.Tuple elts kk tpos) (.Call (.Name "enumerate" p) [e] [] pos) (iEnumS ta) := by
  constructor
  intro pins s σ H R I h
  refine Call_ (ld_blt I hg hm boot_enumerate (PyProof.Rows.callWith_type1 (thn (ha.run pos pins s σ H _ I h) ?_) hs rfl))
  rintro us s1 ⟨vs, H1, I1, r1, x, rfl, q⟩
  obtain ⟨u, rfl, t, rfl⟩ := vals1 r1
  refine call_enumerate_str fun h' he hit hsz hk => wpAny_pyIter_enum he ?_
  have I2 : Inv X pins σ H1 { s1 with heap := h' } := I1.kept (t' := s1.toks) hk
  have hty : strIterType x = "str_ascii_iterator" ∨ strIterType x = "str_iterator" := by
    unfold strIterType
    split
    · exact .inl rfl
    · exact .inr rfl
  refine ⟨s1.heap.objs.size + 1, [s1.heap.objs.size + 1, s1.heap.objs.size], _, _, H1, rfl, I2, turn_enumS x t _ hty (s1.heap.objs.size + 1) s1.heap.objs.size, ⟨⟨.none, he⟩, hit, Nat.succ_ne_self _⟩, ?_, q⟩
  intro b hb
  have hle : s1.heap.objs.size ≤ b := by
    rcases List.mem_cons.mp hb with rfl | z
    · exact Nat.le_succ _
    · rw [List.mem_singleton.mp z]
      exact Nat.le_refl _
  exact I1.fpOk hle (I1.hok.fresh hle)
/-- a target of two names, where a comprehension's block runs -/
theorem pg_two {X : Cx} (K : PySem.W.Frag) {i j : Nat} {x y : Str} {px py pt : Pos} {k : Nat} (hc : X.calm = true) (hN : X.N.Nodup) (hi : X.N[i]? = some x) (hj : X.N[j]? = some y) (hx : X.env.scope.names.lookup x = some .local) (hy : X.env.scope.names.lookup y = some .local) (hK : X.K = K) :
    PG X (.Tuple [.Name x px, .Name y py] k pt) (gTup K 2 (gCons (gName i) (gCons (gName j) gNil))) := by
  subst hK
  exact pg_tup hc (pgs_cons (pg_name hN hi (.inl hx) (.inr hx)) (pgs_cons (pg_name hN hj (.inl hy) (.inr hy)) pgs_nil))
end Ag

end
/-! ## Kit3 -/
section
set_option linter.all false
set_option maxRecDepth 100000
namespace Ag
open PySem PySem.Spec PyProof.Rows L2
open SX (S S_len S_cat S_inj)
def chars (z : List Nat) : List V := z.map fun c => V.str (S [c])
theorem call_list_S {X : Cx} (hc : X.calm = true) : CallR X (.type "list") (fun xs H Q => ∃ z : List Nat, xs = [.str (S z)] ∧ z.length ≤ 16000000 ∧ ∀ l, H l = none → Q (.ref l) (upd H l (.lst (chars z)))) := by
  intro pins s σ H xs us Q I r h
  obtain ⟨z, rfl, hz, q⟩ := h
  obtain ⟨u, rfl, t, rfl⟩ := vals1 r
  have hsz : (S z).cps.size = z.length := by simp
  refine PySem.call_list_str (I.ok.hd hc) (S z) t (fun h' tk acc c' kp e ha => ?_) (by rw [hsz, sizeLine_eq]; omega)
  have rv : Vals (chars z) acc.toList := by
    refine L2.vals_of_at ?_ ?_
    · have e1 := ha.1
      rw [hsz] at e1
      unfold chars
      rw [List.length_map, Array.length_toList]
      exact e1.symm
    · intro j x u hx hu
      obtain ⟨c, tk', hc', rfl⟩ := ha.2 j u (by simpa using hu)
      unfold chars at hx
      rw [List.getElem?_map] at hx
      have : z[j]? = some c := by simpa using hc'
      rw [this] at hx
      cases hx
      exact ⟨_, rfl⟩
  refine ⟨.ref s.heap.objs.size, upd H s.heap.objs.size (.lst (chars z)), I.laid kp (Nat.le_refl _) ⟨?_, acc.toList, c', rv, ?_⟩, rfl, q _ (I.hok.fresh (Nat.le_refl _))⟩
  · unfold chars
    rw [List.length_map, sizeLine_eq]
    omega
  · simpa using e
end Ag

end
/-! ## End0 -/
section
set_option linter.all false
set_option maxRecDepth 100000
namespace Ag
open PySem PySem.Spec PyProof.Rows L2
/-! ### the end of a law's row, over FnG -/
/-- the heap at the law's entry: the script alone is known -/
def hScr (K : PySem.W.Frag) (a : Addr) (o : Obj) (xs : List V) : Hp := fun b => if b = a ∧ K.lookup a = none then some (.frz o (.lst xs)) else none
theorem hScr_at {K : PySem.W.Frag} {a b : Addr} {o : Obj} {xs : List V} {u : HO} (h : hScr K a o xs b = some u) : b = a ∧ K.lookup a = none ∧ u = .frz o (.lst xs) := by
  unfold hScr at h
  split at h
  · rename_i c
    exact ⟨c.1, c.2, (Option.some.inj h).symm⟩
  · cases h
theorem hScr_only {K : PySem.W.Frag} {a b : Addr} {o : Obj} {xs : List V} : hScr K a o xs b = none ∨ hScr K a o xs b = some (.frz o (.lst xs)) := by
  cases h : hScr K a o xs b with
  | none => exact .inl rfl
  | some u => exact .inr (by rw [(hScr_at h).2.2])
theorem lawG {P : Program} {w : World} {K : PySem.W.Frag} {mg mb : Str → Option Value} {k : Nat} {fa a : Addr} {fd : FuncData} {x : Str} {sp : Sp} {s₁ : Shared} {vs : List Value} {ns : List Int}
    (KX : K.In s₁.heap) (hns : s₁.heap.Ns mainGlobals mg) (hb : s₁.heap.Ns builtinsNs mb) (hbb : ∀ x : Str, x ≠ "__name__" → mb x = bootBuiltins x) (hlim : s₁.heap.NoLimit) (gens : s₁.gens = #[])
    (ha : s₁.heap.get? a = some { cls := .type "list", data := .seq vs.toArray }) (hi : IntsAre vs ns) (hl : ns.length ≤ sizeLine) (hr : Room k callerA)
    (F : ∀ base : Heap, K.In base → base.Ns mainGlobals mg → FnG P w K mg base k fa fd [x] sp) (hbind : ∀ (s : Shared) (u : Value), BindsTo s fd ⟨[u], []⟩ [(x, u)])
    (hsp : ∀ H : Hp, SqL K H a (ns.map V.int) → sp [.ref a] H (fun v _ => v = .bl true) E0) :
    codeAny (model P w) callerA (.call (.ref fa) ⟨[.ref a], []⟩) (fun r s' => r = .ok (.ret (.bool true)) ∧ OldK s₁.heap s'.heap ∧ s'.os = s₁.os ∧ AllBare s'.gens) s₁ := by
  generalize hH : hScr K a { cls := .type "list", data := .seq vs.toArray } (ns.map V.int) = H
  have at_ : ∀ {b u}, H b = some u → b = a ∧ K.lookup a = none ∧ u = .frz { cls := .type "list", data := .seq vs.toArray } (.lst (ns.map V.int)) := fun h => hScr_at (by rw [hH]; exact h)
  have rv : Vals (ns.map V.int) vs := vals_ints hi
  have hok : HOk P w H s₁.heap := fun b u e => by
    obtain ⟨rfl, _, rfl⟩ := at_ e
    exact ⟨ha, by rw [List.length_map]; exact hl, vs, _, rv, ha⟩
  have sq : SqL K H a (ns.map V.int) := by
    cases hk : K.lookup a with
    | some o =>
      have e := KX a o hk
      rw [ha] at e
      cases e
      exact .inr ⟨_, vs.toArray, _, hk, rfl, rfl, rfl, by rw [List.size_toArray, hi.length]; exact hl, by simpa using rv⟩
    | none => exact .inl (.inr ⟨_, by rw [← hH]; exact if_pos ⟨rfl, hk⟩⟩)
  have keepB : ∀ {b : Addr} {o : Obj}, s₁.heap.get? b = some o → H b = none → (hidT s₁.heap H).get? b = some o := fun e n => hidT_get e n
  have dicts : ∀ {b : Addr} {o : Obj} {es : Array DictEntry} {ep : Nat}, s₁.heap.get? b = some o → o.data = .dict es ep → H b = none := by
    intro b o es ep e d
    cases q : H b with
    | none => rfl
    | some u =>
      obtain ⟨rfl, _, _⟩ := at_ q
      rw [ha] at e
      cases e
      cases d
  have nsB : ∀ {b : Addr} {m : Str → Option Value}, s₁.heap.Ns b m → (hidT s₁.heap H).Ns b m := by
    rintro b m ⟨o, es, ep, e, d, r⟩
    exact ⟨o, es, ep, keepB e (dicts e d), d, r⟩
  have kinB : K.In (hidT s₁.heap H) := by
    intro b o e
    refine keepB (KX b o e) ?_
    cases q : H b with
    | none => rfl
    | some u =>
      obtain ⟨rfl, n, _⟩ := at_ q
      rw [n] at e
      cases e
  have modB : Mod K mg (hidT s₁.heap H) := ⟨kinB, nsB hns, ⟨mb, nsB hb, hbb⟩, hlim.elim fun mc z => ⟨mc, nsB z.1, z.2⟩⟩
  have env : Env0 P w K mg (hidT s₁.heap H) callerA [] s₁ H :=
    ⟨rfl, modB, fun _ _ e => of_hidT e, Nat.le_of_eq (hidT_size s₁.heap H), trivial, (fun b z => by cases z), hok, .of_eq gens⟩
  refine codeAny_mono ((F _ kinB (nsB hns)).run callerA [] s₁ H ⟨[.ref a], []⟩ [.ref a] [.ref a] _ _ hr rfl env (hbind s₁ (.ref a)) (.cons rfl .nil) (hsp H sq)) ?_
  intro r s' h
  match r, h with
  | .error e, h => exact h.elim
  | .ok (.ret u), h =>
    obtain ⟨v, H', os, bare, un, hok', r', rfl⟩ := h
    obtain rfl : u = Value.bool true := r'
    refine ⟨rfl, OldK.of_keep fun b o e => ?_, os, bare⟩
    cases q : H b with
    | none => exact un.keep b o e q (fun z => by cases z) (fun z => by cases z)
    | some u =>
      obtain ⟨rfl, _, rfl⟩ := at_ q
      have e1 := (hok b _ q).1
      have e2 := (hok' b _ (un.frzs b _ _ q)).1
      rw [e] at e1
      rw [Option.some.inj e1]
      exact e2
theorem walkG {l : PySem.W.OpenLaw} {n k : Nat} {q : Program} {loose : List Str} {XP : (Str → Option Value) → Heap → Prop} {YP : World → Heap → Prop} {d : DefRec} {K : Params → PySem.W.Frag} {sp : PySem.W.Frag → Sp} {x : Str}
    (hn : l.most = some n) (hn2 : n ≤ sizeLine) (hdf : d.params.defaults = []) (hr : Room k callerA) (hY : ∀ (w : World) (h : Heap), YP w h → (K w.params).In h)
    (F : ∀ (w : World) (mg : Str → Option Value) (fa : Addr) (h : Heap), (K w.params).In h → h.Ns mainGlobals mg → mg d.name = some (.ref fa) →
      ∃ fd : FuncData, (∀ (s : Shared) (u : Value), BindsTo s fd ⟨[u], []⟩ [(x, u)]) ∧ ∀ base : Heap, (K w.params).In base → base.Ns mainGlobals mg → FnG l.prog w (K w.params) mg base k fa fd [x] (sp (K w.params)))
    (hsp : ∀ (K : PySem.W.Frag) (H : Hp) (a : Addr) (ns : List Int), ns.length ≤ n → SqL K H a (ns.map V.int) → sp K [.ref a] H (fun v _ => v = .bl true) E0) :
    PySem.W.WalkO q loose XP YP l.row.toRowW d [] (fun f vs => PySem.call f vs) := by
  refine Att.attach_call hn hdf ?_
  intro w s₀ s₁ mg mb fa o pm cd doc a vs ns G Y ho hd hcd hmg hobj hints hlen hg
  obtain ⟨fd, hb, hF⟩ := F w mg fa _ (hY w _ Y) G.T.g hmg
  exact lawG (hY w _ Y) G.T.g G.T.b G.T.builtins G.T.nolimit hg hobj hints (Nat.le_trans hlen hn2) hr hF hb (fun H sq => hsp _ H a ns hlen sq)
end Ag

end
/-! ## Sel -/
section
set_option linter.all false
set_option maxRecDepth 100000
namespace Ag
open PySem PySem.Spec PyProof.Rows L2
/-- a comprehension with a pure test and a pure value at each place, under which things may be made -/
theorem lc_sel {J : It} {n : Nat} {G : Hp → Prop} {Y : Nat → Hp → V → Hp → Prop} (w : Walk J n G Y) {g : TG} {tt : TT} {te : TE} {vs : List Nat} {σ : L2.St} {H1 : Hp} {D : Addr} {Qd : Hp → Prop}
    (t : Nat → Bool) (e : Nat → V) (hn : n ≤ 16000000) (hD : H1 D = none) (hG : ∀ H, Same H1 H → G H)
    (hs : ∀ i x H H' (k : VK) (k0 : Hp → Prop), i < n → Same H1 H → Y i H x H' → (t i = true → ∀ H4, Same H H4 → k (e i) H4) → (t i = false → ∀ H4, Same H H4 → k0 H4) →
      g x (wipe σ vs) H' fun σ2 H2 => wipe σ2 vs = wipe σ vs ∧ tt σ2 H2 fun b H3 => if b = true then te σ2 H3 k else k0 H3)
    (hd : ∀ H, Same H1 H → H D = some (.lst (((List.range n).filter t).map e)) → Qd H) :
    ∃ W : Nat → Nat → Hp → Prop, (∃ m, W 0 m (upd H1 D (.lst []))) ∧ ∀ i m H, W i m H →
      (J.stop i H ∧ Qd H) ∨ (J.go i H ∧ ∃ Nx : Hp → Prop, (∀ H', Nx H' → ∃ m', m' < m ∧ W (i + 1) m' H') ∧ ∀ x H', J.yld i H x H' → g x (wipe σ vs) H' fun σ2 H2 => wipe σ2 vs = wipe σ vs ∧ tt σ2 H2 fun b H3 =>
        if b = true then te σ2 H3 fun y H4 => ∃ acc, H4 D = some (.lst acc) ∧ acc.length < sizeLine ∧ Nx (upd H4 D (.lst (acc ++ [y]))) else Nx H3) := by
  have put : ∀ (H : Hp) (o : HO), Same H1 H → Same H1 (upd H D o) := fun H o s b u eb => by
    rw [upd_ne (ne_of_none eb hD)]
    exact s b u eb
  have step : ∀ i, (List.range (i + 1)).filter t = (List.range i).filter t ++ (if t i = true then [i] else []) := fun i => by
    rw [List.range_succ, List.filter_append]
    cases h : t i <;> simp [h]
  refine lc_it (g := g) (tt := tt) (te := te) (vs := vs) (σ := σ) w (fun i H => Same H1 H ∧ H D = some (.lst (((List.range i).filter t).map e))) ⟨put _ _ (Same.refl _), by simpa using upd_same⟩ (fun i H _ h => hG H h.1) (fun i x H H' hi h hy => ?_) (fun H h => hd H h.1 h.2)
  obtain ⟨s1, h1⟩ := h
  have hl : (((List.range i).filter t).map e).length ≤ i := by
    rw [List.length_map]
    exact Nat.le_trans (List.length_filter_le _ _) (by rw [List.length_range]; exact Nat.le_refl _)
  refine hs i x H H' _ _ hi s1 hy (fun ht H4 s4 => ?_) (fun ht H4 s4 => ?_)
  · refine ⟨_, s4 _ _ h1, by rw [sizeLine_eq]; omega, put _ _ (s1.trans s4), ?_⟩
    rw [upd_same, step, if_pos ht, List.map_append]
    rfl
  · refine ⟨s1.trans s4, ?_⟩
    rw [step, if_neg (by rw [ht]; decide), List.append_nil]
    exact s4 _ _ h1
/-- len of a list or a tuple, where a comprehension's block runs -/
def rLenK (K : PySem.W.Frag) : List V → Hp → VK → Prop := fun xs H Q => ∃ p ys, xs = [.ref p] ∧ (SqL K H p ys ∨ SqT K H p ys) ∧ Q (.int ys.length) H
theorem call_lenK {X : Cx} (K : PySem.W.Frag) (hK : X.K = K) : CallR X (.builtin "len") (rLenK K) := by
  subst hK
  exact call_len_seq
theorem filt_all {n : Nat} (e : Nat → V) : ((List.range n).filter fun _ => true).map e = (List.range n).map e := by rw [List.filter_eq_self.mpr fun _ _ => rfl]
/-- bools by place -/
theorem bls_map {n : Nat} (b : Nat → Bool) : (List.range n).map (fun i => V.bl (b i)) = ((List.range n).map b).map V.bl := by rw [List.map_map]; rfl
theorem all_at {α : Type} (l : List α) (t : α → Bool) (d : α) : ((List.range l.length).map fun i => t (l.getD i d)).all id = l.all t := by
  induction l with
  | nil => rfl
  | cons a l ih =>
    rw [List.length_cons, List.range_succ_eq_map, List.map_cons, List.all_cons, List.map_map, List.all_cons, ← ih]
    rfl
theorem none_at {α : Type} (l : List α) (t : α → Bool) (d : α) : decide (((List.range l.length).filter fun i => !t (l.getD i d)) = []) = l.all t := by
  rw [Bool.eq_iff_iff, decide_eq_true_eq, List.filter_eq_nil_iff, List.all_eq_true]
  constructor
  · intro h a ha
    obtain ⟨i, hi, rfl⟩ := List.mem_iff_getElem.mp ha
    have := h i (List.mem_range.mpr hi)
    rw [List.getD_eq_getElem?_getD, List.getElem?_eq_getElem hi] at this
    simpa using this
  · intro h i hi
    have hi := List.mem_range.mp hi
    rw [List.getD_eq_getElem?_getD, List.getElem?_eq_getElem hi]
    simpa using h _ (List.getElem_mem hi)
theorem eqv_map_nil {α : Type} (l : List α) (e : α → PyData) : PyData.eqv (.list (l.map e)) (.list []) = decide (l = []) := by
  cases l <;> simp [PyData.eqv, PyData.eqvAll]
theorem dp_const {K : PySem.W.Frag} {H : Hp} {α : Type} : ∀ l : List α, DpAll K H (l.map fun _ => V.int 1) (l.map fun _ => PyData.int 1)
  | [] => .nil
  | _ :: l => .cons (.int 1) (dp_const l)
end Ag

end
/-! ## SetS -/
section
set_option linter.all false
set_option maxRecDepth 100000
namespace Ag
open PySem PySem.Spec PyProof.Rows L2
/-! ### set(xs) of a list of unlike texts, its length -/
section
variable {P : Program} {w : World} {A : Around}
/-- the first i of the texts are in the set -/
abbrev InS (P : Program) (w : World) (h : Heap) (S : Addr) (ks : List Str) (i : Nat) : Prop := h.SetOf (strKind P w) S (fun k => decide (k ∈ ks.take i)) i
theorem InS.at_ {h h' : Heap} {S : Addr} {ks : List Str} {i : Nat} (q : InS P w h S ks i) (k : ∀ o, h.get? S = some o → h'.get? S = some o) : InS P w h' S ks i := by
  obtain ⟨o, es, ep, tb, ho, r⟩ := q
  exact ⟨o, es, ep, tb, k o ho, r⟩
theorem fill {I S : Addr} {fp wr : List Addr} {G : Array GenState → Array GenState → Prop} {n : Nat} {Pv : Nat → Value → Prop} {St : Nat → Shared → Prop} {R : Result → Shared → Prop} {ks : List Str}
    (W : WalksS P w A.in1 I fp wr G n Pv St) (nS : S ∉ fp) (hn : ks.length = n) (hb : n + 1 < scanBound) (nd : ks.Nodup) (hv : ∀ i v, Pv i v → ∃ k t, ks[i]? = some k ∧ v = .str k t) (m : Nat) :
    ∀ (i : Nat) (s : Shared), i + m = n → St i s → InS P w s.heap S ks i → (∀ s', Moved (S :: wr) G s s' → InS P w s'.heap S ks n → R (.ok (.ret .none)) s') → codeAny (model P w) A (.builtin "set.update.loop" ⟨[.ref S, .ref I], []⟩) R s := by
  have nW : S ∉ wr := fun z => nS (W.sub _ z)
  have more : ∀ b ∈ wr, b ∈ S :: wr := fun b z => List.mem_cons_of_mem _ z
  induction m with
  | zero =>
    rintro i s rfl st q fin
    refine codeAny_builtin F.entry_set_update_loop (by
      rw [Around.under_plainId F.plain_set_update_loop _]
      exact show wpAny _ A.in1 (pyNext (.ref I) >>= _) _ _ s from wpAny_bind (W.done s _ _ st fun s' mv => show wpAny _ A.in1 (ret Value.none) _ _ s' from wpAny_pure (fin s' (mv.mono more) (q.at_ fun o e => mv.heap S o nW e))))
  | succ m ih =>
    rintro i s hi st q fin
    have lt : i < n := by omega
    refine codeAny_builtin F.entry_set_update_loop ?_
    rw [Around.under_plainId F.plain_set_update_loop _]
    refine show wpAny _ A.in1 (pyNext (.ref I) >>= _) _ _ s from wpAny_bind (W.item i s _ _ lt st fun v s1 pv st1 mv => ?_)
    obtain ⟨k, t, hk, rfl⟩ := hv i v pv
    have new : k ∉ ks.take i := by
      intro z
      obtain ⟨j, hj, e⟩ := List.mem_iff_getElem.mp z
      rw [List.length_take] at hj
      rw [List.getElem_take] at e
      have e2 : ks[j]? = ks[i]? := by rw [hk, List.getElem?_eq_getElem (by omega), e]
      have := (List.getElem?_inj (by omega) nd).mp e2
      omega
    have q1 := q.at_ fun o e => mv.heap S o nW e
    refine show wpAny _ A.in1 (holding [Value.str k t] (setAdd S (.str k t)) >>= _) _ _ s1 from wpAny_bind (wpAny_holding ?_)
    unfold setAdd
    refine wpAny_holding (wpAny_bind ((strKind P w).pyHash (k := k) (strKind_is _ _ _ _) (wpAny_setAddHashed_of (knd := strKind P w) (s := { s1 with toks := s1.toks + 1 }) (strKind_is _ _ _ _) rfl q1 (by omega) fun h' but q2 => ?_)))
    rw [show decide (k ∈ ks.take i) = false from decide_eq_false new] at q2
    have q3 : InS P w h' S ks (i + 1) := SetOf_congr q2 (fun j => by
      rw [List.take_add_one, hk]
      simp [List.mem_append]) rfl
    have out : ∀ b o, b ≠ S → s1.heap.get? b = some o → h'.get? b = some o := fun b o z e => (but.2 b z).trans e
    refine wpAny_pure ⟨plainId_quiet F.plain_set_update_loop _, ih (i + 1) _ (by omega) (W.frame _ s1 _ _ st1 (Nat.le_succ _) fun b z o e => out b o (fun y => nS (y ▸ z)) e) q3 fun s2 mv2 q4 => ?_⟩
    exact fin s2 (Moved.trans W.gtrans ((mv.mono more).then_heap (Nat.le_succ _) fun b o z e => out b o (fun y => z (y ▸ List.mem_cons_self)) e) mv2) q4
end
theorem txt_at : ∀ {vs : List Value} {ks : List Str}, StrsAre vs ks → ∀ (i : Nat) (v : Value), vs[i]? = some v → ∃ k t, ks[i]? = some k ∧ v = .str k t
  | _, _, .nil, i, v, e => by simp at e
  | _, _, .cons x t r, 0, v, e => ⟨x, t, rfl, (Option.some.inj e).symm⟩
  | _, _, .cons x t r, i + 1, v, e => txt_at r i v e
section
variable {P : Program} {w : World} {A : Around} {E : Value → Shared → Prop} {s : Shared}
/-- a set's object as it is made -/
abbrev nilSet (w : World) : Obj := { cls := .type "set", dict := none, data := .set #[] 0 (.fresh 0 0 (!w.params.followText "set-order")) }
set_option maxHeartbeats 3200000 in
theorem set_txt {l : Addr} {its : Array Value} (ks : List Str) {Q : Value → Shared → Prop} (hh : A.handled = none) (hl : s.heap.IsList l its) (hit : StrsAre its.toList ks) (hb : ks.length + 1 < scanBound) (nd : ks.Nodup)
    (fin : ∀ (h' : Heap) (tk : Nat), InS P w h' s.heap.objs.size ks ks.length → (∀ b o, s.heap.get? b = some o → h'.get? b = some o) → Q (.ref s.heap.objs.size) { s with heap := h', toks := tk }) :
    wpAny (model P w) A (call (.type "set") [.ref l]) Q E s := by
  have esz : its.size = ks.length := by
    have q := StrsAre.len_eq hit
    rwa [Array.length_toList] at q
  obtain ⟨cc, tl, m0⟩ := F.called_set.mro
  have m1 := F.called_set.made
  have m2 := F.called_set.sub
  refine wpAny_call (codeAny_of_tree (show wpAny _ _ (callAny (.type "set") _) _ _ _ from wpAny_pure ⟨Code.quiet_builtin _ (by decide +kernel), codeAny_builtin F.entry_type_call ?_⟩))
  rw [Around.under_plain (weight_type_call_type "set" [.ref l] []) rfl]
  have m3 := F.called_set.notType
  have m4 := F.called_set.canCreate
  have m5 := F.typeCall_set_1 (.ref l)
  repeat (any_goals (first | assumption | wp_step))
  refine codeAny_mono (code_set_led1 (.ref l) (E := E) (Q₁ := fun ob s1 => ob = .ref s.heap.objs.size ∧ s1 = { s with heap := s.heap.push (nilSet w) }) ⟨rfl, rfl⟩) fun r s1 hr => ?_
  match r, hr with
  | .error e, hr => exact hr
  | .ok .next, hr => exact hr.elim
  | .ok .brk, hr => exact hr.elim
  | .ok .cont, hr => exact hr.elim
  | .ok (.ret ob), hr =>
    obtain ⟨rfl, rfl⟩ := hr
    have g1 : (s.heap.push (nilSet w)).get? s.heap.objs.size = some (nilSet w) := Heap.get?_push_size _ rfl
    have g2 : Shared.TypeIs { s with heap := s.heap.push (nilSet w) } (.ref s.heap.objs.size) "set" := ⟨_, g1, rfl⟩
    have m6 := F.called_set.init.lookup
    have m7 := F.called_set.init.bind (.ref s.heap.objs.size)
    repeat (any_goals (first | assumption | wp_step))
    refine codeAny_mono (codeAny_call_builtin (R := wants (fun r s2 => r = .none ∧ ∃ h' tk, s2 = { s with heap := h', toks := tk } ∧ InS P w h' s.heap.objs.size ks ks.length ∧
        (∀ b o, s.heap.get? b = some o → h'.get? b = some o)) E) F.called_set.init.plain F.entry_set_init (check_set_init_1 g2 ?_)) fun r2 s2 hr2 => ?_
    · obtain ⟨ol, e1, e2, nl, e3⟩ := hl
      obtain ⟨k1, k2, k3, k4⟩ := ol
      simp only at e2 e3
      subst e2 e3
      have g3 : (s.heap.push (nilSet w)).get? l = some { cls := .type "list", dict := k2, data := .seq its nl, slots := k4 } := Heap.get?_push_of_some _ e1
      have m8 := F.sub_list_set
      have m9 := F.sub_list_frozenset
      have ma : (Value.type "list" == Value.type "dict") = false := by decide
      have hl1 : (s.heap.push (nilSet w)).IsList l its := ⟨_, g3, rfl, nl, rfl⟩
      unfold Builtin.«set.__init__» noKeywords Builtin.Frozenset.updateFrom
      generalize hPI : pyIter = PI
      wp_walk
      subst hPI
      refine wpAny_pyIter_list hl1 (wpAny_bind (wpAny_runValue ?_))
      have lt := Heap.lt_size e1
      have hh3 : A.in1.in1.in1.handled = none := by simp [hh]
      have nI : l ≠ (s.heap.push (nilSet w)).objs.size := by
        rw [Heap.size_push]
        exact Nat.ne_of_lt (Nat.lt_succ_of_lt lt)
      have nS : s.heap.objs.size ∉ [(s.heap.push (nilSet w)).objs.size, l] := by
        rw [Heap.size_push]
        intro z
        rcases List.mem_cons.mp z with z | z
        · exact Nat.ne_of_lt (Nat.lt_succ_self _) z
        · exact Nat.ne_of_gt lt (List.mem_singleton.mp z)
      have vals : ∀ (i : Nat) (v : Value), its[i]? = some v → ∃ k t, ks[i]? = some k ∧ v = .str k t := fun i v hv => txt_at hit i v (by rw [Array.getElem?_toList]; exact hv)
      refine fill ((Walks.list hh3 _ l nI its).toS) nS esz.symm (by omega) nd vals its.size 0 _ (by omega) ⟨⟨_, Heap.get?_push_size _ rfl, rfl, rfl⟩, (hl1.push _)⟩ ?_ ?_
      · exact SetOf_congr ((setObjOf_fresh (knd := strKind P w) _).setOf (Heap.get?_push_of_some _ g1) (by unfold scanBound; omega)) (fun _ => rfl) rfl
      · intro s' hm hS'
        obtain ⟨h', q1, q2, tk', q3⟩ := s'
        obtain rfl : q1 = s.gens := hm.gens
        obtain rfl : q2 = s.drawn := hm.drawn
        obtain rfl : q3 = s.os := hm.os
        rw [esz] at hS'
        refine show wpAny _ _ _ _ _ _ from wpAny_pure (show wpAny _ _ (ret Value.none) _ _ _ from wpAny_pure ⟨rfl, h', tk', rfl, hS', fun b o e => ?_⟩)
        have b0 : b < s.heap.objs.size := Heap.lt_size e
        refine hm.heap b o ?_ (Heap.get?_push_of_some _ (Heap.get?_push_of_some _ e))
        rw [Heap.size_push]
        intro z
        rcases List.mem_cons.mp z with z | z
        · exact Nat.ne_of_lt b0 z
        · exact Nat.ne_of_lt (Nat.lt_succ_of_lt b0) (List.mem_singleton.mp z)
    · match r2, hr2 with
      | .error e, hr2 => exact hr2
      | .ok .next, hr2 => exact hr2.elim
      | .ok .brk, hr2 => exact hr2.elim
      | .ok .cont, hr2 => exact hr2.elim
      | .ok (.ret r), hr2 =>
        obtain ⟨rfl, h', tk, rfl, a1, a3⟩ := hr2
        repeat (any_goals (first | assumption | wp_step))
        exact fin _ _ a1 a3
end
end Ag

end
/-! ## SetS2 -/
section
set_option linter.all false
set_option maxRecDepth 100000
namespace Ag
open PySem PySem.Spec PyProof.Rows L2
section
variable {P : Program} {w : World}
/-- a set of unlike texts -/
def SetSO (P : Program) (w : World) (a : Addr) (ks : List Str) : HO := .ext fun h => InS P w h a ks ks.length
theorem setSO_new {H : Hp} {h : Heap} {a : Addr} {ks : List Str} (R : InS P w h a ks ks.length) : ObjOk P w H h a (SetSO P w a ks) := by
  have ⟨o, _, _, _, ho, _⟩ := R
  exact ⟨R, ⟨o, ho⟩, fun h1 h2 p k => InS.at_ p k⟩
section
variable {X : Cx}
def rSetS (K : PySem.W.Frag) (P : Program) (w : World) : List V → Hp → VK → Prop := fun xs H Q => ∃ (l : Addr) (ks : List Str), xs = [.ref l] ∧ SqL K H l (ks.map V.str) ∧ ks.length ≤ 1000 ∧ ks.Nodup ∧
  ∀ a, H a = none → Q (.ref a) (upd H a (SetSO P w a ks))
theorem cr_setS (hc : X.calm = true) : CallR X (.type "set") (rSetS X.K X.prog X.w) := by
  intro pins s σ H xs us Q I r h
  obtain ⟨l, ks, rfl, hs, hz, nd, q⟩ := h
  rw [Vals.ref1 r]
  obtain ⟨its, rv, pl, _⟩ := I.list hs
  refine set_txt ks (I.ok.hd hc) pl.isList (by simpa using Vals.strs rv) (by unfold scanBound; omega) nd fun h' tk R kp => ?_
  exact ⟨.ref _, _, I.laid (t' := tk) kp (Nat.le_refl _) (setSO_new R), rfl, q _ (I.hok.fresh (Nat.le_refl _))⟩
def rLenSetS (P : Program) (w : World) : List V → Hp → VK → Prop := fun xs H Q => ∃ (a : Addr) (ks : List Str), xs = [.ref a] ∧ H a = some (SetSO P w a ks) ∧ ks.length ≤ 1000 ∧ Q (.int (ks.length : Nat)) H
theorem cr_lenSetS : CallR X (.builtin "len") (rLenSetS X.prog X.w) := by
  intro pins s σ H xs us Q I r h
  obtain ⟨a, ks, rfl, ha, hn, q⟩ := h
  rw [Vals.ref1 r]
  obtain ⟨o, es, ep, t, ho, hex, hd, _, _, _, hf, he⟩ := (I.hok a _ ha).1
  exact call_len_set ho hex hd hf (by rw [he]; omega) ⟨.int ks.length, H, I.tok _, ⟨_, by rw [he]⟩, q⟩
end
end
end Ag

end
/-! ## SetI -/
section
set_option linter.all false
set_option maxRecDepth 100000
namespace Ag
open PySem PySem.Spec PyProof.Rows L2
/-! ### set(xs) of a list or a tuple of ints, its length -/
section
variable {P : Program} {w : World} {A : Around} {E : Value → Shared → Prop} {s : Shared}
/-- a set's object as it is made -/
abbrev nilSetI (w : World) : Obj := { cls := .type "set", dict := none, data := .set #[] 0 (.fresh 0 0 (!w.params.followText "set-order")) }
set_option maxHeartbeats 3200000 in
theorem set_lstI {l : Addr} {its : Array Value} (ns : List Int) {Q : Value → Shared → Prop} (hh : A.handled = none) (hl : s.heap.IsList l its) (hit : IntsAre its.toList ns) (hb : ns.length + 1 < scanBound)
    (fin : ∀ (h' : Heap) (tk c : Nat), SetR w h' s.heap.objs.size (fun j => decide (j ∈ ns)) c → c ≤ ns.length → (∀ b o, s.heap.get? b = some o → h'.get? b = some o) → Q (.ref s.heap.objs.size) { s with heap := h', toks := tk }) :
    wpAny (model P w) A (call (.type "set") [.ref l]) Q E s := by
  have esz : its.size = ns.length := by
    have q := IntsAre.length hit
    rwa [Array.length_toList] at q
  obtain ⟨cc, tl, m0⟩ := F.called_set.mro
  have m1 := F.called_set.made
  have m2 := F.called_set.sub
  refine wpAny_call (codeAny_of_tree (show wpAny _ _ (callAny (.type "set") _) _ _ _ from wpAny_pure ⟨Code.quiet_builtin _ (by decide +kernel), codeAny_builtin F.entry_type_call ?_⟩))
  rw [Around.under_plain (weight_type_call_type "set" [.ref l] []) rfl]
  have m3 := F.called_set.notType
  have m4 := F.called_set.canCreate
  have m5 := F.typeCall_set_1 (.ref l)
  repeat (any_goals (first | assumption | wp_step))
  refine codeAny_mono (code_set_led1 (.ref l) (E := E) (Q₁ := fun ob s1 => ob = .ref s.heap.objs.size ∧ s1 = { s with heap := s.heap.push (nilSetI w) }) ⟨rfl, rfl⟩) fun r s1 hr => ?_
  match r, hr with
  | .error e, hr => exact hr
  | .ok .next, hr => exact hr.elim
  | .ok .brk, hr => exact hr.elim
  | .ok .cont, hr => exact hr.elim
  | .ok (.ret ob), hr =>
    obtain ⟨rfl, rfl⟩ := hr
    have g1 : (s.heap.push (nilSetI w)).get? s.heap.objs.size = some (nilSetI w) := Heap.get?_push_size _ rfl
    have g2 : Shared.TypeIs { s with heap := s.heap.push (nilSetI w) } (.ref s.heap.objs.size) "set" := ⟨_, g1, rfl⟩
    have m6 := F.called_set.init.lookup
    have m7 := F.called_set.init.bind (.ref s.heap.objs.size)
    repeat (any_goals (first | assumption | wp_step))
    refine codeAny_mono (codeAny_call_builtin (R := wants (fun r s2 => r = .none ∧ ∃ h' tk c, s2 = { s with heap := h', toks := tk } ∧ SetR w h' s.heap.objs.size (fun j => decide (j ∈ ns)) c ∧ c ≤ ns.length ∧
        (∀ b o, s.heap.get? b = some o → h'.get? b = some o)) E) F.called_set.init.plain F.entry_set_init (check_set_init_1 g2 ?_)) fun r2 s2 hr2 => ?_
    · obtain ⟨ol, e1, e2, nl, e3⟩ := hl
      obtain ⟨k1, k2, k3, k4⟩ := ol
      simp only at e2 e3
      subst e2 e3
      have g3 : (s.heap.push (nilSetI w)).get? l = some { cls := .type "list", dict := k2, data := .seq its nl, slots := k4 } := Heap.get?_push_of_some _ e1
      have m8 := F.sub_list_set
      have m9 := F.sub_list_frozenset
      have ma : (Value.type "list" == Value.type "dict") = false := by decide
      have hl1 : (s.heap.push (nilSetI w)).IsList l its := ⟨_, g3, rfl, nl, rfl⟩
      unfold Builtin.«set.__init__» noKeywords Builtin.Frozenset.updateFrom
      generalize hPI : pyIter = PI
      wp_walk
      subst hPI
      refine wpAny_pyIter_list hl1 (wpAny_bind (wpAny_runValue ?_))
      have lt := Heap.lt_size e1
      have hh3 : A.in1.in1.in1.handled = none := by simp [hh]
      have nI : l ≠ (s.heap.push (nilSetI w)).objs.size := by
        rw [Heap.size_push]
        exact Nat.ne_of_lt (Nat.lt_succ_of_lt lt)
      have nS : s.heap.objs.size ∉ [(s.heap.push (nilSetI w)).objs.size, l] := by
        rw [Heap.size_push]
        intro z
        rcases List.mem_cons.mp z with z | z
        · exact Nat.ne_of_lt (Nat.lt_succ_self _) z
        · exact Nat.ne_of_gt lt (List.mem_singleton.mp z)
      have vals : ∀ (i : Nat) (v : Value), its[i]? = some v → ∃ k t, ns[i]? = some k ∧ v = .int k t := fun i v hv => by
        have hi : i < ns.length := by rw [← esz]; exact (Array.getElem?_eq_some_iff.mp hv).1
        obtain ⟨t, e⟩ := IntsAre.int_at hit i v (by rw [Array.getElem?_toList]; exact hv)
        exact ⟨ns[i], t, List.getElem?_eq_getElem hi, by rw [e, List.getD_eq_getElem?_getD, List.getElem?_eq_getElem hi] <;> rfl⟩
      refine set_update_ints ((Walks.list hh3 _ l nI its).toS) s.heap.objs.size nS ns esz hb vals (its.size - 0) 0 _ (by omega) (Nat.zero_le _) ⟨⟨_, Heap.get?_push_size _ rfl, rfl, rfl⟩, (hl1.push _)⟩ ?_ ?_
      · exact ⟨0, Nat.le_refl 0, setR_new_at (Heap.get?_push_of_some _ g1)⟩
      · intro s' c' hm hc' hS'
        obtain ⟨h', q1, q2, tk', q3⟩ := s'
        obtain rfl : q1 = s.gens := hm.gens
        obtain rfl : q2 = s.drawn := hm.drawn
        obtain rfl : q3 = s.os := hm.os
        rw [esz] at hc'
        refine show wpAny _ _ _ _ _ _ from wpAny_pure (show wpAny _ _ (ret Value.none) _ _ _ from wpAny_pure ⟨rfl, h', tk', c', rfl, hS', hc', fun b o e => ?_⟩)
        have b0 : b < s.heap.objs.size := Heap.lt_size e
        refine hm.heap b o ?_ (Heap.get?_push_of_some _ (Heap.get?_push_of_some _ e))
        rw [Heap.size_push]
        intro z
        rcases List.mem_cons.mp z with z | z
        · exact Nat.ne_of_lt b0 z
        · exact Nat.ne_of_lt (Nat.lt_succ_of_lt b0) (List.mem_singleton.mp z)
    · match r2, hr2 with
      | .error e, hr2 => exact hr2
      | .ok .next, hr2 => exact hr2.elim
      | .ok .brk, hr2 => exact hr2.elim
      | .ok .cont, hr2 => exact hr2.elim
      | .ok (.ret r), hr2 =>
        obtain ⟨rfl, h', tk, c', rfl, a1, a2, a3⟩ := hr2
        repeat (any_goals (first | assumption | wp_step))
        exact fin _ _ _ a1 a2 a3
end
theorem setR_mem {w : World} {h : Heap} {a : Addr} {F : Int → Bool} {n : Nat} (R : SetR w h a F n) : ∃ L : List Int, L.Nodup ∧ (∀ k, k ∈ L ↔ F k = true) ∧ L.length = n := by
  obtain ⟨o, es, ep, t, _, _, _, _, nd, hk, _, _, hn, _⟩ := R
  exact ⟨es.toList.map keyOf, nd, fun k => (hk k).symm, by rw [List.length_map, Array.length_toList, hn]⟩
section
variable {X : Cx}
def rSetI (K : PySem.W.Frag) (w : World) : List V → Hp → VK → Prop := fun xs H Q => ∃ (l : Addr) (ns : List Int), xs = [.ref l] ∧ (SqL K H l (ns.map V.int) ∨ SqT K H l (ns.map V.int)) ∧ ns.length ≤ 1000 ∧
  ∀ (a : Addr) (L : List Int), H a = none → L.Nodup → (∀ k, k ∈ L ↔ k ∈ ns) → L.length ≤ ns.length → Q (.ref a) (upd H a (SetO w a (fun j => decide (j ∈ ns)) L.length))
theorem cr_setI (hc : X.calm = true) : CallR X (.type "set") (rSetI X.K X.w) := by
  intro pins s σ H xs us Q I r h
  obtain ⟨l, ns, rfl, hs, hz, q⟩ := h
  rw [Vals.ref1 r]
  have hz2 : ns.length + 1 < scanBound := by unfold scanBound; omega
  have done : ∀ (h' : Heap) (tk c : Nat), SetR X.w h' s.heap.objs.size (fun j => decide (j ∈ ns)) c → c ≤ ns.length → (∀ b o, s.heap.get? b = some o → h'.get? b = some o) → EP X pins σ Q (.ref s.heap.objs.size) { s with heap := h', toks := tk } := by
    intro h' tk c R hcn kp
    obtain ⟨L, nd, hm, hl⟩ := setR_mem R
    subst hl
    exact ⟨.ref _, _, I.laid (t' := tk) kp (Nat.le_refl _) (setO_new R), rfl, q _ L (I.hok.fresh (Nat.le_refl _)) nd (fun k => by rw [hm k, decide_eq_true_eq]) hcn⟩
  rcases hs with hs | hs
  · obtain ⟨its, rv, pl, _⟩ := I.list hs
    exact set_lstI ns (I.ok.hd hc) pl.isList (by simpa using ints_of_vals rv) hz2 done
  · obtain ⟨its, rv, pl, _⟩ := I.tuple hs
    exact call_set_tupI ns (I.ok.hd hc) pl (by simpa using ints_of_vals rv) hz2 done
def rLenSet (w : World) : List V → Hp → VK → Prop := fun xs H Q => ∃ (a : Addr) (F : Int → Bool) (n : Nat), xs = [.ref a] ∧ H a = some (SetO w a F n) ∧ n ≤ 1000 ∧ Q (.int (n : Nat)) H
theorem cr_lenSet : CallR X (.builtin "len") (rLenSet X.w) := by
  intro pins s σ H xs us Q I r h
  obtain ⟨a, F, n, rfl, ha, hn, q⟩ := h
  rw [Vals.ref1 r]
  obtain ⟨o, es, ep, t, ho, hex, hd, _, _, _, _, hf, he, _⟩ := setO_get I ha
  exact call_len_set ho hex hd hf (by rw [he]; omega) ⟨.int n, H, I.tok _, ⟨_, by rw [he]⟩, q⟩
end
end Ag

end
/-! ## EnumT -/
section
set_option linter.all false
set_option maxRecDepth 100000
namespace Ag
open PySem PySem.Spec PyProof.Rows L2
/-! ### for i, x in enumerate(tuple) -/
set_option maxHeartbeats 1000000 in
theorem new_enum {v : Value} {o : Obj} {C : Heap → Prop} (B : Begins v o C) : Meets (Builtin.«enumerate.__new__» ⟨[.type "enumerate", v], []⟩) (fun _ R s => C s.heap ∧
    R (.ok (.ret (.ref (s.heap.push o).objs.size))) { s with heap := (s.heap.push o).push { cls := .type "enumerate", data := .fields #[.none, .bool false, .ref s.heap.objs.size, rawInt 0, .none, .none] } }) := by
  refine .of_wp fun prog w A R s h => ?_
  obtain ⟨hp, gs, dr, tk, os⟩ := s
  obtain ⟨hC, h⟩ := h
  have sub := sub_enumerate
  have begin_ : ∀ {A' : Around} {E Q : Value → Shared → Prop}, Q (.ref hp.objs.size) ⟨hp.push o, gs, dr, tk, os⟩ → wpAny (model prog w) A' (pyIter v) Q E ⟨hp, gs, dr, tk, os⟩ := fun q => B.iter prog w _ _ ⟨hp, gs, dr, tk, os⟩ _ hC q
  wp_walk using begin_
  refine wpAny_stack_any fun _ => wpAny_pure ?_
  split
  · rename_i c _ _ _ _ _
    cases (c == Value.type "enumerate") <;> (wp_walk using begin_; exact ⟨_, rfl, h⟩)
  · wp_walk using begin_
    exact ⟨_, rfl, h⟩
theorem call_enum {prog : Program} {w : World} {A : Around} {E Q : Value → Shared → Prop} {s : Shared} {v : Value} {o : Obj} {C : Heap → Prop} (B : Begins v o C) (hC : C s.heap)
    (k : ∀ h', IsEnum h' (s.heap.objs.size + 1) s.heap.objs.size 0 .none → h'.get? s.heap.objs.size = some o → (∀ b u, s.heap.get? b = some u → h'.get? b = some u) → Q (.ref (s.heap.objs.size + 1)) { s with heap := h' }) :
    wpAny (model prog w) A (call (.type "enumerate") [v]) Q E s := by
  refine callType_new F.called_enumerate (by decide) (F.typeCall_enumerate_1 _) (F.newCall_enumerate_1 _) (fun obj => F.args_object_init_2 obj _) F.entry_enumerate_new (new_enum B) ⟨hC, ?_⟩
  have sz : (s.heap.push o).objs.size = s.heap.objs.size + 1 := Heap.size_push ..
  rw [sz]
  have cell := Heap.get?_push_size (s.heap.push o) (o := { cls := .type "enumerate", data := .fields #[.none, .bool false, .ref s.heap.objs.size, rawInt 0, .none, .none] }) rfl
  rw [sz] at cell
  exact ⟨⟨_, cell, rfl⟩, k _ cell (Heap.get?_push_of_some _ (Heap.get?_push_size _ B.free)) fun b u e => Heap.get?_push_of_some _ (Heap.get?_push_of_some _ e)⟩
def IteT (K : PySem.W.Frag) (a : Addr) : It where
  go i H := ∃ (xs : List V) (x : V), SqT K H a xs ∧ xs[i]? = some x
  yld i H v H' := ∃ T x, v = .ref T ∧ H T = none ∧ H' = upd H T (.tup [.int (i : Nat), x]) ∧ ∀ xs, SqT K H a xs → xs[i]? = some x
  stop i H := ∃ xs : List V, SqT K H a xs ∧ i = xs.length
theorem turn_enumT {P : Program} {w : World} {K : PySem.W.Frag} {elts : List Expr} {kk : Nat} {tpos : Pos} (e it a : Addr) (nea : e ≠ a) (nia : it ≠ a) :
    Turn P w K (.Tuple elts kk tpos) (IteT K a) [e, it] e (fun i h => (∃ old, IsEnum h e it ((i : Nat) : Int) old) ∧ h.IsTupleIter it a i ∧ e ≠ it) where
  mem := List.mem_cons_self
  obj := by
    rintro i h ⟨⟨old, he⟩, ⟨o, ho, _, hd⟩, _⟩ b hb
    simp only [List.mem_cons, List.not_mem_nil, or_false] at hb
    rcases hb with rfl | rfl
    · exact ⟨_, he, fun v q => by cases q⟩
    · exact ⟨o, ho, fun v q => by rw [hd] at q; cases q⟩
  keep := by
    rintro i h h' ⟨⟨old, he⟩, h2, ne⟩ k
    exact ⟨⟨old, k e (by simp) _ he⟩, h2.at fun o q => k it (by simp) o q, ne⟩
  item := by
    intro X hP hw hK hc i pins s σ H E I hf st hg
    subst hP hw hK
    obtain ⟨⟨old, he⟩, h2, ne⟩ := st
    obtain ⟨xs, x, hq, hx⟩ := hg
    obtain ⟨its, rv, p2, _⟩ := I.tuple hq
    obtain ⟨u2, hu2, ru2⟩ := rv.get hx
    have el : e < s.heap.objs.size := Heap.lt_size he
    have il : it < s.heap.objs.size := by obtain ⟨_, q, _⟩ := h2; exact Heap.lt_size q
    have D := Draws.tuple (prog := X.prog) (w := X.w) (A := X.A.in1) (I.ok.hd hc) it a nia.symm its.toArray
    have lt : i < its.toArray.size := by
      have := (List.getElem?_eq_some_iff.mp hu2).1
      simpa using this
    have eF : e ∉ [it, a] := by
      simp only [List.mem_cons, List.not_mem_nil, or_false, not_or]
      exact ⟨ne, nea⟩
    refine wpAny_pyNext_enum_itemD D he ⟨h2, p2⟩ lt ne eF ?_
    rintro v h' tk ev ho st' hT hsz hk
    have q2 : v = u2 := by
      have : its[i]? = some v := by simpa using ev
      rw [hu2] at this
      exact (Option.some.inj this).symm
    subst q2
    refine ⟨_, rfl, wpAny_letOwnedTupleGo_enum (s := { s with heap := h', toks := tk + 1 }) ho fun h'' he' sb => ?_⟩
    have hT2 : h''.get? s.heap.objs.size = some { cls := .type "tuple", data := .seq #[.int i tk, v] } := (sb.2 _ (Nat.ne_of_gt el)).trans hT
    have new : ObjOk X.prog X.w (upd H s.heap.objs.size (.tup [.int (i : Nat), x])) h'' s.heap.objs.size (.tup [.int (i : Nat), x]) := ⟨(by show 2 ≤ sizeLine; decide), [.int i tk, v], .cons ⟨tk, rfl⟩ (.cons ru2 .nil), ⟨_, hT2, rfl, _, rfl⟩⟩
    have I1 : Inv X pins σ (upd H s.heap.objs.size (.tup [.int (i : Nat), x])) { s with heap := h'', toks := tk + 1 } := by
      refine I.turnedNew (ch := [e, it]) (fun b u hb q => ?_) hf (Nat.le_refl _) new
      simp only [List.mem_cons, List.not_mem_nil, or_false, not_or] at hb
      exact (sb.2 b hb.1).trans (hk b u hb.1 hb.2 q)
    have e1 : ((i + 1 : Nat) : Int) = (i : Int) + 1 := by omega
    refine ⟨.ref s.heap.objs.size, _, I1, rfl, ⟨_, x, rfl, I.hok.fresh (Nat.le_refl _), rfl, fun l hl => by rw [I.tuple_inj hl hq]; exact hx⟩, ⟨⟨_, by rw [e1]; exact he'⟩, st'.1.at fun o q => (sb.2 _ ne.symm).trans q, ne⟩, fun b hb => ?_⟩
    have lt : b < s.heap.objs.size := by
      simp only [List.mem_cons, List.not_mem_nil, or_false] at hb
      rcases hb with rfl | rfl
      · exact el
      · exact il
    rw [upd_ne (Nat.ne_of_lt lt)]
    exact (hf b hb).1
  done := by
    intro X hP hw hK hc i pins s σ H E I hf st hg
    subst hP hw hK
    obtain ⟨⟨old, he⟩, h2, ne⟩ := st
    obtain ⟨xs, hq, hi⟩ := hg
    obtain ⟨its, rv, p2, _⟩ := I.tuple hq
    obtain ⟨f0, f1, f2, f3, f4, f5⟩ := hf it (List.mem_cons_of_mem _ List.mem_cons_self)
    have ln := rv.length
    have es : its.toArray.size = its.length := List.size_toArray ..
    obtain rfl : i = its.toArray.size := by omega
    have D := Draws.tuple (prog := X.prog) (w := X.w) (A := X.A.in1) (I.ok.hd hc) it a nia.symm its.toArray
    exact wpAny_pyNext_enum_endD D he ⟨h2, p2⟩ fun h' eb => ⟨rfl, I.turned (t' := s.toks) (fun b o hb q => eb b o hb q) f0 f1 f3 f4 f5⟩
  self := fun A i s Q E st h => st.1.elim fun _ z => wpAny_pyIter_enum z h
def iEnumT (K : PySem.W.Frag) (ta : TA) : TI := fun σ H R => ta σ H fun vs H1 => ∃ a xs, vs = [.ref a] ∧ SqT K H1 a xs ∧ R (IteT K a) H1
theorem pi_enumT {X : Cx} {e : Expr} {ta : TA} {p pos tpos : Pos} {elts : List Expr} {kk : Nat} (hg : Gl X "enumerate") (hm : X.mg "enumerate" = none) (ha : PA X [e] ta) (hs : starEach [e] X.env = [(false, eval e X.env)] := by rfl) :
    PI X (.Tuple elts kk tpos) (.Call (.Name "enumerate" p) [e] [] pos) (iEnumT X.K ta) := by
  constructor
  intro pins s σ H R I h
  refine Call_ (ld_blt I hg hm boot_enumerate (PyProof.Rows.callWith_type1 (thn (ha.run pos pins s σ H _ I h) ?_) hs rfl))
  rintro us s1 ⟨vs, H1, I1, r1, a, xs, rfl, hq, q⟩
  rw [Vals.ref1 r1]
  obtain ⟨its, rv, p2, _⟩ := I1.tuple hq
  have la : a < s1.heap.objs.size := by
    obtain ⟨o, e, _⟩ := id p2
    exact Heap.lt_size e
  refine call_enum (begins_tuple a its.toArray) p2 fun h' he g1 hk => wpAny_pyIter_enum he ?_
  have I2 : Inv X pins σ H1 { s1 with heap := h' } := I1.kept (t' := s1.toks) hk
  refine ⟨s1.heap.objs.size + 1, [s1.heap.objs.size + 1, s1.heap.objs.size], _, _, H1, rfl, I2, turn_enumT (s1.heap.objs.size + 1) s1.heap.objs.size a (Nat.ne_of_gt (Nat.lt_succ_of_lt la)) (Nat.ne_of_gt la), ⟨⟨_, he⟩, ⟨_, g1, rfl, rfl⟩, Nat.succ_ne_self _⟩, fun c hcm => ?_, q⟩
  have hle : s1.heap.objs.size ≤ c := by
    simp only [List.mem_cons, List.not_mem_nil, or_false] at hcm
    rcases hcm with rfl | rfl <;> first | exact Nat.le_add_right _ _ | exact Nat.le_refl _
  exact I1.fpOk hle (I1.hok.fresh hle)
end Ag

end
/-! ## SumT -/
section
set_option linter.all false
set_option maxRecDepth 100000
namespace Ag
open PySem PySem.Spec PyProof.Rows L2
/-! ### sum of a tuple of ints -/
theorem pre_sum (ns : List Int) : ∀ j, j ≤ ns.length → preSum (fun i => ns.getD i 0) j = (ns.take j).sum
  | 0, _ => by simp [preSum]
  | j + 1, h => by
    have h' : j < ns.length := h
    have e : (ns.take (j + 1)).sum = (ns.take j).sum + ns[j] := by
      rw [List.take_add_one, List.getElem?_eq_getElem h', List.sum_append]
      show _ + List.sum [ns[j]] = _
      simp
    have e2 : ns.getD j 0 = ns[j] := by simp [List.getD_eq_getElem?_getD, h']
    rw [preSum, pre_sum ns j (by omega), e, e2]
section
variable {X : Cx}
def rSumT (K : PySem.W.Frag) : List V → Hp → VK → Prop := fun vs H Q => ∃ (a : Addr) (ns : List Int), vs = [V.ref a] ∧ SqT K H a (ns.map V.int) ∧ Q (.int ns.sum) H
theorem cr_sumT (hc : X.calm = true) : CallR X (.builtin "sum") (rSumT X.K) := by
  intro pins s σ H xs us Q I r h
  obtain ⟨a, ns, rfl, hs, q⟩ := h
  rw [Vals.ref1 r]
  obtain ⟨its, rv, pl, _⟩ := I.tuple hs
  have lt : a < s.heap.objs.size := by
    obtain ⟨o, e, _⟩ := id pl
    exact Heap.lt_size e
  have ln := rv.length
  rw [List.length_map] at ln
  have hd : X.A.in1.handled = none := I.ok.hd hc
  refine call_sum_walkG (wpAny_pyIter_tuple (show s.heap.IsTuple a its.toArray from pl) ⟨s.heap.objs.size, [s.heap.objs.size, a], [s.heap.objs.size], _, _, _, fun i => ns.getD i 0, rfl, Walks.tuple hd _ a (Nat.ne_of_lt lt) its.toArray,
    ⟨⟨_, Heap.get?_push_size _ rfl, rfl, rfl⟩, (show s.heap.IsTuple a its.toArray from pl).push _⟩, fun b hb => ?_, fun i v hv => ?_, fun h' tk t' hk => ?_⟩)
  · rw [Heap.size_push]
    simp only [List.mem_cons, List.not_mem_nil, or_false] at hb
    rcases hb with rfl | rfl
    · exact Nat.lt_succ_self _
    · exact Nat.lt_succ_of_lt lt
  · obtain ⟨t, e⟩ := IntsAre.int_at rv.ints i v (by simpa using hv)
    exact ⟨t, e⟩
  · rw [List.size_toArray, ← ln, pre_sum ns _ (Nat.le_refl _), List.take_length]
    exact ⟨.int _, H, I.kept fun b o e => hk b o (fun z => Nat.ne_of_lt (Heap.lt_size e) (List.mem_singleton.mp z)) (Heap.get?_push_of_some _ e), ⟨_, rfl⟩, q⟩
end
end Ag

end
/-! ## ZipTL -/
section
set_option linter.all false
set_option maxRecDepth 100000
namespace Ag
open PySem PySem.Spec PyProof.Rows L2
/-! ### zip(tuple, list) -/
def ItzTL (K : PySem.W.Frag) (a b : Addr) : It where
  go i H := ∃ (xs ys : List V) (x y : V), SqT K H a xs ∧ SqL K H b ys ∧ xs[i]? = some x ∧ ys[i]? = some y
  yld i H v H' := ∃ T x y, (v = .ref T ∧ H T = none ∧ H' = upd H T (.tup [x, y])) ∧ (∀ xs, SqT K H a xs → xs[i]? = some x) ∧ ∀ ys, SqL K H b ys → ys[i]? = some y
  stop i H := ∃ xs ys : List V, SqT K H a xs ∧ SqL K H b ys ∧ i = min xs.length ys.length
theorem turn_zipTL {P : Program} {w : World} {K : PySem.W.Frag} {elts : List Expr} {kk : Nat} {tpos : Pos} {a b z TI TO i1 i2 : Addr} (D : ZipSep2 z TI TO i1 i2 [i1, a] [i2, b]) (na : a ≠ i1) (nb : b ≠ i2) :
    Turn P w K (.Tuple elts kk tpos) (ItzTL K a b) [z, TI, TO, i1, i2] z (fun i h => IsZip h z TI TO .none ∧ IsTupOf2 h TI (.ref i1) (.ref i2) ∧ (∃ x y, IsTupOf2 h TO x y) ∧ h.IsTupleIter i1 a i ∧ h.IsListIter i2 b i) where
  mem := List.mem_cons_self
  obj := by
    rintro i h ⟨hz, hTI, ⟨x, y, hTO⟩, ⟨o1, e1, _, d1⟩, ⟨o2, e2, _, d2⟩⟩ c hc
    simp only [List.mem_cons, List.not_mem_nil, or_false] at hc
    rcases hc with rfl | rfl | rfl | rfl | rfl
    · exact ⟨_, hz, fun v q => by cases q⟩
    · exact ⟨_, hTI, fun v q => by cases q⟩
    · exact ⟨_, hTO, fun v q => by cases q⟩
    · exact ⟨o1, e1, fun v q => by rw [d1] at q; cases q⟩
    · exact ⟨o2, e2, fun v q => by rw [d2] at q; cases q⟩
  keep := by
    rintro i h h' ⟨hz, hTI, ⟨x, y, hTO⟩, h1, h2⟩ k
    exact ⟨k z (by simp) _ hz, k TI (by simp) _ hTI, ⟨x, y, k TO (by simp) _ hTO⟩, h1.at fun o q => k i1 (by simp) o q, h2.at fun o q => k i2 (by simp) o q⟩
  item := by
    intro X hP hw hK hc i pins s σ H E I hf st hg
    subst hP hw hK
    obtain ⟨hz, hTI, ⟨x0, y0, hTO⟩, h1, h2⟩ := st
    obtain ⟨xs, ys, x, y, hqx, hqy, hx, hy⟩ := hg
    obtain ⟨its1, rv1, p1, _⟩ := I.tuple hqx
    obtain ⟨its2, rv2, p2, _⟩ := I.list hqy
    obtain ⟨u1, hu1, ru1⟩ := rv1.get hx
    obtain ⟨u2, hu2, ru2⟩ := rv2.get hy
    have hzl : z < s.heap.objs.size := Heap.lt_size hz
    have D1 := Draws.tuple (prog := X.prog) (w := X.w) (A := X.A.in1) (I.ok.hd hc) i1 a na its1.toArray
    have D2 := Draws.list (prog := X.prog) (w := X.w) (A := X.A.in1) (I.ok.hd hc) i2 b nb its2.toArray
    have l1 : i < its1.toArray.size := by
      have := (List.getElem?_eq_some_iff.mp hu1).1
      simpa using this
    have l2 : i < its2.toArray.size := by
      have := (List.getElem?_eq_some_iff.mp hu2).1
      simpa using this
    refine wpAny_pyNext_zipD2_item D D1 D2 hz hTI hTO ⟨h1, p1⟩ ⟨h2, p2.isList⟩ l1 l2 ?_
    intro x1 x2 h' tk e1 e2 z' TO' st1 st2 hT hsz hk
    have q1 : x1 = u1 := by
      have : its1[i]? = some x1 := by simpa using e1
      rw [hu1] at this
      exact (Option.some.inj this).symm
    have q2 : x2 = u2 := by
      have : its2[i]? = some x2 := by simpa using e2
      rw [hu2] at this
      exact (Option.some.inj this).symm
    subst q1 q2
    refine ⟨_, rfl, wpAny_letOwnedTupleGo_zip (s := { s with heap := h', toks := tk }) z' fun h'' z'' sb => ?_⟩
    have hT2 : h''.get? s.heap.objs.size = some { cls := .type "tuple", data := .seq #[x1, x2] } := (sb.2 _ (Nat.ne_of_gt hzl)).trans hT
    have new : ObjOk X.prog X.w (upd H s.heap.objs.size (.tup [x, y])) h'' s.heap.objs.size (.tup [x, y]) := ⟨(by show 2 ≤ sizeLine; decide), [x1, x2], .cons ru1 (.cons ru2 .nil), ⟨_, hT2, rfl, _, rfl⟩⟩
    have I1 : Inv X pins σ (upd H s.heap.objs.size (.tup [x, y])) { s with heap := h'', toks := tk } := by
      refine I.turnedNew (t' := tk) (ch := [z, TI, TO, i1, i2]) (fun c o hb q => ?_) hf (Nat.le_refl _) new
      simp only [List.mem_cons, List.not_mem_nil, or_false, not_or] at hb
      exact (sb.2 c hb.1).trans (hk c o hb.1 hb.2.2.1 hb.2.2.2.1 hb.2.2.2.2 q)
    refine ⟨.ref s.heap.objs.size, _, I1, rfl, ⟨_, x, y, ⟨rfl, I.hok.fresh (Nat.le_refl _), rfl⟩, fun l hl => by rw [I.tuple_inj hl hqx]; exact hx, fun l hl => by rw [I.list_inj hl hqy]; exact hy⟩, ⟨z'', ?_, ⟨x1, x2, ?_⟩, ?_, ?_⟩, fun c hcm => ?_⟩
    · exact (sb.2 _ D.TIz).trans (hk _ _ D.TIz D.TITO D.TIi1 D.TIi2 hTI)
    · exact (sb.2 _ D.TOz).trans TO'
    · exact st1.1.at fun o q => (sb.2 _ (Ne.symm D.zi1)).trans q
    · exact st2.1.at fun o q => (sb.2 _ (Ne.symm D.zi2)).trans q
    · have hlt : c < s.heap.objs.size := by
        simp only [List.mem_cons, List.not_mem_nil, or_false] at hcm
        rcases hcm with rfl | rfl | rfl | rfl | rfl
        · exact hzl
        · exact Heap.lt_size hTI
        · exact Heap.lt_size hTO
        · exact h1.elim fun _ q => Heap.lt_size q.1
        · exact h2.elim fun _ q => Heap.lt_size q.1
      rw [upd_ne (Nat.ne_of_lt hlt)]
      exact (hf c hcm).1
  done := by
    intro X hP hw hK hc i pins s σ H E I hf st hg
    subst hP hw hK
    obtain ⟨hz, hTI, ⟨x0, y0, hTO⟩, h1, h2⟩ := st
    obtain ⟨xs, ys, hqx, hqy, hi⟩ := hg
    obtain ⟨its1, rv1, p1, _⟩ := I.tuple hqx
    obtain ⟨its2, rv2, p2, _⟩ := I.list hqy
    have l1 := rv1.length
    have l2 := rv2.length
    have D1 := Draws.tuple (prog := X.prog) (w := X.w) (A := X.A.in1) (I.ok.hd hc) i1 a na its1.toArray
    have D2 := Draws.list (prog := X.prog) (w := X.w) (A := X.A.in1) (I.ok.hd hc) i2 b nb its2.toArray
    have s1 : its1.toArray.size = its1.length := List.size_toArray ..
    have s2 : its2.toArray.size = its2.length := List.size_toArray ..
    refine wpAny_pyNext_zipD2_end D D1 D2 hz hTI hTO ⟨h1, p1⟩ ⟨h2, p2.isList⟩ (by omega) (by omega) (by omega) fun h' tk hk => ⟨rfl, I.turnedL (t' := tk) (ch := [z, TI, TO, i1, i2]) (fun c o hb q => ?_) hf⟩
    simp only [List.mem_cons, List.not_mem_nil, or_false, not_or] at hb
    exact hk c o hb.1 hb.2.2.1 hb.2.2.2.1 hb.2.2.2.2 q
  self := fun A i s Q E st h => wpAny_pyIter_zip st.1 h
def iZipTL (K : PySem.W.Frag) (ta : TA) : TI := fun σ H R => ta σ H fun vs H1 => ∃ a b xs ys, vs = [.ref a, .ref b] ∧ SqT K H1 a xs ∧ SqL K H1 b ys ∧ R (ItzTL K a b) H1
theorem pi_zipTL {X : Cx} {e e2 : Expr} {ta : TA} {p pos tpos : Pos} {elts : List Expr} {kk : Nat} (hg : Gl X "zip") (hm : X.mg "zip" = none) (ha : PA X [e, e2] ta) (hs : starEach [e, e2] X.env = (false, eval e X.env) :: starEach [e2] X.env := by rfl)
    (hpl : (backTo pos (starEach [e2] X.env)).any (·.1) = false := by rfl) : PI X (.Tuple elts kk tpos) (.Call (.Name "zip" p) [e, e2] [] pos) (iZipTL X.K ta) := by
  constructor
  intro pins s σ H R I h
  refine Call_ (ld_blt I hg hm PyProof.Rows.boot_zip (PyProof.Rows.callWith_type1 (thn (ha.run pos pins s σ H _ I h) ?_) hs hpl))
  rintro us s1 ⟨vs, H1, I1, r1, a, b, xs, ys, rfl, hqx, hqy, q⟩
  match us, r1 with
  | [_, _], .cons r (.cons r' .nil) =>
    cases r
    cases r'
    obtain ⟨its1, rv1, p1, _⟩ := I1.tuple hqx
    obtain ⟨its2, rv2, p2, _⟩ := I1.list hqy
    have la : a < s1.heap.objs.size := by
      obtain ⟨o, e, _⟩ := id p1
      exact Heap.lt_size e
    have lb : b < s1.heap.objs.size := p2.lt
    refine zip_begins2 (begins_tuple a its1.toArray) (begins_list b its2.toArray) p1 p2.isList fun h' hz hTI hTO g1 g2 hsz hk => wpAny_pyIter_zip hz ?_
    have I2 : Inv X pins σ H1 { s1 with heap := h' } := I1.kept (t' := s1.toks) hk
    refine ⟨s1.heap.objs.size + 4, [s1.heap.objs.size + 4, s1.heap.objs.size + 2, s1.heap.objs.size + 3, s1.heap.objs.size, s1.heap.objs.size + 1], _, _, H1, rfl, I2, turn_zipTL (zip_sep2 (by simp; exact la) (by simp; exact lb)) (Nat.ne_of_lt la) (Nat.ne_of_lt (Nat.lt_succ_of_lt lb)), ⟨hz, hTI, ⟨_, _, hTO⟩, ⟨_, g1, rfl, rfl⟩, ⟨_, g2, rfl, rfl⟩⟩, fun c hcm => ?_, q⟩
    have hle : s1.heap.objs.size ≤ c := by
      simp only [List.mem_cons, List.not_mem_nil, or_false] at hcm
      rcases hcm with rfl | rfl | rfl | rfl | rfl <;> first | exact Nat.le_add_right _ _ | exact Nat.le_refl _
    exact I1.fpOk hle (I1.hok.fresh hle)
end Ag

end
/-! ## GetL -/
section
set_option linter.all false
set_option maxRecDepth 100000
namespace Ag
open PySem PySem.Spec PyProof.Rows L2
/-! ### xs[i] += e, a list -/
section
variable {X : Cx}
def rGetL (K : PySem.W.Frag) : V → V → Hp → VK → Prop := fun o i H Q => ∃ (p : Addr) (xs : List V) (k : Nat) (v : V), o = .ref p ∧ i = .int (k : Int) ∧ SqL K H p xs ∧ xs[k]? = some v ∧ Q v H
theorem get_list : PGet X (rGetL X.K) := by
  intro pins s σ H o i ov iv Q I ro ri h
  obtain ⟨p, xs, k, v, rfl, rfl, hs, hv, q⟩ := h
  obtain rfl : ov = Value.ref p := ro
  obtain ⟨t, rfl⟩ := ri
  obtain ⟨its, rv, pl, hz⟩ := I.list hs
  obtain ⟨u, hu, ru⟩ := rv.get hv
  have hk : k < its.length := (List.getElem?_eq_some_iff.mp hu).1
  have ln := line63
  have lx := rv.length
  exact wpAny_getItem_list pl.isList (by omega) (by omega) (by simpa using hu) ⟨v, H, I, ru, q⟩
end
end Ag

end
/-! ## T0 -/
section
set_option linter.all false
set_option maxRecDepth 100000
namespace Ag
open PySem PySem.Spec PyProof.Rows L2
/-- by place, a new pair of the place and the item -/
def YEn (xs : List V) : Nat → Hp → V → Hp → Prop := fun i H v H' => ∃ T x, v = .ref T ∧ H T = none ∧ H' = upd H T (.tup [.int (i : Nat), x]) ∧ xs[i]? = some x
theorem walk_enumT {K : PySem.W.Frag} {a : Addr} {xs : List V} : Walk (IteT K a) xs.length (fun H => SqT K H a xs) (YEn xs) := by
  refine ⟨fun i H hi q => ⟨xs, xs[i], q, by simp [hi]⟩, fun H q => ⟨xs, q, rfl⟩, fun i H v H' _ q y => ?_⟩
  obtain ⟨T, x, h1, h2, h3, h4⟩ := y
  exact ⟨T, x, h1, h2, h3, h4 xs q⟩
theorem walk_zipTL {K : PySem.W.Frag} {a b : Addr} {xs ys : List V} (hl : xs.length = ys.length) : Walk (ItzTL K a b) xs.length (fun H => SqT K H a xs ∧ SqL K H b ys) (YPair (fun i => xs[i]?) (fun i => ys[i]?)) := by
  refine ⟨fun i H hi q => ⟨xs, ys, xs[i], ys[i]'(by omega), q.1, q.2, by simp [hi], by simp [hl ▸ hi]⟩, fun H q => ⟨xs, ys, q.1, q.2, by omega⟩, fun i H v H' _ q y => ?_⟩
  obtain ⟨T, x, z, ⟨h1, h2, h3⟩, h4, h5⟩ := y
  exact ⟨T, x, z, h1, h2, h3, h4 xs q.1, h5 ys q.2⟩
theorem CallR.or2 {X : Cx} {f : Value} {r1 r2 : List V → Hp → VK → Prop} (h1 : CallR X f r1) (h2 : CallR X f r2) : CallR X f (fun xs H Q => r1 xs H Q ∨ r2 xs H Q) := by
  intro pins s σ H xs us Q I r h
  rcases h with h | h
  · exact h1 pins s σ H xs us Q I r h
  · exact h2 pins s σ H xs us Q I r h
theorem cr_sumA {X : Cx} (hc : X.calm = true) : CallR X (.builtin "sum") (fun xs H Q => rSum X.K xs H Q ∨ rSumT X.K xs H Q) := CallR.or2 (cr_sum hc) (cr_sumT hc)
theorem ix_tupK {X : Cx} (K : PySem.W.Frag) (hK : X.K = K) : IxR X (rIxT K) := by
  subst hK
  exact ix_tup
theorem pe_of_K {X : Cx} (K : PySem.W.Frag) {e : Expr} (f : PySem.W.Frag → TE) (hK : X.K = K) (h : PE X e (f X.K)) : PE X e (f K) := hK ▸ h
/-- a target i, (j, l), where a comprehension's block runs -/
theorem pg_nest {X : Cx} (K : PySem.W.Frag) {i j l : Nat} {x y z : Str} {px py pz pt pu : Pos} {k k2 : Nat} (hc : X.calm = true) (hN : X.N.Nodup) (hi : X.N[i]? = some x) (hj : X.N[j]? = some y) (hl : X.N[l]? = some z) (hx : X.env.scope.names.lookup x = some .local) (hy : X.env.scope.names.lookup y = some .local) (hz : X.env.scope.names.lookup z = some .local) (hK : X.K = K) :
    PG X (.Tuple [.Name x px, .Tuple [.Name y py, .Name z pz] k2 pu] k pt) (gTup K 2 (gCons (gName i) (gCons (gTup K 2 (gCons (gName j) (gCons (gName l) gNil))) gNil))) := by
  subst hK
  exact pg_tup hc (pgs_cons (pg_name hN hi (.inl hx) (.inr hx)) (pgs_cons (pg_tup hc (pgs_cons (pg_name hN hj (.inl hy) (.inr hy)) (pgs_cons (pg_name hN hl (.inl hz) (.inr hz)) pgs_nil))) pgs_nil))
end Ag

end
/-! ## MinP -/
section
set_option linter.all false
set_option maxRecDepth 100000
namespace Ag
open PySem PySem.Spec PyProof.Rows L2
open PySem.W (DatumOrd Datum)
/-! ### min of a list of pairs of ints -/
def plt (p q : Int × Int) : Prop := p.1 < q.1 ∨ (p.1 = q.1 ∧ p.2 < q.2)
theorem lt_plt (p q : Int × Int) : DatumOrd.lt p q = true ↔ plt p q := by
  show (if p.1 = q.1 then decide (p.2 < q.2) else decide (p.1 < q.1)) = true ↔ _
  unfold plt
  split <;> rw [decide_eq_true_eq] <;> omega
theorem least_all : ∀ (xs : List (Int × Int)) (x : Int × Int), ∀ y ∈ x :: xs, ¬ plt y (PySem.W.minOf x xs)
  | [], x, y, hy => by
    rw [List.mem_singleton.mp hy]
    show ¬ plt x x
    unfold plt
    omega
  | z :: xs, x, y, hy => by
    have e : PySem.W.minOf x (z :: xs) = PySem.W.minOf (if DatumOrd.lt z x = true then z else x) xs := rfl
    rw [e]
    by_cases h : DatumOrd.lt z x = true
    · rw [if_pos h]
      rw [lt_plt] at h
      have ih := least_all xs z
      rcases List.mem_cons.mp hy with rfl | hy
      · have := ih z List.mem_cons_self
        revert this h
        generalize PySem.W.minOf z xs = m
        unfold plt
        omega
      · exact ih y hy
    · rw [if_neg h]
      rw [lt_plt] at h
      have ih := least_all xs x
      rcases List.mem_cons.mp hy with rfl | hy
      · exact ih _ List.mem_cons_self
      · rcases List.mem_cons.mp hy with rfl | hy
        · have := ih x List.mem_cons_self
          revert this h
          generalize PySem.W.minOf x xs = m
          unfold plt
          omega
        · exact ih y (List.mem_cons_of_mem _ hy)
section
variable {X : Cx}
abbrev pD (p : Int × Int) : PyData := .tuple [.int p.1, .int p.2]
theorem dp_ps {K : PySem.W.Frag} {H : Hp} : ∀ ks : List (Addr × (Int × Int)), (∀ k ∈ ks, H k.1 = some (.tup [.int k.2.1, .int k.2.2])) → DpAll K H (ks.map fun k => V.ref k.1) (ks.map fun k => pD k.2)
  | [], _ => .nil
  | k :: ks, h => .cons (.tup (SqT.of (h k List.mem_cons_self)) (.cons (.int _) (.cons (.int _) .nil))) (dp_ps ks fun j hj => h j (List.mem_cons_of_mem _ hj))
def rMinP (K : PySem.W.Frag) : List V → Hp → VK → Prop := fun vs H Q => ∃ (a : Addr) (ks : List (Addr × (Int × Int))), vs = [V.ref a] ∧ SqL K H a (ks.map fun k => V.ref k.1) ∧ ks ≠ [] ∧ (∀ k ∈ ks, H k.1 = some (.tup [.int k.2.1, .int k.2.2])) ∧
  ∀ k ∈ ks, (∀ j ∈ ks, ¬ plt j.2 k.2) → Q (.ref k.1) H
theorem cr_minP (hc : X.calm = true) (hu : X.A.units + 10 < cLine) : CallR X (.builtin "min") (rMinP X.K) := by
  intro pins s σ H vs us Q I r h
  obtain ⟨a, ks, rfl, hs, hne, hk, q⟩ := h
  rw [Vals.ref1 r]
  obtain ⟨its, rv, pl, _⟩ := I.list hs
  obtain ⟨k0, ks, rfl⟩ : ∃ k l, ks = k :: l := by
    cases ks with
    | nil => exact absurd rfl hne
    | cons k l => exact ⟨k, l, rfl⟩
  obtain ⟨as, rd⟩ := Dp.readsAll I _ _ _ (dp_ps (K := X.K) (k0 :: ks) hk) rv
  have HA : PySem.W.HoldAll s.heap its.toArray.toList (k0.2 :: ks.map (·.2)) := ⟨as, by
    have e : ((k0.2 :: ks.map (·.2)).map Datum.toD) = (k0 :: ks).map fun k => pD k.2 := by
      rw [List.map_cons, List.map_cons, List.map_map]
      rfl
    rw [e]
    simpa using rd⟩
  refine PySem.W.min_list_datum (I.ok.hd hc) pl.isList HA (by show X.A.units + 1 + 1 < cLine; omega) fun i v h' tk hv hm kp => ?_
  have hv : its[i]? = some v := by simpa using hv
  have hlt : i < its.length := (List.getElem?_eq_some_iff.mp hv).1
  have hl := rv.length
  rw [List.length_map] at hl
  obtain ⟨k, hki⟩ : ∃ k, (k0 :: ks)[i]? = some k := ⟨(k0 :: ks)[i]'(by omega), List.getElem?_eq_getElem (by omega)⟩
  have hmem := List.mem_of_getElem? hki
  obtain ⟨v', hv', rk⟩ := rv.get (show ((k0 :: ks).map fun k => V.ref k.1)[i]? = some (.ref k.1) by rw [List.getElem?_map, hki]; rfl)
  have ev : v' = v := by rw [hv] at hv'; exact (Option.some.inj hv').symm
  subst ev
  obtain ⟨bs, r1⟩ := hm
  obtain ⟨cs, r2⟩ := Dp.reads I _ _ _ (Dp.tup (SqT.of (hk k hmem)) (.cons (.int _) (.cons (.int _) .nil)) : Dp X.K H (.ref k.1) (pD k.2)) rk
  have e := (Reads.unique (PySem.W.reads_keeps kp r2) _ _ r1).1
  have ek : k.2 = PySem.W.minOf k0.2 (ks.map (·.2)) := by
    have e' : pD k.2 = pD (PySem.W.minOf k0.2 (ks.map (·.2))) := e
    simp only [pD, PyData.tuple.injEq, List.cons.injEq, PyData.int.injEq, and_true] at e'
    exact Prod.ext e'.1 e'.2
  refine ⟨.ref k.1, H, I.kept kp, rk, q k hmem fun j hj => ?_⟩
  rw [ek]
  refine least_all (ks.map (·.2)) k0.2 j.2 ?_
  rcases List.mem_cons.mp hj with rfl | hj
  · exact List.mem_cons_self
  · exact List.mem_cons_of_mem _ (List.mem_map_of_mem hj)
end
end Ag

end
/-! ## SortT -/
section
set_option linter.all false
set_option maxRecDepth 100000
namespace Ag
open PySem PySem.Spec PyProof.Rows L2
/-! ### sorted of a tuple of ints -/
section
variable {X : Cx}
def rSortT (K : PySem.W.Frag) : List V → Hp → VK → Prop := fun vs H Q => ∃ (a : Addr) (ns : List Int), vs = [V.ref a] ∧ SqT K H a (ns.map V.int) ∧
  ∀ (ms : List Int) (p : Addr), ms.Perm ns → ms.Pairwise (· ≤ ·) → H p = none → Q (.ref p) (upd H p (.lst (ms.map V.int)))
theorem cr_sortT : CallR X (.builtin "sorted") (rSortT X.K) := by
  intro pins s σ H vs us Q I r h
  obtain ⟨a, ns, rfl, hs, q⟩ := h
  obtain ⟨its, rv, pl, hz⟩ := I.tuple hs
  rw [Vals.ref1 r]
  have hi := rv.ints
  have hz' : its.length ≤ sizeLine := by rw [← rv.length]; exact hz
  obtain ⟨o, e1, e2, n, e3⟩ := id pl
  refine Calls.call_function_entry kind_sorted plain_sorted entry_sorted (args_sorted1 _) (show wpAny _ _ _ _ _ _ by
    unfold Builtin.«sorted»
    refine wpAny_bind (m := checkCount "sorted" 1 1 _) (wpAny_pure (wpAny_bind (wpAny_collect_seq a (.inr rfl) e1 e2 e3 (fun h1 kp => wpAny_bind (wpAny_newList (show wpAny _ _ _ _ _ _ from ?_) hz')) (by simpa using hz'))))
    have hoL : (h1.push (seqObj "list" its.toArray 0)).get? h1.objs.size = some (seqObj "list" its.toArray 0) := Heap.get?_push_size _ rfl
    have lt1 : ∀ b u, s.heap.get? b = some u → b < h1.objs.size := fun b u z => Heap.lt_size (kp b u z)
    have nn : s.heap.get? h1.objs.size = none := by
      cases z : s.heap.get? h1.objs.size with
      | none => rfl
      | some u => exact absurd (lt1 _ _ z) (Nat.lt_irrefl _)
    refine wpAny_bind (wpAny_holding (wpAny_call_entry slot_list_sort ⟨_, hoL, rfl⟩ entry_list_sort (SrtO.list_sort_ord SrtO.swo_int hoL hz' (fun h2 => SrtO.ints_sortable hi h2) fun out g1 g2 => ⟨_, rfl, ?_⟩) (args_list_sort _)))
    obtain ⟨k1, k2, k3⟩ := SrtO.ints_out hi g1 g2
    obtain ⟨ep, he⟩ := sortedHeap_at (vs := its) (out := out.toArray) hoL
    refine wpAny_pure ⟨_, rfl, .ref _, upd H h1.objs.size (.lst ((out.map SrtO.iv).map V.int)), I.laidN (t' := s.toks) (fun b u z => ?_) nn (I.hok.gone nn) ⟨by rw [List.length_map, k2.length_eq]; rw [List.length_map] at hz; exact hz, out, ep, vals_of_ints k1, he⟩, rfl, q _ _ k2 k3 (I.hok.gone nn)⟩
    have lt := lt1 b u z
    rw [sortedHeap_old (Nat.ne_of_lt lt) (by rw [size_push']; exact Nat.lt_succ_of_lt lt)]
    exact Heap.get?_push_of_some _ (kp b u z))
end
end Ag

end
/-! ## ScM -/
section
set_option linter.all false
namespace Sc
/-! ### scores, the best of a lot, the least busy one: plain mathematics -/
def scL (l : List Nat) : Nat := l.foldl (fun v c => (v * 251 + c) % 65521) 7
theorem scL_snoc (l : List Nat) (c : Nat) : scL (l ++ [c]) = (scL l * 251 + c) % 65521 := by
  unfold scL
  rw [List.foldl_append]
  rfl
theorem scL_take {l : List Nat} {j c : Nat} (h : l[j]? = some c) : scL (l.take (j + 1)) = (scL (l.take j) * 251 + c) % 65521 := by
  rw [List.take_add_one, h]
  exact scL_snoc _ _
theorem scL_lt (l : List Nat) : scL l < 65521 := by
  rcases List.eq_nil_or_concat l with rfl | ⟨a, c, rfl⟩
  · decide
  · rw [List.concat_eq_append, scL_snoc]
    exact Nat.mod_lt _ (by decide)
structure Bst (f : Nat → Nat) (ns : List Nat) (i : Nat) : Prop where
  mem : i ∈ ns
  top : ∀ j ∈ ns, f j ≤ f i
  low : ∀ j ∈ ns, f j = f i → i ≤ j
theorem Bst.uniq {f : Nat → Nat} {ns : List Nat} {i j : Nat} (a : Bst f ns i) (b : Bst f ns j) : i = j := by
  have h1 := a.top j b.mem
  have h2 := b.top i a.mem
  have h3 := a.low j b.mem (by omega)
  have h4 := b.low i a.mem (by omega)
  omega
theorem Bst.out {f : Nat → Nat} {ns ms : List Nat} {i k x : Nat} (a : Bst f ns i) (b : Bst f ms k) (hm : ∀ y, y ∈ ms ↔ y ∈ ns ∧ y ≠ x) (h : x ≠ i) : k = i :=
  b.uniq ⟨(hm i).mpr ⟨a.mem, h.symm⟩, fun j hj => a.top j ((hm j).mp hj).1, fun j hj => a.low j ((hm j).mp hj).1⟩
theorem Bst.into {f : Nat → Nat} {ns ms : List Nat} {i k x : Nat} (a : Bst f ns i) (b : Bst f ms k) (hm : ∀ y, y ∈ ms ↔ y ∈ ns ∨ y = x) : k = i ∨ k = x := by
  rcases (hm k).mp b.mem with h | h
  · have h1 := a.top k h
    have h2 := b.top i ((hm i).mpr (.inl a.mem))
    have h3 := a.low k h (by omega)
    have h4 := b.low i ((hm i).mpr (.inl a.mem)) (by omega)
    exact .inl (by omega)
  · exact .inr h
theorem first_at {α : Type} (P : α → Prop) [DecidablePred P] : ∀ (l : List α), (∃ x ∈ l, P x) → ∃ (j : Nat) (z : α), l[j]? = some z ∧ P z ∧ ∀ (m : Nat) (y : α), m < j → l[m]? = some y → ¬ P y
  | [], h => by obtain ⟨x, h, _⟩ := h; cases h
  | a :: l, h => by
    by_cases ha : P a
    · exact ⟨0, a, rfl, ha, fun m y hm => absurd hm (Nat.not_lt_zero _)⟩
    · obtain ⟨x, hx, px⟩ := h
      have hx : x ∈ l := by
        rcases List.mem_cons.mp hx with rfl | hx
        · exact absurd px ha
        · exact hx
      obtain ⟨j, z, h1, h2, h3⟩ := first_at P l ⟨x, hx, px⟩
      refine ⟨j + 1, z, h1, h2, fun m y hm hy => ?_⟩
      cases m with
      | zero => rw [← Option.some.inj hy]; exact ha
      | succ m => exact h3 m y (by omega) hy
/-- the first of the greatest, in a row that ascends -/
theorem Bst.first {f : Nat → Nat} {ns : List Nat} {j i : Nat} (asc : ns.Pairwise (· < ·)) (hj : ns[j]? = some i) (top : ∀ y ∈ ns, f y ≤ f i) (fst : ∀ (m : Nat) (y : Nat), m < j → ns[m]? = some y → ¬ f y = f i) : Bst f ns i := by
  refine ⟨List.mem_of_getElem? hj, top, fun y hy e => ?_⟩
  obtain ⟨m, hm⟩ := List.getElem?_of_mem hy
  have h1 : ¬ m < j := fun z => fst m y z hm e
  by_cases h : m = j
  · subst h
    rw [hj] at hm
    exact Nat.le_of_eq (Option.some.inj hm)
  · obtain ⟨lj, ej⟩ := List.getElem?_eq_some_iff.mp hj
    obtain ⟨lm, em⟩ := List.getElem?_eq_some_iff.mp hm
    have := List.pairwise_iff_getElem.mp asc j m lj lm (by omega)
    omega
theorem asc_ext : ∀ {a b : List Int}, a.Pairwise (· < ·) → b.Pairwise (· < ·) → (∀ x, x ∈ a ↔ x ∈ b) → a = b
  | [], [], _, _, _ => rfl
  | [], y :: b, _, _, h => absurd ((h y).mpr List.mem_cons_self) (by simp)
  | x :: a, [], _, _, h => absurd ((h x).mp List.mem_cons_self) (by simp)
  | x :: a, y :: b, ha, hb, h => by
    obtain ⟨ha1, ha2⟩ := List.pairwise_cons.mp ha
    obtain ⟨hb1, hb2⟩ := List.pairwise_cons.mp hb
    have exy : x = y := by
      rcases List.mem_cons.mp ((h x).mp List.mem_cons_self) with e | e
      · exact e
      · rcases List.mem_cons.mp ((h y).mpr List.mem_cons_self) with e' | e'
        · exact e'.symm
        · have h1 := hb1 x e
          have h2 := ha1 y e'
          omega
    subst exy
    congr 1
    refine asc_ext ha2 hb2 fun z => ⟨fun hz => ?_, fun hz => ?_⟩
    · rcases List.mem_cons.mp ((h z).mp (List.mem_cons_of_mem _ hz)) with e | e
      · have := ha1 z hz
        omega
      · exact e
    · rcases List.mem_cons.mp ((h z).mpr (List.mem_cons_of_mem _ hz)) with e | e
      · have := hb1 z hz
        omega
      · exact e
/-! the least busy one -/
def lbS (w b : Nat → Nat) (best at_ : Nat) : Nat := if (b at_ + 1) * w best < (b best + 1) * w at_ then at_ else best
def lbF (w b : Nat → Nat) : List Nat → Nat
  | [] => 0
  | x :: xs => xs.foldl (lbS w b) x
theorem lbS_self (w b : Nat → Nat) (x : Nat) : lbS w b x x = x := by
  unfold lbS
  split <;> rfl
theorem lbF_all (w b : Nat → Nat) (x : Nat) (xs : List Nat) : (x :: xs).foldl (lbS w b) x = lbF w b (x :: xs) := by
  rw [List.foldl_cons, lbS_self]
  rfl
theorem fold_take {w b : Nat → Nat} {x0 : Nat} {ns : List Nat} {j c : Nat} (h : ns[j]? = some c) : (ns.take (j + 1)).foldl (lbS w b) x0 = lbS w b ((ns.take j).foldl (lbS w b) x0) c := by
  rw [List.take_add_one, h, List.foldl_append]
  rfl
theorem fold_mem {w b : Nat → Nat} : ∀ {ns : List Nat} {x0 : Nat}, ns.foldl (lbS w b) x0 = x0 ∨ ns.foldl (lbS w b) x0 ∈ ns
  | [], _ => .inl rfl
  | y :: ns, x0 => by
    rw [List.foldl_cons]
    have e : lbS w b x0 y = x0 ∨ lbS w b x0 y = y := by
      unfold lbS
      split
      · exact .inr rfl
      · exact .inl rfl
    rcases fold_mem (w := w) (b := b) (ns := ns) (x0 := lbS w b x0 y) with h | h
    · rw [h]
      rcases e with e | e
      · exact .inl e
      · exact .inr (by rw [e]; exact List.mem_cons_self)
    · exact .inr (List.mem_cons_of_mem _ h)
end Sc

end
/-! ## LcH -/
section
set_option linter.all false
set_option maxRecDepth 100000
namespace Ag
open PySem PySem.Spec PyProof.Rows L2
/-- a comprehension without tests, each item as v says of the heap and its place -/
theorem lc_allH {J : It} {n : Nat} {G : Hp → Prop} {Y : Nat → Hp → V → Hp → Prop} (w : Walk J n G Y) {g : TG} {te : TE} {vs : List Nat} {σ : L2.St} {H1 : Hp} {D : Addr} {Qd : Hp → Prop} (R : Hp → Prop) (v : Hp → Nat → V → Prop) (hn : n ≤ 16000000) (r0 : R H1) (rD : ∀ H o, R H → R (upd H D o))
    (vD : ∀ H o j y, v H j y → v (upd H D o) j y) (hG : ∀ H, R H → G H)
    (hs : ∀ i x H H' xs (k : VK), i < n → R H → H D = some (.lst xs) → Y i H x H' → (∀ y H4, (∀ j z, v H j z → v H4 j z) → v H4 i y → R H4 → H4 D = some (.lst xs) → k y H4) → g x (wipe σ vs) H' fun σ2 H2 => wipe σ2 vs = wipe σ vs ∧ te σ2 H2 k)
    (hd : ∀ H xs, xs.length = n → (∀ i y, xs[i]? = some y → v H i y) → R H → H D = some (.lst xs) → Qd H) :
    ∃ W : Nat → Nat → Hp → Prop, (∃ m, W 0 m (upd H1 D (.lst []))) ∧ ∀ i m H, W i m H →
      (J.stop i H ∧ Qd H) ∨ (J.go i H ∧ ∃ Nx : Hp → Prop, (∀ H', Nx H' → ∃ m', m' < m ∧ W (i + 1) m' H') ∧ ∀ x H', J.yld i H x H' → g x (wipe σ vs) H' fun σ2 H2 => wipe σ2 vs = wipe σ vs ∧ tYes σ2 H2 fun b H3 =>
        if b = true then te σ2 H3 fun y H4 => ∃ acc, H4 D = some (.lst acc) ∧ acc.length < sizeLine ∧ Nx (upd H4 D (.lst (acc ++ [y]))) else Nx H3) := by
  refine lc_it (g := g) (tt := tYes) (te := te) (vs := vs) (σ := σ) w (fun i H => ∃ xs : List V, xs.length = i ∧ (∀ j y, xs[j]? = some y → v H j y) ∧ R H ∧ H D = some (.lst xs)) ⟨[], rfl, fun j y h => by simp at h, rD _ _ r0, upd_same⟩ (fun i H hi p => ?_) (fun i x H H' hi p hy => ?_) (fun H p => ?_)
  · obtain ⟨xs, _, _, r, _⟩ := p
    exact hG H r
  · obtain ⟨xs, hl, hv, r, hD⟩ := p
    refine hs i x H H' xs _ hi r hD hy ?_
    rintro y H4 keep hvy r4 h4
    refine ⟨xs, h4, ?_, xs ++ [y], by simp [hl], fun j z hz => vD _ _ _ _ ?_, rD _ _ r4, upd_same⟩
    · rw [sizeLine_eq]; omega
    · rw [List.getElem?_append] at hz
      split at hz
      · exact keep j z (hv j z hz)
      · rename_i hj
        have e : j - xs.length = 0 := by
          cases hq : j - xs.length with
          | zero => rfl
          | succ k => rw [hq] at hz; simp at hz
        rw [e] at hz
        simp at hz
        subst hz
        have : j = i := by omega
        subst this
        exact hvy
  · obtain ⟨xs, hl, hv, r, hD⟩ := p
    exact hd H xs hl hv r hD
end Ag

end
/-! ## Rep -/
section
set_option linter.all false
set_option maxRecDepth 100000
namespace Ag
open PySem PySem.Spec PyProof.Rows L2
open SX (S S_len S_cat S_inj)
theorem toStr (n : Nat) : (Str.ofString (toString ((n : Nat) : Int))) = S (numL n) := SX.num_S n
theorem log_small {n : Nat} (h : n < 2 ^ 200) : ((n : Nat) : Int).natAbs.log2 < 1920 := by
  rw [Int.natAbs_natCast]
  by_cases z : n = 0
  · subst z; decide
  · have h2 : n < 2 ^ 1920 := Nat.lt_of_lt_of_le h (Nat.pow_le_pow_right (by decide) (by decide))
    exact (Nat.log2_lt z).mpr h2
theorem hu66 {k : Nat} {A : Around} (hr : Room k A) : A.units + 66 < cLine := by have := hr.un; omega
def asc (l : List Nat) : Prop := ∀ c ∈ l, c < 128
/-! data whose texts are ascii, and whose ints are small -/
mutual
def okD : PyData → Bool
  | .none => true
  | .bool _ => true
  | .int i => decide (0 ≤ i) && decide (i ≤ 1000000000000000000)
  | .str x => x.cps.toList.all (· < 128)
  | .list xs => okAll xs
  | .tuple xs => okAll xs
  | .dict _ => false
def okAll : List PyData → Bool
  | [] => true
  | x :: xs => okD x && okAll xs
end
theorem shown_small {i : Int} (h0 : 0 ≤ i) (h1 : i ≤ 1000000000000000000) : (PyData.int i).shown.length ≤ 22 := by
  rw [PyData.shown_int]
  obtain ⟨n, rfl⟩ := Int.eq_ofNat_of_zero_le h0
  rw [toStr, S_len]
  have : (numL n).length ≤ 19 := TL.numL_len (by decide) (by omega)
  omega
mutual
theorem ok_all4 : ∀ d : PyData, okD d = true → d.showable = true ∧ d.hasDict = false ∧ d.canLay0 = true ∧ d.leavesShort 22 = true
  | .none, _ => by simp [PyData.showable, PyData.hasDict, PyData.canLay0, PyData.leavesShort]
  | .bool _, _ => by simp [PyData.showable, PyData.hasDict, PyData.canLay0, PyData.leavesShort]
  | .int i, h => by
    simp only [okD, Bool.and_eq_true, decide_eq_true_eq] at h
    obtain ⟨n, rfl⟩ := Int.eq_ofNat_of_zero_le h.1
    have hs := shown_small h.1 h.2
    have hl : ((n : Int)).natAbs.log2 < 1920 := log_small (Nat.lt_of_le_of_lt (show n ≤ 1000000000000000000 by omega) (by decide))
    simp only [PyData.showable, PyData.hasDict, PyData.canLay0, PyData.leavesShort, decide_eq_true_eq]
    exact ⟨hl, trivial, trivial, hs⟩
  | .str x, h => by
    simp only [okD, List.all_eq_true, decide_eq_true_eq] at h
    simp only [PyData.showable, PyData.hasDict, PyData.canLay0, PyData.leavesShort]
    refine ⟨trivial, trivial, ?_, ?_⟩
    · unfold PyData.strOk
      rw [← Array.all_toList, List.all_eq_true]
      intro c hc
      have := h c hc
      simp
      omega
    · rw [List.all_eq_true]
      intro c hc
      have := h c hc
      simp
      omega
  | .list xs, h => by
    have := ok_allA xs (by simpa only [okD] using h)
    simpa only [PyData.showable, PyData.hasDict, PyData.canLay0, PyData.leavesShort] using this
  | .tuple xs, h => by
    have := ok_allA xs (by simpa only [okD] using h)
    simpa only [PyData.showable, PyData.hasDict, PyData.canLay0, PyData.leavesShort] using this
  | .dict _, h => by simp [okD] at h
theorem ok_allA : ∀ xs : List PyData, okAll xs = true → PyData.showableAll xs = true ∧ PyData.hasDictAll xs = false ∧ PyData.canLayAll0 xs = true ∧ PyData.leavesShortAll 22 xs = true
  | [], _ => by simp [PyData.showableAll, PyData.hasDictAll, PyData.canLayAll0, PyData.leavesShortAll]
  | x :: xs, h => by
    simp only [okAll, Bool.and_eq_true] at h
    obtain ⟨a1, a2, a3, a4⟩ := ok_all4 x h.1
    obtain ⟨b1, b2, b3, b4⟩ := ok_allA xs h.2
    simp only [PyData.showableAll, PyData.hasDictAll, PyData.canLayAll0, PyData.leavesShortAll, a1, a2, a3, a4, b1, b2, b3, b4]
    exact ⟨rfl, rfl, rfl, rfl⟩
end
structure Fit (d : PyData) : Prop where
  ok : okD d = true
  dp : d.depth ≤ 60
  bk : d.bulk ≤ 500000
theorem Fit.shown {d : PyData} (f : Fit d) : d.showable = true ∧ d.hasDict = false ∧ d.depth ≤ 64 ∧ d.shown.length ≤ sizeLine := by
  obtain ⟨a1, a2, a3, a4⟩ := ok_all4 d f.ok
  refine ⟨a1, a2, by have := f.dp; omega, ?_⟩
  have := PyData.shown_le_bulk 22 (by decide) d a4
  have := f.bk
  rw [sizeLine_eq]
  omega
theorem Fit.shaped {d : PyData} (f : Fit d) : SeqAt.shaped d = true := by
  obtain ⟨a1, a2, a3, a4⟩ := ok_all4 d f.ok
  unfold SeqAt.shaped
  rw [a3, decide_eq_true (by have := f.dp; omega)]
  rfl
theorem Fit.refl {d : PyData} (f : Fit d) : PyData.eqv d d = true := SeqAt.eqv_refl d (ok_all4 d f.ok).2.2.1
theorem ok_str {l : List Nat} (h : asc l) : okD (.str (S l)) = true := by
  simp only [okD]
  rw [List.all_eq_true]
  intro c hc
  simpa using h c hc
/-- small data: how deep, how much -/
structure Sm (d : PyData) (n b : Nat) : Prop where
  ok : okD d = true
  dp : d.depth ≤ n
  bk : d.bulk ≤ b
structure SmA (ds : List PyData) (n b : Nat) : Prop where
  ok : okAll ds = true
  dp : PyData.depthAll ds ≤ n
  bk : PyData.bulkAll ds ≤ b
theorem Sm.fit {d : PyData} {n b : Nat} (h : Sm d n b) (hn : n ≤ 60) (hb : b ≤ 500000) : Fit d := ⟨h.ok, by have := h.dp; omega, by have := h.bk; omega⟩
theorem SmA.nil {n b : Nat} : SmA [] n b := ⟨by simp [okAll], by simp [PyData.depthAll], by simp [PyData.bulkAll]⟩
theorem SmA.cons {d : PyData} {ds : List PyData} {n b b1 b2 : Nat} (h : Sm d n b1) (k : SmA ds n b2) (hb : b1 + b2 + 2 ≤ b) : SmA (d :: ds) n b := by
  refine ⟨?_, ?_, ?_⟩
  · simp only [okAll, h.ok, k.ok]
    rfl
  · simp only [PyData.depthAll]
    have := h.dp
    have := k.dp
    omega
  · simp only [PyData.bulkAll]
    have := h.bk
    have := k.bk
    omega
theorem Sm.tup {ds : List PyData} {n b : Nat} (h : SmA ds n b) : Sm (.tuple ds) (n + 1) (b + 2) := by
  refine ⟨?_, ?_, ?_⟩
  · simp only [okD]
    exact h.ok
  · simp only [PyData.depth]
    have := h.dp
    omega
  · simp only [PyData.bulk]
    have := h.bk
    omega
theorem Sm.lst {ds : List PyData} {n b : Nat} (h : SmA ds n b) : Sm (.list ds) (n + 1) (b + 2) := by
  refine ⟨?_, ?_, ?_⟩
  · simp only [okD]
    exact h.ok
  · simp only [PyData.depth]
    have := h.dp
    omega
  · simp only [PyData.bulk]
    have := h.bk
    omega
theorem Sm.str {l : List Nat} {n b : Nat} (h : asc l) (hb : l.length + 2 ≤ b) : Sm (.str (S l)) n b := by
  refine ⟨ok_str h, by simp [PyData.depth], ?_⟩
  simp only [PyData.bulk]
  rw [show (S l).cps.size = l.length from List.size_toArray ..]
  omega
theorem Sm.int {k n b : Nat} (h : k ≤ 1000000000000000000) (hb : 2 ≤ b) : Sm (.int (k : Int)) n b := by
  refine ⟨?_, by simp [PyData.depth], ?_⟩
  · simp only [okD, Bool.and_eq_true, decide_eq_true_eq]
    omega
  · simp only [PyData.bulk]
    omega
theorem Sm.bool {c : Bool} {n b : Nat} (hb : 2 ≤ b) : Sm (.bool c) n b := by
  refine ⟨by simp [okD], by simp [PyData.depth], ?_⟩
  simp only [PyData.bulk]
  omega
theorem Sm.mono {d : PyData} {n m b c : Nat} (h : Sm d n b) (hn : n ≤ m) (hb : b ≤ c) : Sm d m c := ⟨h.ok, Nat.le_trans h.dp hn, Nat.le_trans h.bk hb⟩
end Ag

end
/-! ## Prog -/
section
set_option linter.all false
set_option maxRecDepth 100000
namespace Ag
open PySem PySem.Spec PyProof.Rows L2
/-! ### the text by places -/
def top (i : Nat) : Stmt := PySem.Challenge.pw_answergate_k20_whole_least_busy_and_by_k.main.body.getD i (.Pass ⟨0, 0, 0, 0⟩)
abbrev s_is_integer : Stmt := top 2
abbrev N_is_integer : List Str := ["thing"]
theorem sc_is_integer : FnScope N_is_integer ["thing"] (defScope s_is_integer) := ⟨rfl, rfl, rfl, by decide +kernel, rfl, by decide +kernel, by decide +kernel⟩
abbrev s_is_word : Stmt := top 3
abbrev N_is_word : List Str := ["thing"]
theorem sc_is_word : FnScope N_is_word ["thing"] (defScope s_is_word) := ⟨rfl, rfl, rfl, by decide +kernel, rfl, by decide +kernel, by decide +kernel⟩
abbrev s_is_pool : Stmt := top 16
abbrev N_is_pool : List Str := ["thing", "pair"]
theorem sc_is_pool : FnScope N_is_pool ["thing"] (defScope s_is_pool) := ⟨rfl, rfl, rfl, by decide +kernel, rfl, by decide +kernel, by decide +kernel⟩
abbrev s_is_share : Stmt := top 17
abbrev N_is_share : List Str := ["thing", "label", "weight"]
theorem sc_is_share : FnScope N_is_share ["thing"] (defScope s_is_share) := ⟨rfl, rfl, rfl, by decide +kernel, rfl, by decide +kernel, by decide +kernel⟩
abbrev s_is_lot : Stmt := top 18
abbrev N_is_lot : List Str := ["pool", "thing", "at"]
theorem sc_is_lot : FnScope N_is_lot ["pool", "thing"] (defScope s_is_lot) := ⟨rfl, rfl, rfl, by decide +kernel, rfl, by decide +kernel, by decide +kernel⟩
abbrev s_are_loads : Stmt := top 19
abbrev N_are_loads : List Str := ["pool", "thing", "load"]
theorem sc_are_loads : FnScope N_are_loads ["pool", "thing"] (defScope s_are_loads) := ⟨rfl, rfl, rfl, by decide +kernel, rfl, by decide +kernel, by decide +kernel⟩
abbrev s_least_busy : Stmt := top 20
abbrev N_least_busy : List Str := ["pool", "lot", "busy", "best", "at"]
theorem sc_least_busy : FnScope N_least_busy ["pool", "lot", "busy"] (defScope s_least_busy) := ⟨rfl, rfl, rfl, by decide +kernel, rfl, by decide +kernel, by decide +kernel⟩
abbrev s_by_key : Stmt := top 21
abbrev N_by_key : List Str := ["pool", "lot", "key", "scores", "at"]
theorem sc_by_key : FnScope N_by_key ["pool", "lot", "key"] (defScope s_by_key) := ⟨rfl, rfl, rfl, by decide +kernel, rfl, by decide +kernel, by decide +kernel⟩
abbrev s_check_lot : Stmt := top 22
abbrev N_check_lot : List Str := ["pool", "lot"]
theorem sc_check_lot : FnScope N_check_lot ["pool", "lot"] (defScope s_check_lot) := ⟨rfl, rfl, rfl, by decide +kernel, rfl, by decide +kernel, by decide +kernel⟩
abbrev s_score : Stmt := top 23
abbrev N_score : List Str := ["key", "label", "word", "value", "char"]
theorem sc_score : FnScope N_score ["key", "label"] (defScope s_score) := ⟨rfl, rfl, rfl, by decide +kernel, rfl, by decide +kernel, by decide +kernel⟩
abbrev s__law_deck : Stmt := top 25
abbrev N__law_deck : List Str := ["_law_script", "_law_mixed", "_law_cell"]
theorem sc__law_deck : FnScope N__law_deck ["_law_script"] (defScope s__law_deck) := ⟨rfl, rfl, rfl, by decide +kernel, rfl, by decide +kernel, by decide +kernel⟩
abbrev s__law_draw : Stmt := top 26
abbrev N__law_draw : List Str := ["_law_deck_here", "_law_many", "_law_figure", "_law_cell"]
theorem sc__law_draw : FnScope N__law_draw ["_law_deck_here", "_law_many"] (defScope s__law_draw) := ⟨rfl, rfl, rfl, by decide +kernel, rfl, by decide +kernel, by decide +kernel⟩
abbrev s__law_pick : Stmt := top 27
abbrev N__law_pick : List Str := ["_law_deck_here", "_law_some"]
theorem sc__law_pick : FnScope N__law_pick ["_law_deck_here", "_law_some"] (defScope s__law_pick) := ⟨rfl, rfl, rfl, by decide +kernel, rfl, by decide +kernel, by decide +kernel⟩
abbrev s__law_score : Stmt := top 28
abbrev N__law_score : List Str := ["_law_key", "_law_label", "_law_found", "_law_sign"]
theorem sc__law_score : FnScope N__law_score ["_law_key", "_law_label"] (defScope s__law_score) := ⟨rfl, rfl, rfl, by decide +kernel, rfl, by decide +kernel, by decide +kernel⟩
abbrev s__law_by_key : Stmt := top 29
abbrev N__law_by_key : List Str := ["_law_pool", "_law_lot", "_law_key", "_law_at"]
theorem sc__law_by_key : FnScope N__law_by_key ["_law_pool", "_law_lot", "_law_key"] (defScope s__law_by_key) := ⟨rfl, rfl, rfl, by decide +kernel, rfl, by decide +kernel, by decide +kernel⟩
abbrev s__law_least_busy : Stmt := top 30
abbrev N__law_least_busy : List Str := ["_law_pool", "_law_lot", "_law_busy", "_law_found", "_law_at"]
theorem sc__law_least_busy : FnScope N__law_least_busy ["_law_pool", "_law_lot", "_law_busy"] (defScope s__law_least_busy) := ⟨rfl, rfl, rfl, by decide +kernel, rfl, by decide +kernel, by decide +kernel⟩
abbrev s__law_word : Stmt := top 31
abbrev N__law_word : List Str := ["_law_deck_here", "_law_many", "_law_letter"]
theorem sc__law_word : FnScope N__law_word ["_law_deck_here"] (defScope s__law_word) := ⟨rfl, rfl, rfl, by decide +kernel, rfl, by decide +kernel, by decide +kernel⟩
abbrev s__law_words : Stmt := top 32
abbrev N__law_words : List Str := ["_law_deck_here", "_law_many", "_law_found", "_law_turn", "_law_word_here", "_law_letter"]
theorem sc__law_words : FnScope N__law_words ["_law_deck_here", "_law_many"] (defScope s__law_words) := ⟨rfl, rfl, rfl, by decide +kernel, rfl, by decide +kernel, by decide +kernel⟩
abbrev s__law_twin_label : Stmt := top 33
abbrev N__law_twin_label : List Str := ["_law_deck_here", "_law_label", "_law_at", "_law_codes", "_law_letters", "_law_twin", "_law_sign"]
theorem sc__law_twin_label : FnScope N__law_twin_label ["_law_deck_here", "_law_label"] (defScope s__law_twin_label) := ⟨rfl, rfl, rfl, by decide +kernel, rfl, by decide +kernel, by decide +kernel⟩
abbrev s__law_drawn_pool : Stmt := top 34
abbrev N__law_drawn_pool : List Str := ["_law_deck_here", "_law_many", "_law_labels", "_law_pair", "_law_most", "_law_label"]
theorem sc__law_drawn_pool : FnScope N__law_drawn_pool ["_law_deck_here"] (defScope s__law_drawn_pool) := ⟨rfl, rfl, rfl, by decide +kernel, rfl, by decide +kernel, by decide +kernel⟩
abbrev s__law_drawn_lot : Stmt := top 35
abbrev N__law_drawn_lot : List Str := ["_law_deck_here", "_law_many", "_law_found", "_law_at"]
theorem sc__law_drawn_lot : FnScope N__law_drawn_lot ["_law_deck_here", "_law_many"] (defScope s__law_drawn_lot) := ⟨rfl, rfl, rfl, by decide +kernel, rfl, by decide +kernel, by decide +kernel⟩
abbrev s__law_drawn_busy : Stmt := top 36
abbrev N__law_drawn_busy : List Str := ["_law_deck_here", "_law_pool", "_law_way", "_law_times", "_law_one", "_law_weight", "_law_label"]
theorem sc__law_drawn_busy : FnScope N__law_drawn_busy ["_law_deck_here", "_law_pool"] (defScope s__law_drawn_busy) := ⟨rfl, rfl, rfl, by decide +kernel, rfl, by decide +kernel, by decide +kernel⟩
abbrev s__law_are_changes_right : Stmt := top 37
abbrev N__law_are_changes_right : List Str := ["_law_pool", "_law_lot", "_law_key", "_law_told", "_law_at", "_law_more", "_law_found", "_law_rest", "_law_other"]
theorem sc__law_are_changes_right : FnScope N__law_are_changes_right ["_law_pool", "_law_lot", "_law_key", "_law_told"] (defScope s__law_are_changes_right) := ⟨rfl, rfl, rfl, by decide +kernel, rfl, by decide +kernel, by decide +kernel⟩
abbrev s_law : Stmt := top 38
abbrev N_law : List Str := ["_law_script", "_law_deck_here", "_law_pool", "_law_turn", "_law_lot", "_law_busy", "_law_key", "_law_told", "_law_label", "_law_weight", "_law_more", "_law_less"]
theorem sc_law : FnScope N_law ["_law_script"] (defScope s_law) := ⟨rfl, rfl, rfl, by decide +kernel, rfl, by decide +kernel, by decide +kernel⟩
structure Fn (K : PySem.W.Frag) (mg : Str → Option Value) (x : Str) (st : Stmt) (ps : List Str) (f : Addr) (fd : FuncData) : Prop where
  F : Fun K x x st f fd
  b : Binds K fd ps []
  g : mg x = some (.ref f)
structure Blt (mg : Str → Option Value) : Prop where
  n_len : mg "len" = none
  n_int : mg "int" = none
  n_str : mg "str" = none
  n_isinstance : mg "isinstance" = none
  n_range : mg "range" = none
  n_tuple : mg "tuple" = none
  n_list : mg "list" = none
  n_max : mg "max" = none
  n_min : mg "min" = none
  n_repr : mg "repr" = none
  n_bool : mg "bool" = none
  n_all : mg "all" = none
  n_set : mg "set" = none
  n_sorted : mg "sorted" = none
  n_ord : mg "ord" = none
structure Con (mg : Str → Option Value) (tw tp tg t1 t2 t3 : Tok) : Prop extends Blt mg where
  g_WORD_MOST : mg "WORD_MOST" = some (.int 10 tw)
  g_POOL_MOST : mg "POOL_MOST" = some (.int 8 tp)
  g_WEIGHT_MOST : mg "WEIGHT_MOST" = some (.int 100 tg)
  g_SCORE_START : mg "SCORE_START" = some (.int 7 t1)
  g_SCORE_FACTOR : mg "SCORE_FACTOR" = some (.int 251 t2)
  g_SCORE_MODULUS : mg "SCORE_MODULUS" = some (.int 65521 t3)
end Ag

end
/-! ## T1 -/
section
set_option linter.all false
set_option maxRecDepth 100000
namespace Ag
open PySem PySem.Spec PyProof.Rows L2
open SX (S S_len S_cat S_inj)
theorem sz {n : Nat} (h : n ≤ 16000000) : n ≤ sizeLine := by rw [sizeLine_eq]; omega
theorem same_new {H : Hp} {p : Addr} {o : HO} (h : H p = none) : Same H (upd H p o) := fun b x e => by
  rw [upd_ne (ne_of_none e h)]
  exact e
theorem ascii_S (l : List Nat) : Txt.isascii (S l) = l.all (· < 128) := by
  show (S l).cps.all _ = _
  rw [← Array.all_toList]
theorem printable_S (l : List Nat) : Txt.isprintable (S l) = l.all Unicode.isPrintable := by
  show (S l).cps.all _ = _
  rw [← Array.all_toList]
def azC (c : Nat) : Bool := decide (97 ≤ c) && decide (c ≤ 122)
def wordL (l : List Nat) : Bool := (decide (1 ≤ l.length) && decide (l.length ≤ 10)) && l.all azC
theorem alpha128 : ∀ c < 128, Unicode.isAlpha c = ((decide (65 ≤ c) && decide (c ≤ 90)) || azC c) := by decide +kernel
theorem lower128 : ∀ c < 128, Unicode.isLower c = azC c := by decide +kernel
theorem upper128 : ∀ c < 128, (Unicode.isUpper c || Unicode.isTitle c) = (decide (65 ≤ c) && decide (c ≤ 90)) := by decide +kernel
theorem word_of {l : List Nat} (ha : l.all (· < 128) = true) (hne : l ≠ []) : (Txt.isalpha (S l) && Txt.islower (S l)) = l.all azC := by
  have e1 : Txt.isalpha (S l) = l.all Unicode.isAlpha := by
    show (decide ((S l).length > 0) && (S l).cps.all _) = _
    rw [← Array.all_toList, S_len, decide_eq_true (by cases l; exact absurd rfl hne; simp), Bool.true_and]
  have e2 : Txt.islower (S l) = (l.any Unicode.isLower && !l.any fun c => Unicode.isUpper c || Unicode.isTitle c) := by
    show ((S l).cps.any _ && !(S l).cps.any _) = _
    rw [← Array.any_toList, ← Array.any_toList]
  have lt : ∀ c ∈ l, c < 128 := fun c hc => by simpa using List.all_eq_true.mp ha c hc
  rw [e1, e2, Bool.eq_iff_iff]
  simp only [Bool.and_eq_true, List.all_eq_true, List.any_eq_true, Bool.not_eq_true', List.any_eq_false]
  constructor
  · rintro ⟨h1, _, h3⟩ c hc
    have a1 := h1 c hc
    have a3 := h3 c hc
    rw [upper128 c (lt c hc)] at a3
    rw [alpha128 c (lt c hc), Bool.or_eq_true] at a1
    rcases a1 with a1 | a1
    · rw [a1] at a3
      exact absurd rfl a3
    · exact a1
  · intro h
    refine ⟨fun c hc => ?_, ?_, fun c hc => ?_⟩
    · rw [alpha128 c (lt c hc), h c hc, Bool.or_true]
    · cases l with
      | nil => exact absurd rfl hne
      | cons c l => exact ⟨c, List.mem_cons_self, by rw [lower128 c (lt c List.mem_cons_self)]; exact h c List.mem_cons_self⟩
    · rw [upper128 c (lt c hc)]
      have := h c hc
      simp only [azC, Bool.and_eq_true, decide_eq_true_eq] at this
      simp
      omega
theorem bl_t {p : Prop} [Decidable p] (h : p) {Q : VK} {H : Hp} (q : Q (.bl true) H) : Q (.bl (decide p)) H := by rw [decide_eq_true h]; exact q
theorem iteB {b : Bool} (h : b = true) {p q : Prop} (hp : p) : if b = true then p else q := by rw [if_pos h]; exact hp
theorem iteC {b : Bool} (h : b = false) {p q : Prop} (hq : q) : if b = true then p else q := by rw [if_neg (by rw [h]; decide)]; exact hq
theorem map_at {α β : Type} (l : List α) (F : Option α → β) : (List.range l.length).map (fun i => F l[i]?) = l.map fun e => F (some e) := by
  refine List.ext_getElem? fun i => ?_
  rw [List.getElem?_map, List.getElem?_map]
  by_cases h : i < l.length
  · rw [List.getElem?_range h, List.getElem?_eq_getElem h]
    simp [h]
  · rw [List.getElem?_eq_none (by simpa using h), List.getElem?_eq_none (by omega)]
    rfl
/-! ### pools -/
def PlI (H : Hp) (ts : List Addr) (ps : List (List Nat × Nat)) : Prop := ts.length = ps.length ∧ ∀ (j : Nat) (t : Addr), ts[j]? = some t → ∃ e : List Nat × Nat, ps[j]? = some e ∧ H t = some (.tup [.str (S e.1), .int (e.2 : Nat)])
structure PlOk (ps : List (List Nat × Nat)) : Prop where
  n1 : 1 ≤ ps.length
  n8 : ps.length ≤ 8
  wd : ∀ e ∈ ps, wordL e.1 = true
  wt : ∀ e ∈ ps, 1 ≤ e.2 ∧ e.2 ≤ 100
  nd : (ps.map Prod.fst).Nodup
structure Pool (a : Addr) (ts : List Addr) (ps : List (List Nat × Nat)) (H : Hp) : Prop where
  at_ : H a = some (.tup (ts.map V.ref))
  it : PlI H ts ps
  ok : PlOk ps
theorem PlI.to {H H' : Hp} {ts : List Addr} {ps : List (List Nat × Nat)} (h : PlI H ts ps) (s : Same H H') : PlI H' ts ps := ⟨h.1, fun j t e => by
  obtain ⟨x, h1, h2⟩ := h.2 j t e
  exact ⟨x, h1, s _ _ h2⟩⟩
theorem Pool.to {a : Addr} {ts : List Addr} {ps : List (List Nat × Nat)} {H H' : Hp} (p : Pool a ts ps H) (s : Same H H') : Pool a ts ps H' := ⟨s _ _ p.at_, p.it.to s, p.ok⟩
theorem PlI.get {H : Hp} {ts : List Addr} {ps : List (List Nat × Nat)} (h : PlI H ts ps) {j : Nat} {y : V} (hy : (ts.map V.ref)[j]? = some y) : ∃ t e, y = .ref t ∧ ts[j]? = some t ∧ ps[j]? = some e ∧ H t = some (.tup [.str (S e.1), .int (e.2 : Nat)]) := by
  rw [List.getElem?_map] at hy
  cases e : ts[j]? with
  | none => rw [e] at hy; cases hy
  | some t =>
    rw [e] at hy
    obtain ⟨x, h1, h2⟩ := h.2 j t e
    exact ⟨t, x, (Option.some.inj hy).symm, rfl, h1, h2⟩
section
variable {P : Program} {w : World} {K : PySem.W.Frag} {mg : Str → Option Value} {base : Heap} {tw tp tg t1 t2 t3 : Tok}
def spInteger : Sp := fun vs H Q _ => ∃ i : Int, vs = [.int i] ∧ Q (.bl true) H
theorem ok_is_integer {f : Addr} {fd : FuncData} (F : Fn K mg "is_integer" s_is_integer ["thing"] f fd) (B : Blt mg) : FnOk P w K mg base CX0 1 f fd ["thing"] spInteger := by
  refine F.F.ok sc_is_integer (fun vs H Q E h => ?_) (fun cdv A outer s H vs Q E hr h => ?_)
  · obtain ⟨x, rfl, _⟩ := h
    rfl
  · obtain ⟨x, rfl, q⟩ := h
    refine ⟨_, (pss_one (ps_ret (pe_and (pe_callB call_isi (by rfl) B.n_isinstance (by decide +kernel) (pa_cons (pv 0) (pa_cons (pe_bltn (v := .ty "int") (by rfl) B.n_int (by decide +kernel) rfl) pa_nil))) (pe_one (pe_not (pe_callB call_isi (by rfl) B.n_isinstance (by decide +kernel) (pa_cons (pv 0) (pa_cons (pe_bltn (v := .ty "bool") (by rfl) B.n_bool (by decide +kernel) rfl) pa_nil)))))))), ?_⟩
    refine ⟨.int x, rfl, .int x, .ty "int", _, _, true, rfl, .ty "int", .base (.int _), kit_ty (by decide +kernel), _, rfl, iteT ?_⟩
    exact ⟨.int x, rfl, .int x, .ty "bool", _, _, false, rfl, .ty "bool", .base (.int _), kit_ty (by decide +kernel), _, rfl, q⟩
def spWord : Sp := fun vs H Q _ => ∃ l : List Nat, vs = [.str (S l)] ∧ wordL l = true ∧ Q (.bl true) H
theorem ok_is_word {f : Addr} {fd : FuncData} (F : Fn K mg "is_word" s_is_word ["thing"] f fd) (B : Con mg tw tp tg t1 t2 t3) : FnOk P w K mg base CX0 1 f fd ["thing"] spWord := by
  refine F.F.ok sc_is_word (fun vs H Q E h => ?_) (fun cdv A outer s H vs Q E hr h => ?_)
  · obtain ⟨l, rfl, _⟩ := h
    rfl
  · obtain ⟨l, rfl, hw, q⟩ := h
    refine ⟨_, (pss_cons (ps_if (PW.pt (pw_or (pt_not (pt_val (pe_callB call_isi (by rfl) B.n_isinstance (by decide +kernel) (pa_cons (pv 0) (pa_cons (pe_bltn (v := .ty "str") (by rfl) B.n_str (by decide +kernel) rfl) pa_nil))))) (pw_or1 (pt_not (pt_chain op_le op_le pe_int (pe_callB call_len_str (by rfl) B.n_len PySem.boot_len (pa_cons (pv 0) pa_nil)) (pe_glob (v := .int 10) rfl B.g_WORD_MOST ⟨_, rfl⟩))))))
      (pss_one (ps_ret pe_bl))
      pss_nil)
      (pss_one (ps_ret (pe_and (pe_m0 PySem.F.slot_str_isascii PySem.F.type_str_isascii mt_isascii (pv 0)) (pe_and (pe_m0 PySem.F.slot_str_isalpha PySem.F.type_str_isalpha mt_isalpha (pv 0)) (pe_one (pe_m0 PySem.F.slot_str_islower PySem.F.type_str_islower mt_islower (pv 0)))))))), ?_⟩
    have hw' := hw
    unfold wordL at hw'
    rw [Bool.and_eq_true, Bool.and_eq_true, decide_eq_true_eq, decide_eq_true_eq] at hw'
    obtain ⟨⟨l1, l10⟩, haz⟩ := hw'
    refine ⟨_, rfl, .str (S l), .ty "str", _, _, true, rfl, .ty "str", .base (.str _), kit_ty (by decide +kernel), _, rfl, iteF ?_⟩
    refine ⟨_, rfl, S l, rfl, sz (by rw [S_len]; omega), _, _, rfl, rfl, _, rfl, ?_⟩
    rw [S_len, decide_eq_true (by omega : (1 : Int) ≤ (l.length : Int))]
    refine iteT ⟨_, _, rfl, rfl, _, rfl, ?_⟩
    have hne : l ≠ [] := by
      rintro rfl
      exact absurd l1 (by decide)
    have has : l.all (· < 128) = true := by
      rw [List.all_eq_true] at haz ⊢
      intro c hc
      have := haz c hc
      simp only [azC, Bool.and_eq_true, decide_eq_true_eq] at this ⊢
      omega
    have wo := word_of has hne
    rw [haz, Bool.and_eq_true] at wo
    have l10' : ((l.length : Nat) : Int) ≤ 10 := by omega
    refine (show (if (!decide (((l.length : Nat) : Int) ≤ 10)) = true then _ else _) from ?_)
    rw [decide_eq_true l10']
    refine iteF ?_
    refine ⟨.str (S l), rfl, ⟨_, rfl⟩, S l, rfl, rfl, trivial, _, rfl, ?_⟩
    rw [ascii_S, has]
    refine iteT ⟨.str (S l), rfl, ⟨_, rfl⟩, S l, rfl, rfl, trivial, _, rfl, ?_⟩
    refine iteB wo.1 ⟨.str (S l), rfl, ⟨_, rfl⟩, S l, rfl, rfl, trivial, ?_⟩
    rw [wo.2]
    exact q
def spShare : Sp := fun vs H Q _ => ∃ t l, ∃ w : Nat, vs = [.ref t] ∧ H t = some (.tup [.str (S l), .int w]) ∧ wordL l = true ∧ 1 ≤ w ∧ w ≤ 100 ∧ Q (.bl true) H
theorem ok_is_share {f f1 f2 : Addr} {fd fd1 fd2 : FuncData} (F : Fn K mg "is_share" s_is_share ["thing"] f fd) (B : Con mg tw tp tg t1 t2 t3) (F_is_word : Fn K mg "is_word" s_is_word ["thing"] f1 fd1) (F_is_integer : Fn K mg "is_integer" s_is_integer ["thing"] f2 fd2) : FnOk P w K mg base CX0 2 f fd ["thing"] spShare := by
  have G_is_word : FnOk P w K mg base CX0 1 f1 fd1 ["thing"] spWord := ok_is_word F_is_word B
  have G_is_integer : FnOk P w K mg base CX0 1 f2 fd2 ["thing"] spInteger := ok_is_integer F_is_integer B.toBlt
  refine F.F.ok sc_is_share (fun vs H Q E h => ?_) (fun cdv A outer s H vs Q E hr h => ?_)
  · obtain ⟨t, l, w, rfl, _⟩ := h
    rfl
  · obtain ⟨t, l, w, rfl, ht, hw, w1, w9, q⟩ := h
    refine ⟨_, (pss_cons (ps_if (PW.pt (pw_or (pt_not (pt_val (pe_callB call_isi (by rfl) B.n_isinstance (by decide +kernel) (pa_cons (pv 0) (pa_cons (pe_bltn (v := .ty "tuple") (by rfl) B.n_tuple (by decide +kernel) rfl) pa_nil))))) (pw_or1 (pt_cmpR op_ne (pe_callB call_len_seq (by rfl) B.n_len PySem.boot_len (pa_cons (pv 0) pa_nil)) pe_int (nomark _)))))
      (pss_one (ps_ret pe_bl))
      pss_nil)
      (pss_cons (ps_asg (pv 0) (pg_tup rfl (pgs_cons (pg_name (i := 1) sc_is_share.nd rfl (Or.inl rfl)) (pgs_cons (pg_name (i := 2) sc_is_share.nd rfl (Or.inl rfl)) pgs_nil))))
      (pss_one (ps_ret (pe_and (pe_call G_is_word (hr.mono (by decide)) (by rfl) F_is_word.g F_is_word.F.kp F_is_word.b .nil pass0 (pa_cons (pv 1) pa_nil)) (pe_and (pe_call G_is_integer (hr.mono (by decide)) (by rfl) F_is_integer.g F_is_integer.F.kp F_is_integer.b .nil pass0 (pa_cons (pv 2) pa_nil)) (pe_one (pe_chain op_le op_le pe_int (pv 2) (pe_glob (v := .int 100) rfl B.g_WEIGHT_MOST ⟨_, rfl⟩))))))))), ?_⟩
    refine ⟨_, rfl, .ref t, .ty "tuple", _, _, true, rfl, .ty "tuple", .base (.tup ht), kit_ty (by decide +kernel), _, rfl, iteF ?_⟩
    refine ⟨_, rfl, t, _, rfl, .inr (SqT.of ht), rfl, _, rfl, iteF ?_⟩
    refine ⟨_, rfl, t, _, rfl, SqT.of ht, rfl, _, _, rfl, _, _, rfl, rfl, ?_⟩
    refine ⟨_, rfl, l, rfl, hw, _, rfl, iteT ⟨_, rfl, w, rfl, _, rfl, iteT ⟨_, rfl, _, _, rfl, rfl, _, rfl, ?_⟩⟩⟩
    rw [decide_eq_true (by omega : (1 : Int) ≤ w)]
    exact iteT ⟨_, _, rfl, rfl, bl_t (by omega) q⟩
def spPool : Sp := fun vs H Q _ => ∃ a ts ps, vs = [.ref a] ∧ Pool a ts ps H ∧ ∀ H', Same H H' → Q (.bl true) H'
theorem ok_is_pool {f f1 : Addr} {fd fd1 : FuncData} (F : Fn K mg "is_pool" s_is_pool ["thing"] f fd) (B : Con mg tw tp tg t1 t2 t3) (F_is_share : Fn K mg "is_share" s_is_share ["thing"] f1 fd1) (G_is_share : FnOk P w K mg base CX0 2 f1 fd1 ["thing"] spShare) : FnOk P w K mg base CX0 3 f fd ["thing"] spPool := by
  refine F.F.ok sc_is_pool (fun vs H Q E h => ?_) (fun cdv A outer s H vs Q E hr h => ?_)
  · obtain ⟨a, ts, ps, rfl, _⟩ := h
    rfl
  · obtain ⟨a, ts, ps, rfl, p, q⟩ := h
    refine ⟨_, (pss_cons (ps_if (PW.pt (pw_or (pt_not (pt_val (pe_callB call_isi (by rfl) B.n_isinstance (by decide +kernel) (pa_cons (pv 0) (pa_cons (pe_bltn (v := .ty "tuple") (by rfl) B.n_tuple (by decide +kernel) rfl) pa_nil))))) (pw_or1 (pt_not (pt_chain op_le op_le pe_int (pe_callB call_len_seq (by rfl) B.n_len PySem.boot_len (pa_cons (pv 0) pa_nil)) (pe_glob (v := .int 8) rfl B.g_POOL_MOST ⟨_, rfl⟩))))))
      (pss_one (ps_ret pe_bl))
      pss_nil)
      (pss_cons (ps_if (pt_not (pt_val (pe_callB (cr_all rfl) (by rfl) B.n_all (by decide +kernel) (pa_cons (pe_lc (own := [("pair", 1)]) rfl sc_is_pool.nd (pi_tup (pv 0)) (blkOk_by (N := N_is_pool) (sc := defScope s_is_pool) (by decide +kernel)) (fun _ _ _ _ _ => (pg_name (i := 1) sc_is_pool.nd rfl (Or.inl rfl))) (fun _ _ _ _ _ => pts_nil) (fun _ _ _ _ _ => (pe_call G_is_share (hr.mono (by decide)) (by rfl) F_is_share.g F_is_share.F.kp F_is_share.b .nil pass0 (pa_cons (pv 1) pa_nil)))) pa_nil))))
      (pss_one (ps_ret pe_bl))
      pss_nil)
      (pss_one (ps_ret (pe_cmpR op_eq (pe_callB cr_lenSetS (by rfl) B.n_len PySem.boot_len (pa_cons (pe_callTy (cr_setS rfl) (by rfl) B.n_set (by decide +kernel) (pa_cons (pe_lc (own := [("pair", 1)]) rfl sc_is_pool.nd (pi_tup (pv 0)) (blkOk_by (N := N_is_pool) (sc := defScope s_is_pool) (by decide +kernel)) (fun _ _ _ _ _ => (pg_name (i := 1) sc_is_pool.nd rfl (Or.inl rfl))) (fun _ _ _ _ _ => pts_nil) (fun _ _ _ _ _ => (pe_ix (ix_tupK K rfl) (pv 1) pe_int (fun _ _ => rfl)))) pa_nil)) pa_nil)) (pe_callB call_len_seq (by rfl) B.n_len PySem.boot_len (pa_cons (pv 0) pa_nil)) (nomark _)))))), ?_⟩
    have ln := p.it.1
    have n1 := p.ok.n1
    have n8 := p.ok.n8
    refine ⟨_, rfl, .ref a, .ty "tuple", _, _, true, rfl, .ty "tuple", .base (.tup p.at_), kit_ty (by decide +kernel), _, rfl, iteF ?_⟩
    refine ⟨_, rfl, a, _, rfl, .inr (SqT.of p.at_), _, _, rfl, rfl, _, rfl, ?_⟩
    rw [List.length_map, decide_eq_true (by omega : (1 : Int) ≤ (ts.length : Int))]
    refine iteT ⟨_, _, rfl, rfl, _, rfl, ?_⟩
    refine (show (if (!decide (((ts.length : Nat) : Int) ≤ 8)) = true then _ else _) from ?_)
    rw [decide_eq_true (by omega : ((ts.length : Nat) : Int) ≤ 8)]
    refine iteF ⟨_, rfl, a, rfl, ⟨_, SqT.of p.at_⟩, fun D hD => ?_⟩
    refine lc_sel (walk_tup (K := K) (a := a) (xs := ts.map V.ref)) (fun _ => true) (fun _ => .bl true) (by rw [List.length_map]; omega) hD (fun H' s => SqT.of (s _ _ p.at_)) ?_ ?_
    · rintro j y H1 H2 k k0 hi s1 ⟨rfl, hy⟩ hk _
      obtain ⟨t, e, rfl, _, he, ht⟩ := (p.it.to s1).get hy
      have hm := List.mem_of_getElem? he
      exact ⟨rfl, _, rfl, t, e.1, e.2, rfl, ht, p.ok.wd e hm, (p.ok.wt e hm).1, (p.ok.wt e hm).2, hk rfl _ (Same.refl _)⟩
    · intro H1 s1 h1
      rw [filt_all, bls_map] at h1
      refine ⟨D, _, rfl, SqL.of h1, _, rfl, ?_⟩
      have eall : ((List.range (ts.map V.ref).length).map fun _ => true).all id = true := by simp
      rw [eall]
      have p1 := p.to s1
      refine iteF ⟨_, rfl, a, rfl, ⟨_, SqT.of p1.at_⟩, fun D2 hD2 => ?_⟩
      refine lc_sel (walk_tup (K := K) (a := a) (xs := ts.map V.ref)) (fun _ => true) (fun i => .str (S (((ps[i]?).map Prod.fst).getD []))) (by rw [List.length_map]; omega) hD2 (fun H' s => SqT.of (s _ _ p1.at_)) ?_ ?_
      · rintro j y H3 H4 k k0 hi s2 ⟨rfl, hy⟩ hk _
        obtain ⟨t, e, rfl, _, he, ht⟩ := (p1.it.to s2).get hy
        have hk := hk rfl _ (Same.refl _)
        rw [he] at hk
        exact ⟨rfl, _, rfl, t, _, _, _, rfl, rfl, SqT.of ht, rfl, hk⟩
      · intro H3 s3 h3
        have el : (List.range (ts.map V.ref).length).map (fun i => V.str (S (((ps[i]?).map Prod.fst).getD []))) = (ps.map fun e => S e.1).map V.str := by
          rw [List.length_map, ln, map_at ps fun o => V.str (S ((o.map Prod.fst).getD [])), List.map_map]
          rfl
        rw [filt_all, el] at h3
        have s13 := s1.trans s3
        refine ⟨D2, _, rfl, SqL.of h3, by rw [List.length_map]; omega, ?_, fun R hR => ⟨R, _, rfl, upd_same, by rw [List.length_map]; omega, ?_⟩⟩
        · have nd := p.ok.nd
          unfold List.Nodup at nd ⊢
          rw [List.pairwise_map] at nd ⊢
          exact nd.imp fun h z => h (S_inj z)
        · have s4 := s13.trans (same_new (o := SetSO P w R (ps.map fun e => S e.1)) hR)
          refine ⟨_, rfl, a, _, rfl, .inr (SqT.of (s4 _ _ p.at_)), rfl, ?_⟩
          refine bl_t ?_ (q _ s4)
          rw [List.length_map, List.length_map, ln]
/-- counts as values -/
def ctV (cs : List Nat) : List V := cs.map fun k => V.int ((k : Nat) : Int)
theorem ctV_len (cs : List Nat) : (ctV cs).length = cs.length := by simp [ctV]
theorem ctV_at {cs : List Nat} {j n : Nat} (h : cs[j]? = some n) : (ctV cs)[j]? = some (.int ((n : Nat) : Int)) := by
  unfold ctV
  rw [List.getElem?_map, h]
  rfl
theorem ctV_int (cs : List Nat) : ctV cs = (cs.map fun k => ((k : Nat) : Int)).map V.int := by
  unfold ctV
  rw [List.map_map]
  rfl
/-- counts stand at c, in a list or a tuple -/
def CtA (H : Hp) (c : Addr) (cs : List Nat) : Prop := H c = some (.lst (ctV cs)) ∨ H c = some (.tup (ctV cs))
theorem CtA.to {H H' : Hp} {c : Addr} {cs : List Nat} (h : CtA H c cs) (s : Same H H') : CtA H' c cs := by
  rcases h with h | h
  · exact .inl (s _ _ h)
  · exact .inr (s _ _ h)
theorem CtA.ix {K : PySem.W.Frag} {H : Hp} {c : Addr} {cs : List Nat} (h : CtA H c cs) {j n : Nat} (hj : cs[j]? = some n) {Q : VK} (q : Q (.int ((n : Nat) : Int)) H) : rIx K (.ref c) (.int ((j : Nat) : Int)) H Q := by
  rcases h with h | h
  · exact .inl ⟨c, _, _, _, rfl, rfl, SqL.of h, atI_nat (ctV_at hj), q⟩
  · exact .inr (.inl ⟨c, _, _, _, rfl, rfl, SqT.of h, atI_nat (ctV_at hj), q⟩)
def spLoads : Sp := fun vs H Q _ => ∃ a ts ps c, ∃ cs : List Nat, vs = [.ref a, .ref c] ∧ Pool a ts ps H ∧ H c = some (.tup (ctV cs)) ∧ cs.length = ps.length ∧ ∀ H', Same H H' → Q (.bl true) H'
theorem ok_loads {f f1 : Addr} {fd fd1 : FuncData} (F : Fn K mg "are_loads" s_are_loads ["pool", "thing"] f fd) (B : Blt mg) (F_is_integer : Fn K mg "is_integer" s_is_integer ["thing"] f1 fd1) : FnOk P w K mg base CX0 2 f fd ["pool", "thing"] spLoads := by
  have G_is_integer : FnOk P w K mg base CX0 1 f1 fd1 ["thing"] spInteger := ok_is_integer F_is_integer B
  refine F.F.ok sc_are_loads (fun vs H Q E h => ?_) (fun cdv A outer s H vs Q E hr h => ?_)
  · obtain ⟨a, ts, ps, c, cs, rfl, _⟩ := h
    rfl
  · obtain ⟨a, ts, ps, c, cs, rfl, p, hc, hl, q⟩ := h
    refine ⟨_, (pss_cons (ps_if (PW.pt (pw_or (pt_not (pt_val (pe_callB call_isi (by rfl) B.n_isinstance (by decide +kernel) (pa_cons (pv 1) (pa_cons (pe_bltn (v := .ty "tuple") (by rfl) B.n_tuple (by decide +kernel) rfl) pa_nil))))) (pw_or1 (pt_cmpR op_ne (pe_callB call_len_seq (by rfl) B.n_len PySem.boot_len (pa_cons (pv 1) pa_nil)) (pe_callB call_len_seq (by rfl) B.n_len PySem.boot_len (pa_cons (pv 0) pa_nil)) (nomark _)))))
      (pss_one (ps_ret pe_bl))
      pss_nil)
      (pss_one (ps_ret (pe_callB (cr_all rfl) (by rfl) B.n_all (by decide +kernel) (pa_cons (pe_lc (own := [("load", 2)]) rfl sc_are_loads.nd (pi_tup (pv 1)) (blkOk_by (N := N_are_loads) (sc := defScope s_are_loads) (by decide +kernel)) (fun _ _ _ _ _ => (pg_name (i := 2) sc_are_loads.nd rfl (Or.inl rfl))) (fun _ _ _ _ _ => pts_nil) (fun _ _ _ _ _ => (pe_and (pe_call G_is_integer (hr.mono (by decide)) (by rfl) F_is_integer.g F_is_integer.F.kp F_is_integer.b .nil pass0 (pa_cons (pv 2) pa_nil)) (pe_one (pe_cmpR op_ge (pv 2) pe_int (nomark _)))))) pa_nil))))), ?_⟩
    have n8 := p.ok.n8
    have ln := p.it.1
    refine ⟨_, rfl, .ref c, .ty "tuple", _, _, true, rfl, .ty "tuple", .base (.tup hc), kit_ty (by decide +kernel), _, rfl, iteF ?_⟩
    refine ⟨_, rfl, c, _, rfl, .inr (SqT.of hc), _, rfl, a, _, rfl, .inr (SqT.of p.at_), rfl, _, rfl, ?_⟩
    rw [decide_eq_true (by rw [ctV_len, List.length_map, hl, ln])]
    refine iteF ⟨_, rfl, c, rfl, ⟨_, SqT.of hc⟩, fun D hD => ?_⟩
    refine lc_sel (walk_tup (K := K) (a := c) (xs := ctV cs)) (fun _ => true) (fun _ => .bl true) (by rw [ctV_len]; omega) hD (fun H' s => SqT.of (s _ _ hc)) ?_ ?_
    · rintro j y H1 H2 k k0 hi s1 ⟨rfl, hy⟩ hk _
      have hk := hk rfl _ (Same.refl _)
      unfold ctV at hy
      rw [List.getElem?_map] at hy
      obtain ⟨n, hn, rfl⟩ : ∃ n : Nat, cs[j]? = some n ∧ V.int (n : Int) = y := by
        cases e : cs[j]? with
        | none => rw [e] at hy; cases hy
        | some n => rw [e] at hy; exact ⟨n, rfl, Option.some.inj hy⟩
      refine ⟨rfl, _, rfl, n, rfl, _, rfl, iteT ⟨_, rfl, _, _, rfl, rfl, bl_t (by omega) hk⟩⟩
    · intro H1 s1 h1
      rw [filt_all, bls_map] at h1
      refine ⟨D, _, rfl, SqL.of h1, ?_⟩
      have eall : ((List.range (ctV cs).length).map fun _ => true).all id = true := by simp
      rw [eall]
      exact q _ s1
end
end Ag

end
/-! ## TupRep -/
section
set_option linter.all false
set_option maxRecDepth 100000
set_option maxHeartbeats 4000000
namespace Ag
open PySem PySem.Spec PyProof.Rows L2
theorem tuple_mul0 (l : Addr) (items : Array Value) (n : Nat) (dd : Option Addr) (sl : Array (Option Value)) (x : Int) (u : Tok) (c0 : (decide (x < -(2 ^ 63)) || decide (x ≥ 2 ^ 63)) = false) (c1 : (items.isEmpty || x == 1) = false) (c2 : (decide (x ≤ 0) || items.isEmpty) = true) :
    Meets (Builtin.«tuple.__mul__» ⟨[.ref l, .int x u], []⟩) (fun _ R s => s.heap.get? l = some { cls := .type "tuple", dict := dd, data := .seq items n, slots := sl } ∧
      R (.ok (.ret (Value.ref s.heap.objs.size))) { s with heap := s.heap.push { cls := Value.type "tuple", data := Data.seq #[] }, toks := s.toks }) :=
  .of_wp fun prog w A R s h => by
    obtain ⟨hp, g, d, tk, os⟩ := s
    obtain ⟨hl, h⟩ := h
    have f1 := AutoSeq1.idx_int
    wp_walk using wpAny_loadPart' hl
    repeat (first
      | (refine wpAny_ite_false (decide_eq_false (by rw [c0]; exact Bool.false_ne_true)) ?_; wp_walk using wpAny_loadPart' hl)
      | (refine wpAny_ite_false (decide_eq_false (by rw [c1]; exact Bool.false_ne_true)) ?_; wp_walk using wpAny_loadPart' hl)
      | (refine wpAny_ite_true (decide_eq_true c2) ?_; wp_walk using wpAny_loadPart' hl))
    exact ⟨_, rfl, h⟩
theorem tuple_mul1 (l : Addr) (items : Array Value) (n : Nat) (dd : Option Addr) (sl : Array (Option Value)) (x : Int) (u : Tok) (c0 : (decide (x < -(2 ^ 63)) || decide (x ≥ 2 ^ 63)) = false) (c1 : (items.isEmpty || x == 1) = true) :
    Meets (Builtin.«tuple.__mul__» ⟨[.ref l, .int x u], []⟩) (fun _ R s => s.heap.get? l = some { cls := .type "tuple", dict := dd, data := .seq items n, slots := sl } ∧
      R (.ok (.ret (Value.ref l))) s) :=
  .of_wp fun prog w A R s h => by
    obtain ⟨hp, g, d, tk, os⟩ := s
    obtain ⟨hl, h⟩ := h
    have f1 := AutoSeq1.idx_int
    wp_walk using wpAny_loadPart' hl
    repeat (first
      | (refine wpAny_ite_false (decide_eq_false (by rw [c0]; exact Bool.false_ne_true)) ?_; wp_walk using wpAny_loadPart' hl)
      | (refine wpAny_ite_true (decide_eq_true c1) ?_; wp_walk using wpAny_loadPart' hl))
    exact ⟨_, rfl, h⟩
def rRepA (K : PySem.W.Frag) : R2 := fun x y H Q => ∃ (l : Addr) (k : Nat) (xs : List V), x = .ref l ∧ y = .int (k : Int) ∧ H l = some (.tup xs) ∧ xs ≠ [] ∧ xs.length * k ≤ 1000000 ∧ k ≤ 1000000 ∧ ∀ r H', Same H H' → H' r = some (.tup (List.replicate k xs).flatten) → Q (.ref r) H'
section
variable {X : Cx}
theorem op_repA : OpR X (binaryOp .Mult) (rRepA X.K) := by
  intro pins s σ H x y v u Q I rx ry h
  obtain ⟨l, k, xs, rfl, rfl, hT0, hne, hm0, hk, q⟩ := h
  have hT : SqT X.K H l xs := SqT.of hT0
  cases rx
  obtain ⟨t, rfl⟩ := ry
  obtain ⟨its, r, ⟨⟨cls, dd, data, sl⟩, ho, hc, n, hd⟩, hs⟩ := I.tuple hT
  simp only at hc hd
  subst hc hd
  have hle : its.length = xs.length := r.length.symm
  have hn : its ≠ [] := fun e => hne (by
    rw [e] at hle
    exact List.eq_nil_of_length_eq_zero hle.symm)
  have hi : its.toArray.isEmpty = false := by
    cases its with
    | nil => exact absurd rfl hn
    | cons a b => rfl
  have hsz0 : its.toArray.size = xs.length := by rw [List.size_toArray, hle]
  have hm : ((its.toArray.size : Nat) : Int) * (k : Int) ≤ 1000000 := by
    rw [hsz0]
    have : ((xs.length * k : Nat) : Int) ≤ 1000000 := by omega
    rwa [Int.natCast_mul] at this
  have flen : (List.replicate k its).flatten.length ≤ sizeLine := by
    rw [PyProof.Rows.lm_len_rep_flat, hle, sizeLine_eq, Nat.mul_comm]
    omega
  have c0 : (decide ((k : Int) < -(2 ^ 63)) || decide ((k : Int) ≥ 2 ^ 63)) = false := by
    rw [decide_eq_false (by omega), decide_eq_false (by omega)] <;> rfl
  have c4 : Builtin.Tuple.tupleTooMany (((its.toArray.size : Nat) : Int) * (k : Int)) = false := by
    unfold Builtin.Tuple.tupleTooMany
    rw [sizeLine_eq]
    exact decide_eq_false (by omega)
  refine wpAny_binaryOp_repeat_ref (T := "tuple") (U := "int") (by decide) ⟨_, ho, rfl⟩ (fun s' => typeIs_int s' (k : Int) t) noFill_tuple_mul F.fills_int_mul F.slot_int_rmul repeat_tuple F.slot_int_index.lookup
    (call_meets F.slot_int_rmul (typeIs_int s (k : Int) t) F.entry_int_rmul (F.args_int_rmul_2 _ _) (int_rmul_tuple (k : Int) t l its.toArray n dd sl)
      ⟨ho, rfl, ⟨_, ho, rfl⟩, ?_⟩)
  by_cases h0 : k = 0
  · subst h0
    refine call_meets F.slot_tuple_mul ⟨_, ho, rfl⟩ F.entry_tuple_mul (F.args_tuple_mul_2 _ _) (tuple_mul0 l its.toArray n dd sl _ t c0 (by rw [hi]; rfl) rfl) ⟨ho, ?_⟩
    have fr := I.hok.fresh (Nat.le_refl s.heap.objs.size)
    refine ⟨.ref s.heap.objs.size, _, I.laid (t' := s.toks) (o := .tup []) (fun b ob q => Heap.get?_push_of_some _ q) (Nat.le_refl _) ?_, rfl, q _ _ (same_new fr) upd_same⟩
    exact ⟨Nat.zero_le _, _, .nil, IsTup.new _ _⟩
  · by_cases h1 : k = 1
    · subst h1
      refine call_meets F.slot_tuple_mul ⟨_, ho, rfl⟩ F.entry_tuple_mul (F.args_tuple_mul_2 _ _) (tuple_mul1 l its.toArray n dd sl _ t c0 (by rw [hi]; rfl)) ⟨ho, ?_⟩
      exact ⟨.ref l, H, I, rfl, q l H (Same.refl H) (by rw [hT0]; simp)⟩
    · have c1 : (its.toArray.isEmpty || (k : Int) == 1) = false := by
        rw [hi, Bool.false_or]
        exact beq_eq_false_iff_ne.mpr (by omega)
      have c2 : (decide ((k : Int) ≤ 0) || its.toArray.isEmpty) = false := by
        rw [hi, Bool.or_false]
        exact decide_eq_false (by omega)
      refine call_meets F.slot_tuple_mul ⟨_, ho, rfl⟩ F.entry_tuple_mul (F.args_tuple_mul_2 _ _) (tuple_mulW l its.toArray n dd sl (k : Int) t c0 c1 c2 (by omega) c4 (by rw [size_rep, List.size_toArray]; exact flen)) ⟨ho, ?_⟩
      rw [size_rep]
      have fr := I.hok.fresh (Nat.le_refl s.heap.objs.size)
      refine ⟨.ref s.heap.objs.size, _, I.laid (t' := s.toks) (o := .tup (List.replicate k xs).flatten) (fun b ob q => Heap.get?_push_of_some _ q) (Nat.le_refl _) ?_, rfl, q _ _ (same_new fr) upd_same⟩
      exact ⟨by rw [PyProof.Rows.lm_len_rep_flat, sizeLine_eq, Nat.mul_comm]; omega, _, r.rep k, IsTup.new _ _⟩
end
end Ag

end
/-! ## T2 -/
section
set_option linter.all false
set_option maxRecDepth 100000
namespace Ag
open PySem PySem.Spec PyProof.Rows L2
open SX (S S_len S_cat S_inj)
theorem dpIntsG {K : PySem.W.Frag} {H : Hp} : ∀ cs : List Int, DpAll K H (cs.map V.int) (cs.map PyData.int)
  | [] => .nil
  | c :: cs => .cons (.int c) (dpIntsG cs)
theorem lay_ints : ∀ cs : List Int, PyData.canLayAll0 (cs.map PyData.int) = true
  | [] => by simp [PyData.canLayAll0]
  | c :: cs => by simp [PyData.canLayAll0, PyData.canLay0, lay_ints cs]
theorem depth_ints : ∀ cs : List Int, PyData.depthAll (cs.map PyData.int) = 0
  | [] => by simp [PyData.depthAll]
  | c :: cs => by simp [PyData.depthAll, PyData.depth, depth_ints cs]
theorem shaped_ints (cs : List Int) : SeqAt.shaped (.list (cs.map PyData.int)) = true := by
  simp [SeqAt.shaped, PyData.canLay0, PyData.depth, lay_ints, depth_ints]
theorem shaped_tints (cs : List Int) : SeqAt.shaped (.tuple (cs.map PyData.int)) = true := by
  simp [SeqAt.shaped, PyData.canLay0, PyData.depth, lay_ints, depth_ints]
theorem eqv_ints (cs : List Int) : PyData.eqvAll (cs.map PyData.int) (cs.map PyData.int) = true := by
  induction cs with
  | nil => simp [PyData.eqvAll]
  | cons c cs ih => simp only [List.map_cons, PyData.eqvAll, PyData.eqv, ih]; simp
theorem call_len_seqK {X : Cx} (K : PySem.W.Frag) (hK : X.K = K) : CallR X (.builtin "len") (fun xs H Q => ∃ p ys, xs = [V.ref p] ∧ (SqL K H p ys ∨ SqT K H p ys) ∧ Q (V.int ys.length) H) := by
  subst hK
  exact call_len_seq
/-- the places of a lot -/
structure Lot (n : Nat) (ns : List Nat) : Prop where
  asc : ns.Pairwise (· < ·)
  lt : ∀ x ∈ ns, x < n
  len : ns.length ≤ 20
abbrev iL (ns : List Nat) : List Int := ns.map fun k => ((k : Nat) : Int)
theorem iL_asc {ns : List Nat} (h : ns.Pairwise (· < ·)) : (iL ns).Pairwise (· < ·) := List.pairwise_map.mpr (h.imp fun h => by omega)
theorem ctV_get {cs : List Nat} {j : Nat} {y : V} (h : (ctV cs)[j]? = some y) : ∃ n : Nat, cs[j]? = some n ∧ y = .int (n : Int) := by
  unfold ctV at h
  rw [List.getElem?_map] at h
  cases e : cs[j]? with
  | none => rw [e] at h; cases h
  | some n => rw [e] at h; exact ⟨n, rfl, (Option.some.inj h).symm⟩
section
variable {P : Program} {w : World} {K : PySem.W.Frag} {mg : Str → Option Value} {base : Heap} {tw tp tg t1 t2 t3 : Tok}
def spLot : Sp := fun vs H Q _ => ∃ a ts ps c ns, vs = [.ref a, .ref c] ∧ Pool a ts ps H ∧ H c = some (.tup (ctV ns)) ∧ Lot ps.length ns ∧ ∀ H', Same H H' → Q (.bl true) H'
theorem ok_lot {f f1 : Addr} {fd fd1 : FuncData} (F : Fn K mg "is_lot" s_is_lot ["pool", "thing"] f fd) (B : Blt mg) (F_is_integer : Fn K mg "is_integer" s_is_integer ["thing"] f1 fd1) : FnOk P w K mg base CX0 2 f fd ["pool", "thing"] spLot := by
  have G_is_integer : FnOk P w K mg base CX0 1 f1 fd1 ["thing"] spInteger := ok_is_integer F_is_integer B
  refine F.F.ok sc_is_lot (fun vs H Q E h => ?_) (fun cdv A outer s H vs Q E hr h => ?_)
  · obtain ⟨a, ts, ps, c, cs, rfl, _⟩ := h
    rfl
  · obtain ⟨a, ts, ps, c, ns, rfl, p, hc, lo, q⟩ := h
    refine ⟨_, (pss_cons (ps_if (PW.pt (pw_or (pt_not (pt_val (pe_callB call_isi (by rfl) B.n_isinstance (by decide +kernel) (pa_cons (pv 1) (pa_cons (pe_bltn (v := .ty "tuple") (by rfl) B.n_tuple (by decide +kernel) rfl) pa_nil))))) (pw_or1 (pt_not (pt_val (pe_callB (cr_all rfl) (by rfl) B.n_all (by decide +kernel) (pa_cons (pe_lc (own := [("at", 2)]) rfl sc_is_lot.nd (pi_tup (pv 1)) (blkOk_by (N := N_is_lot) (sc := defScope s_is_lot) (by decide +kernel)) (fun _ _ _ _ _ => (pg_name (i := 2) sc_is_lot.nd rfl (Or.inl rfl))) (fun _ _ _ _ _ => pts_nil) (fun _ _ _ _ _ => (pe_and (pe_call G_is_integer (hr.mono (by decide)) (by rfl) F_is_integer.g F_is_integer.F.kp F_is_integer.b .nil pass0 (pa_cons (pv 2) pa_nil)) (pe_one (pe_chain op_le op_lt pe_int (pv 2) (pe_callB (call_len_seqK K rfl) (by rfl) B.n_len PySem.boot_len (pa_cons (pv 0) pa_nil))))))) pa_nil)))))))
      (pss_one (ps_ret pe_bl))
      pss_nil)
      (pss_one (ps_ret (pe_cmpR (op_eqD hr.units) (pe_callTy call_list_of (by rfl) B.n_list (by decide +kernel) (pa_cons (pv 1) pa_nil)) (pe_callB (cr_sortedSet rfl) (by rfl) B.n_sorted (by decide +kernel) (pa_cons (pe_callTy (cr_setI rfl) (by rfl) B.n_set (by decide +kernel) (pa_cons (pv 1) pa_nil)) pa_nil)) (nomark _))))), ?_⟩
    have n8 := p.ok.n8
    have ln := p.it.1
    have l20 := lo.len
    refine ⟨_, rfl, .ref c, .ty "tuple", _, _, true, rfl, .ty "tuple", .base (.tup hc), kit_ty (by decide +kernel), _, rfl, iteF ?_⟩
    refine ⟨_, rfl, c, rfl, ⟨_, SqT.of hc⟩, fun D hD => ?_⟩
    refine lc_sel (walk_tup (K := K) (a := c) (xs := ctV ns)) (fun _ => true) (fun _ => .bl true) (by rw [ctV_len]; omega) hD (fun H' s => SqT.of (s _ _ hc)) ?_ ?_
    · rintro j y H1 H2 k k0 hi s1 ⟨rfl, hy⟩ hk _
      have hk := hk rfl _ (Same.refl _)
      obtain ⟨n, hn, rfl⟩ := ctV_get hy
      have hlt := lo.lt n (List.mem_of_getElem? hn)
      refine ⟨rfl, _, rfl, n, rfl, _, rfl, iteT ⟨_, rfl, _, _, rfl, rfl, _, rfl, ?_⟩⟩
      rw [decide_eq_true (by omega : (0 : Int) ≤ (n : Int))]
      refine iteT ⟨_, rfl, a, _, rfl, .inr (SqT.of ((p.to s1).at_)), _, _, rfl, rfl, bl_t (by rw [List.length_map]; omega) hk⟩
    · intro H1 s1 h1
      rw [filt_all, bls_map] at h1
      refine ⟨D, _, rfl, SqL.of h1, _, rfl, ?_⟩
      have eall : ((List.range (ctV ns).length).map fun _ => true).all id = true := by simp
      rw [eall]
      refine iteF ?_
      have hc1 := s1 _ _ hc
      refine ⟨_, rfl, c, _, rfl, .inr (SqT.of hc1), fun L hL => ?_⟩
      have s2 := s1.trans (same_new (o := .lst (ctV ns)) hL)
      have hL2 : upd H1 L (.lst (ctV ns)) L = some (.lst (ctV ns)) := upd_same
      generalize upd H1 L (.lst (ctV ns)) = H2 at s2 hL2 ⊢
      refine ⟨_, rfl, c, iL ns, rfl, .inr (SqT.of ((s2 _ _ hc).trans (by rw [ctV_int]))), by rw [List.length_map]; omega, fun G M hG nd hm hl => ?_⟩
      rw [List.length_map] at hl
      have s3 := s2.trans (same_new (o := SetO w G (fun j => decide (j ∈ iL ns)) M.length) hG)
      have hL3 := same_new (o := SetO w G (fun j => decide (j ∈ iL ns)) M.length) hG _ _ hL2
      refine ⟨G, _, _, rfl, upd_same, by omega, fun zs Z hz1 hz2 hz3 hZ => ?_⟩
      have ez : zs = iL ns := Sc.asc_ext hz1 (iL_asc lo.asc) fun x => by rw [hz2 x, decide_eq_true_eq]
      subst ez
      have s4 := s3.trans (same_new (o := .lst ((iL ns).map V.int)) hZ)
      have hL4 := same_new (o := .lst ((iL ns).map V.int)) hZ _ _ hL3
      refine ⟨.list ((iL ns).map .int), .list ((iL ns).map .int), .lst (SqL.of (hL4.trans (by rw [ctV_int]))) (dpIntsG _), .lst (SqL.of upd_same) (dpIntsG _), shaped_ints _, shaped_ints _, ?_⟩
      rw [show PyData.eqv (.list ((iL ns).map PyData.int)) (.list ((iL ns).map PyData.int)) = true by simp only [PyData.eqv]; exact eqv_ints _]
      exact q _ s4
def spCheck : Sp := fun vs H Q _ => ∃ a ts ps c ns, vs = [.ref a, .ref c] ∧ Pool a ts ps H ∧ H c = some (.tup (ctV ns)) ∧ Lot ps.length ns ∧ ns ≠ [] ∧ ∀ H', Same H H' → Q .non H'
theorem ok_check {f f1 f2 : Addr} {fd fd1 fd2 : FuncData} (F : Fn K mg "check_lot" s_check_lot ["pool", "lot"] f fd) (B : Blt mg) (F_is_pool : Fn K mg "is_pool" s_is_pool ["thing"] f1 fd1) (G_is_pool : FnOk P w K mg base CX0 3 f1 fd1 ["thing"] spPool)
    (F_is_lot : Fn K mg "is_lot" s_is_lot ["pool", "thing"] f2 fd2) (G_is_lot : FnOk P w K mg base CX0 2 f2 fd2 ["pool", "thing"] spLot) : FnOk P w K mg base CX0 4 f fd ["pool", "lot"] spCheck := by
  refine F.F.ok sc_check_lot (fun vs H Q E h => ?_) (fun cdv A outer s H vs Q E hr h => ?_)
  · obtain ⟨a, ts, ps, c, cs, rfl, _⟩ := h
    rfl
  · obtain ⟨a, ts, ps, c, ns, rfl, p, hc, lo, hne, q⟩ := h
    refine ⟨_, (pss_cons (ps_if (pt_not (pt_val (pe_call G_is_pool (hr.mono (by decide)) (by rfl) F_is_pool.g F_is_pool.F.kp F_is_pool.b .nil pass0 (pa_cons (pv 0) pa_nil))))
      (pss_one ps_never)
      pss_nil)
      (pss_one (ps_if (PW.pt (pw_or (pt_not (pt_val (pe_call G_is_lot (hr.mono (by decide)) (by rfl) F_is_lot.g F_is_lot.F.kp F_is_lot.b .nil pass0 (pa_cons (pv 0) (pa_cons (pv 1) pa_nil))))) (pw_or1 (pt_cmpR (op_eqD hr.units) (pv 1) (pe_tup pa_nil) (nomark _)))))
      (pss_one ps_never)
      pss_nil))), ?_⟩
    refine ⟨_, rfl, a, ts, ps, rfl, p, fun H1 s1 => ⟨_, rfl, iteF ?_⟩⟩
    refine ⟨_, rfl, _, rfl, a, ts, ps, c, ns, rfl, p.to s1, s1 _ _ hc, lo, fun H2 s2 => ⟨_, rfl, iteF ?_⟩⟩
    have s12 := s1.trans s2
    refine ⟨_, rfl, sz (by show 0 ≤ 16000000; decide), fun T hT => ?_⟩
    have s3 := s12.trans (same_new (o := .tup []) hT)
    refine ⟨.tuple ((iL ns).map .int), .tuple [], .tup (SqT.of ((s3 _ _ hc).trans (by rw [ctV_int]))) (dpIntsG _), .tup (SqT.of upd_same) .nil, shaped_tints _, shaped_tints [], _, rfl, ?_⟩
    have ev : PyData.eqv (.tuple ((iL ns).map PyData.int)) (.tuple []) = false := by
      cases ns with
      | nil => exact absurd rfl hne
      | cons n ns => simp [PyData.eqv, PyData.eqvAll]
    rw [ev]
    exact iteF (q _ s3)
/-- the score's row of signs -/
def keyL (k l : List Nat) : List Nat := k ++ 47 :: l
def spScore : Sp := fun vs H Q _ => ∃ k l, vs = [.str (S k), .str (S l)] ∧ wordL k = true ∧ wordL l = true ∧ ∀ H', Same H H' → Q (.int (Sc.scL (keyL k l) : Nat)) H'
theorem word_len {l : List Nat} (h : wordL l = true) : 1 ≤ l.length ∧ l.length ≤ 10 := by
  unfold wordL at h
  rw [Bool.and_eq_true, Bool.and_eq_true, decide_eq_true_eq, decide_eq_true_eq] at h
  exact h.1
theorem sc_int {v c : Nat} : ((v : Int) * 251 + (c : Int)) % 65521 = (((v * 251 + c) % 65521 : Nat) : Int) := by
  rw [Int.natCast_emod, Int.natCast_add, Int.natCast_mul]
  rfl
theorem ok_score {f f1 : Addr} {fd fd1 : FuncData} (F : Fn K mg "score" s_score ["key", "label"] f fd) (B : Con mg tw tp tg t1 t2 t3) (F_is_word : Fn K mg "is_word" s_is_word ["thing"] f1 fd1) : FnOk P w K mg base CX0 2 f fd ["key", "label"] spScore := by
  have G_is_word : FnOk P w K mg base CX0 1 f1 fd1 ["thing"] spWord := ok_is_word F_is_word B
  refine F.F.ok sc_score (fun vs H Q E h => ?_) (fun cdv A outer s H vs Q E hr h => ?_)
  · obtain ⟨k, l, rfl, _⟩ := h
    rfl
  · obtain ⟨k, l, rfl, hk, hl, q⟩ := h
    refine ⟨_, (pss_cons (ps_for PassesOwn.never rfl (pi_tup (pe_tup (pa_cons (pv 0) (pa_cons (pv 1) pa_nil)))) (pg_name (i := 2) sc_score.nd rfl (Or.inl rfl))
      (pss_one (ps_if (pt_not (pt_val (pe_call G_is_word (hr.mono (by decide)) (by rfl) F_is_word.g F_is_word.F.kp F_is_word.b .nil pass0 (pa_cons (pv 2) pa_nil))))
        (pss_one ps_never)
        pss_nil)))
      (pss_cons (ps_set (i := 3) sc_score.nd rfl (.inl rfl) (pe_glob (v := .int 7) rfl B.g_SCORE_START ⟨_, rfl⟩))
      (pss_cons (ps_for PassesOwn.never rfl (pi_str (pe_joined (.cons (pe_fmt (pv 0)) (.cons pe_str (.cons (pe_fmt (pv 1)) .nil))))) (pg_name (i := 4) sc_score.nd rfl (Or.inl rfl))
      (pss_one (ps_set (i := 3) sc_score.nd rfl (.inl rfl) (pe_op op_mod (pe_op op_add (pe_op op_mul (pv 3) (pe_glob (v := .int 251) rfl B.g_SCORE_FACTOR ⟨_, rfl⟩)) (pe_callB call_ord (by rfl) B.n_ord (by decide +kernel) (pa_cons (pv 4) pa_nil))) (pe_glob (v := .int 65521) rfl B.g_SCORE_MODULUS ⟨_, rfl⟩)))))
      (pss_one (ps_ret (pv 3)))))), ?_⟩
    have lk := word_len hk
    have ll := word_len hl
    refine ⟨_, rfl, _, rfl, sz (by show 2 ≤ 16000000; decide), fun T hT => ⟨T, rfl, ⟨_, SqT.of upd_same⟩, ?_⟩⟩
    refine for_it (walk_tup (K := K) (a := T) (xs := [.str (S k), .str (S l)])) (fun j σ H' => ∃ (x2 x3 x4 : Option V), σ = [some (.str (S k)), some (.str (S l)), x2, x3, x4] ∧ Same H H' ∧ H' T = some (.tup [.str (S k), .str (S l)])) ⟨_, _, _, rfl, same_new hT, upd_same⟩ (fun j σ H' _ z => ?_) ?_ ?_
    · obtain ⟨_, _, _, _, _, e⟩ := z
      exact SqT.of e
    · rintro j y σ H3 H4 hj ⟨x2, x3, x4, rfl, sm, e⟩ ⟨rfl, hy⟩
      obtain ⟨z, hz, rfl⟩ : ∃ z, wordL z = true ∧ y = .str (S z) := by
        match j, hy with
        | 0, hy => exact ⟨k, hk, (Option.some.inj hy).symm⟩
        | 1, hy => exact ⟨l, hl, (Option.some.inj hy).symm⟩
        | j + 2, hy => cases hy
      exact ⟨_, rfl, z, rfl, hz, _, rfl, iteF ⟨_, _, _, rfl, sm, e⟩⟩
    · rintro σ H2 ⟨x2, x3, x4, rfl, sm, _⟩
      have c1 : Str.empty ++ S k = S k := S_cat [] k
      have c2 : S k ++ Str.ofString "/" = S (k ++ [47]) := S_cat k [47]
      have c3 : S (k ++ [47]) ++ S l = S (keyL k l) := by rw [S_cat]; unfold keyL; simp
      have len : (keyL k l).length = k.length + l.length + 1 := by unfold keyL; simp; omega
      refine ⟨_, rfl, .inl ⟨_, rfl, sz (by rw [S_len]; omega), _, rfl, ?_, ?_⟩⟩
      · rw [c1]; exact sz (by rw [S_len]; omega)
      rw [c1]
      refine ⟨_, rfl, ?_, ?_⟩
      · rw [c2]; exact sz (by rw [S_len]; simp; omega)
      rw [c2]
      refine ⟨_, rfl, .inl ⟨_, rfl, sz (by rw [S_len]; omega), _, rfl, ?_, ?_⟩⟩
      · rw [c3]; exact sz (by rw [S_len]; omega)
      rw [c3]
      refine ⟨_, rfl, ?_⟩
      refine for_it (walk_str (z := S (keyL k l))) (fun j σ H' => ∃ (y2 y4 : Option V), σ = [some (.str (S k)), some (.str (S l)), y2, some (.int (Sc.scL ((keyL k l).take j) : Nat)), y4] ∧ Same H H') ⟨_, _, rfl, sm⟩ (fun _ _ _ _ _ => trivial) ?_ ?_
      · rintro j y σ H3 H4 hj ⟨y2, y4, rfl, s3⟩ ⟨rfl, ch, hch, rfl⟩
        have hch : (keyL k l)[j]? = some ch := by
          rw [← Array.getElem?_toList] at hch
          exact hch
        refine ⟨_, rfl, _, _, rfl, rfl, .inr ⟨by decide, by decide⟩, _, rfl, _, rfl, rfl, _, _, rfl, rfl, _, _, rfl, rfl, (by show (0 : Int) < 65521; decide), ?_⟩
        refine ⟨y2, some (.str ⟨#[ch]⟩), ?_, s3⟩
        rw [Sc.scL_take hch, ← sc_int]
        rfl
      · rintro σ H3 ⟨y2, y4, rfl, s3⟩
        rw [List.take_of_length_le (by show _ ≤ (keyL k l).length; exact Nat.le_refl _)]
        exact ⟨_, rfl, q _ s3⟩
end
end Ag

end
/-! ## T3 -/
section
set_option linter.all false
set_option maxRecDepth 100000
namespace Ag
open PySem PySem.Spec PyProof.Rows L2
open SX (S S_len S_cat S_inj)
theorem u10 {k : Nat} {A : Around} (hr : Room k A) : A.units + 10 < cLine := Nat.lt_of_le_of_lt (Nat.add_le_add_left (by decide : 10 ≤ 64) _) hr.units
def wF (ps : List (List Nat × Nat)) (i : Nat) : Nat := ((ps[i]?).map Prod.snd).getD 0
theorem wF_at {ps : List (List Nat × Nat)} {i : Nat} {e : List Nat × Nat} (h : ps[i]? = some e) : wF ps i = e.2 := by
  unfold wF
  rw [h]
  rfl
def kF (cs : List Nat) (i : Nat) : Nat := (cs[i]?).getD 0
theorem kF_at {cs : List Nat} {i n : Nat} (h : cs[i]? = some n) : kF cs i = n := by
  unfold kF
  rw [h]
  rfl
/-- a label's score with a key, by place -/
def fS (ps : List (List Nat × Nat)) (k : List Nat) (i : Nat) : Nat := Sc.scL (keyL k (((ps[i]?).map Prod.fst).getD []))
theorem fS_at {ps : List (List Nat × Nat)} {k : List Nat} {i : Nat} {e : List Nat × Nat} (h : ps[i]? = some e) : fS ps k i = Sc.scL (keyL k e.1) := by
  unfold fS
  rw [h]
  rfl
theorem Pool.row {a : Addr} {ts : List Addr} {ps : List (List Nat × Nat)} {H : Hp} (p : Pool a ts ps H) {i : Nat} (h : i < ps.length) : ∃ t e, (ts.map V.ref)[i]? = some (.ref t) ∧ ps[i]? = some e ∧ H t = some (.tup [.str (S e.1), .int (e.2 : Nat)]) ∧ e ∈ ps ∧ 1 ≤ e.2 ∧ e.2 ≤ 100 ∧ wordL e.1 = true := by
  have hl := p.it.1
  have ht : ts[i]? = some (ts[i]'(by omega)) := List.getElem?_eq_getElem (by omega)
  obtain ⟨e, h1, h2⟩ := p.it.2 i _ ht
  have hm := List.mem_of_getElem? h1
  exact ⟨_, e, by rw [List.getElem?_map, ht]; rfl, h1, h2, hm, (p.ok.wt e hm).1, (p.ok.wt e hm).2, p.ok.wd e hm⟩
theorem lb_step {ps : List (List Nat × Nat)} {bs : List Nat} {x y b1 b2 : Nat} {e1 e2 : List Nat × Nat} (h1 : ps[x]? = some e1) (h2 : ps[y]? = some e2) (k1 : bs[x]? = some b1) (k2 : bs[y]? = some b2) :
    Sc.lbS (wF ps) (kF bs) x y = if decide (((b2 : Int) + 1) * (e1.2 : Nat) < ((b1 : Int) + 1) * (e2.2 : Nat)) = true then y else x := by
  unfold Sc.lbS
  rw [kF_at k1, kF_at k2, wF_at h1, wF_at h2]
  have m1 : (((b2 + 1) * e1.2 : Nat) : Int) = ((b2 : Int) + 1) * (e1.2 : Nat) := by rw [Int.natCast_mul]; rfl
  have m2 : (((b1 + 1) * e2.2 : Nat) : Int) = ((b1 : Int) + 1) * (e2.2 : Nat) := by rw [Int.natCast_mul]; rfl
  rw [← m1, ← m2]
  by_cases h : (b2 + 1) * e1.2 < (b1 + 1) * e2.2
  · rw [if_pos h, if_pos (decide_eq_true (by omega))]
  · rw [if_neg h, if_neg (by rw [decide_eq_true_eq]; omega)]
section
variable {P : Program} {w : World} {K : PySem.W.Frag} {mg : Str → Option Value} {base : Heap} {tw tp tg t1 t2 t3 : Tok}
def spLb : Sp := fun vs H Q _ => ∃ a ts ps c ns d bs, vs = [.ref a, .ref c, .ref d] ∧ Pool a ts ps H ∧ H c = some (.tup (ctV ns)) ∧ Lot ps.length ns ∧ ns ≠ [] ∧ H d = some (.tup (ctV bs)) ∧ bs.length = ps.length ∧ ∀ H', Same H H' → Q (.int (Sc.lbF (wF ps) (kF bs) ns : Nat)) H'
theorem ok_lb {f f1 f2 : Addr} {fd fd1 fd2 : FuncData} (F : Fn K mg "least_busy" s_least_busy ["pool", "lot", "busy"] f fd) (B : Blt mg) (F_check_lot : Fn K mg "check_lot" s_check_lot ["pool", "lot"] f1 fd1) (G_check_lot : FnOk P w K mg base CX0 4 f1 fd1 ["pool", "lot"] spCheck)
    (F_are_loads : Fn K mg "are_loads" s_are_loads ["pool", "thing"] f2 fd2) (G_are_loads : FnOk P w K mg base CX0 2 f2 fd2 ["pool", "thing"] spLoads) : FnOk P w K mg base CX0 5 f fd ["pool", "lot", "busy"] spLb := by
  refine F.F.ok sc_least_busy (fun vs H Q E h => ?_) (fun cdv A outer s H vs Q E hr h => ?_)
  · obtain ⟨a, ts, ps, c, ns, d, bs, rfl, _⟩ := h
    rfl
  · obtain ⟨a, ts, ps, c, ns, d, bs, rfl, p, hc, lo, hne, hd, hbl, q⟩ := h
    refine ⟨_, (pss_cons (ps_expr (pe_call G_check_lot (hr.mono (by decide)) (by rfl) F_check_lot.g F_check_lot.F.kp F_check_lot.b .nil pass0 (pa_cons (pv 0) (pa_cons (pv 1) pa_nil))))
      (pss_cons (ps_if (pt_not (pt_val (pe_call G_are_loads (hr.mono (by decide)) (by rfl) F_are_loads.g F_are_loads.F.kp F_are_loads.b .nil pass0 (pa_cons (pv 0) (pa_cons (pv 2) pa_nil)))))
      (pss_one ps_never)
      pss_nil)
      (pss_cons (ps_set (i := 3) sc_least_busy.nd rfl (.inl rfl) (pe_ix ix_tup (pv 1) pe_int (fun _ _ => rfl)))
      (pss_cons (ps_for PassesOwn.never rfl (pi_tup (pv 1)) (pg_name (i := 4) sc_least_busy.nd rfl (Or.inl rfl))
      (pss_one (ps_if (pt_cmpR op_lt (pe_op op_mul (pe_op op_add (pe_ix ix_tup (pv 2) (pv 4) (fun _ _ => rfl)) pe_int) (pe_ix ix_seq (pe_ix ix_tup (pv 0) (pv 3) (fun _ _ => rfl)) pe_int (fun _ _ => rfl))) (pe_op op_mul (pe_op op_add (pe_ix ix_tup (pv 2) (pv 3) (fun _ _ => rfl)) pe_int) (pe_ix ix_seq (pe_ix ix_tup (pv 0) (pv 4) (fun _ _ => rfl)) pe_int (fun _ _ => rfl))) (nomark _))
        (pss_one (ps_set (i := 3) sc_least_busy.nd rfl (.inl rfl) (pv 4)))
        pss_nil)))
      (pss_one (ps_ret (pv 3))))))), ?_⟩
    obtain ⟨x0, tl, rfl⟩ : ∃ x l, ns = x :: l := by
      cases ns with
      | nil => exact absurd rfl hne
      | cons x l => exact ⟨x, l, rfl⟩
    have l20 := lo.len
    refine ⟨_, rfl, _, rfl, a, ts, ps, c, _, rfl, p, hc, lo, hne, fun H1 s1 => ?_⟩
    refine ⟨_, rfl, _, rfl, a, ts, ps, d, bs, rfl, p.to s1, s1 _ _ hd, hbl, fun H2 s2 => ⟨_, rfl, iteF ?_⟩⟩
    have s12 := s1.trans s2
    clear s1 s2
    refine ⟨_, rfl, c, _, _, _, rfl, rfl, SqT.of (s12 _ _ hc), atI_nat (j := 0) (ctV_at rfl), ?_⟩
    refine ⟨_, rfl, c, rfl, ⟨_, SqT.of (s12 _ _ hc)⟩, ?_⟩
    refine for_it (walk_tup (K := K) (a := c) (xs := ctV (x0 :: tl))) (fun j σ H' => ∃ x4 : Option V, σ = [some (.ref a), some (.ref c), some (.ref d), some (.int (((x0 :: tl).take j).foldl (Sc.lbS (wF ps) (kF bs)) x0 : Nat)), x4] ∧ Same H H') ⟨_, rfl, s12⟩ (fun j σ H' _ z => ?_) ?_ ?_
    · obtain ⟨_, _, sm⟩ := z
      exact SqT.of (sm _ _ hc)
    · rintro j y σ H3 H4 hj ⟨x4, rfl, s3⟩ ⟨rfl, hy⟩
      obtain ⟨n, hn, rfl⟩ := ctV_get hy
      have hn8 := lo.lt n (List.mem_of_getElem? hn)
      have hst := Sc.fold_take (w := wF ps) (b := kF bs) (x0 := x0) hn
      have hb8 : ((x0 :: tl).take j).foldl (Sc.lbS (wF ps) (kF bs)) x0 < ps.length := by
        rcases Sc.fold_mem (w := wF ps) (b := kF bs) (ns := (x0 :: tl).take j) (x0 := x0) with h | h
        · rw [h]
          exact lo.lt _ List.mem_cons_self
        · exact lo.lt _ (List.mem_of_mem_take h)
      generalize ((x0 :: tl).take j).foldl (Sc.lbS (wF ps) (kF bs)) x0 = b at hst hb8 ⊢
      have p3 := p.to s3
      obtain ⟨tn, en, r1, r2, r3, _, r4, r5, _⟩ := p3.row hn8
      obtain ⟨tb, eb, u1, u2, u3, _, u4, u5, _⟩ := p3.row hb8
      obtain ⟨bn, hbn⟩ : ∃ k, bs[n]? = some k := ⟨bs[n]'(by omega), List.getElem?_eq_getElem (by omega)⟩
      obtain ⟨bb, hbb⟩ : ∃ k, bs[b]? = some k := ⟨bs[b]'(by omega), List.getElem?_eq_getElem (by omega)⟩
      have hd3 := s3 _ _ hd
      refine ⟨_, rfl, _, rfl, d, _, _, _, rfl, rfl, SqT.of hd3, atI_nat (ctV_at hbn), _, _, rfl, rfl, _, rfl, _, rfl, a, _, _, _, rfl, rfl, SqT.of p3.at_, atI_nat u1, .inr (.inl ⟨tb, _, _, _, rfl, rfl, SqT.of u3, atI_nat (j := 1) rfl, _, _, rfl, rfl, .inr ⟨by omega, by omega⟩, ?_⟩)⟩
      refine ⟨_, rfl, _, rfl, d, _, _, _, rfl, rfl, SqT.of hd3, atI_nat (ctV_at hbb), _, _, rfl, rfl, _, rfl, _, rfl, a, _, _, _, rfl, rfl, SqT.of p3.at_, atI_nat r1, .inr (.inl ⟨tn, _, _, _, rfl, rfl, SqT.of r3, atI_nat (j := 1) rfl, _, _, rfl, rfl, .inr ⟨by omega, by omega⟩, ?_⟩)⟩
      refine ⟨_, _, rfl, rfl, _, rfl, ?_⟩
      rw [lb_step u2 r2 hbb hbn] at hst
      refine ite2 (fun h => ?_) (fun h => ?_)
      · rw [if_pos h] at hst
        exact ⟨_, rfl, _, by rw [hst]; rfl, s3⟩
      · rw [if_neg h] at hst
        exact ⟨some (.int n), by rw [hst]; rfl, s3⟩
    · rintro σ H3 ⟨x4, rfl, s3⟩
      rw [List.take_of_length_le (by rw [ctV_len]; exact Nat.le_refl _), Sc.lbF_all]
      exact ⟨_, rfl, q _ s3⟩
def spBk : Sp := fun vs H Q _ => ∃ a ts ps c ns k, vs = [.ref a, .ref c, .str (S k)] ∧ Pool a ts ps H ∧ H c = some (.tup (ctV ns)) ∧ Lot ps.length ns ∧ ns ≠ [] ∧ wordL k = true ∧ ∀ (i : Nat) H', Same H H' → Sc.Bst (fS ps k) ns i → Q (.int (i : Int)) H'
theorem ok_bk {f f1 f2 : Addr} {fd fd1 fd2 : FuncData} (F : Fn K mg "by_key" s_by_key ["pool", "lot", "key"] f fd) (B : Blt mg) (F_check_lot : Fn K mg "check_lot" s_check_lot ["pool", "lot"] f1 fd1) (G_check_lot : FnOk P w K mg base CX0 4 f1 fd1 ["pool", "lot"] spCheck)
    (F_score : Fn K mg "score" s_score ["key", "label"] f2 fd2) (G_score : FnOk P w K mg base CX0 2 f2 fd2 ["key", "label"] spScore) : FnOk P w K mg base CX0 5 f fd ["pool", "lot", "key"] spBk := by
  refine F.F.ok sc_by_key (fun vs H Q E h => ?_) (fun cdv A outer s H vs Q E hr h => ?_)
  · obtain ⟨a, ts, ps, c, ns, k, rfl, _⟩ := h
    rfl
  · obtain ⟨a, ts, ps, c, ns, k, rfl, p, hc, lo, hne, hk, q⟩ := h
    refine ⟨_, (pss_cons (ps_expr (pe_call G_check_lot (hr.mono (by decide)) (by rfl) F_check_lot.g F_check_lot.F.kp F_check_lot.b .nil pass0 (pa_cons (pv 0) (pa_cons (pv 1) pa_nil))))
      (pss_cons (ps_setLc (i := 3) (own := [("at", 4)]) rfl sc_by_key.nd rfl rfl (sw_true rfl rfl rfl (by decide +kernel)) (pi_tup (pv 1)) (blkOk_by (N := N_by_key) (sc := defScope s_by_key) (by decide +kernel)) (fun _ _ _ _ _ => (pg_name (i := 4) sc_by_key.nd rfl (Or.inl rfl))) (fun _ _ _ _ _ => pts_nil) (fun _ _ _ _ _ => (pe_call G_score (hr.mono (by decide)) (by rfl) F_score.g F_score.F.kp F_score.b .nil pass0 (pa_cons (pv 2) (pa_cons (pe_ix (ix_tupK K rfl) (pe_ix (ix_tupK K rfl) (pv 0) (pv 4) (fun _ _ => rfl)) pe_int (fun _ _ => rfl)) pa_nil)))))
      (pss_one (ps_ret (pe_ix ix_tup (pv 1) (pe_bm PySem.F.plainAttrs_list PySem.F.slot_list_index PySem.F.type_list_index mt_index (pv 3) (pa_cons (pe_callB (cr_max rfl) (by rfl) B.n_max (by decide +kernel) (pa_cons (pv 3) pa_nil)) pa_nil)) (fun _ _ => rfl)))))), ?_⟩
    have l20 := lo.len
    refine ⟨_, rfl, _, rfl, a, ts, ps, c, _, rfl, p, hc, lo, hne, fun H1 s1 => ?_⟩
    refine ⟨_, rfl, c, rfl, ⟨_, SqT.of (s1 _ _ hc)⟩, fun D hD => ?_⟩
    refine lc_sel (walk_tup (K := K) (a := c) (xs := ctV ns)) (fun _ => true) (fun j => .int (fS ps k (kF ns j) : Nat)) (by rw [ctV_len]; omega) hD (fun H' s => SqT.of (s _ _ (s1 _ _ hc))) ?_ ?_
    · rintro j y H3 H4 kk k0 hi s2 ⟨rfl, hy⟩ hkk _
      have s12 := s1.trans s2
      obtain ⟨n, hn, rfl⟩ := ctV_get hy
      obtain ⟨t, e, r1, r2, r3, _, _, _, r4⟩ := (p.to s12).row (lo.lt n (List.mem_of_getElem? hn))
      have hkk := hkk rfl
      rw [kF_at hn, fS_at r2] at hkk
      refine ⟨rfl, _, rfl, _, rfl, _, rfl, a, _, _, _, rfl, rfl, SqT.of (p.to s12).at_, atI_nat r1, t, _, _, _, rfl, rfl, SqT.of r3, atI_nat (j := 0) rfl, k, e.1, rfl, hk, r4, fun H5 s5 => hkk _ s5⟩
    · intro H3 s2 h3
      have s12 := s1.trans s2
      have el : (List.range (ctV ns).length).map (fun j => V.int (fS ps k (kF ns j) : Nat)) = (ns.map fun n => ((fS ps k n : Nat) : Int)).map V.int := by
        rw [ctV_len, List.map_map]
        refine List.ext_getElem? fun i => ?_
        rw [List.getElem?_map, List.getElem?_map]
        by_cases h : i < ns.length
        · rw [List.getElem?_range h, List.getElem?_eq_getElem h]
          show some (V.int (fS ps k (kF ns i) : Nat)) = _
          rw [kF_at (List.getElem?_eq_getElem h)]
          rfl
        · rw [List.getElem?_eq_none (by simpa using h), List.getElem?_eq_none (by omega)]
          rfl
      rw [filt_all, el] at h3
      refine ⟨_, rfl, _, rfl, .inl ⟨rfl, _, SqL.of h3⟩, _, rfl, D, _, rfl, SqL.of h3, by rw [List.length_map]; cases ns; exact absurd rfl hne; simp, fun m hm htop => ?_⟩
      obtain ⟨n0, hn0, rfl⟩ := List.mem_map.mp hm
      obtain ⟨j, n, hj, hfn, hfst⟩ := Sc.first_at (fun n => fS ps k n = fS ps k n0) ns ⟨n0, hn0, rfl⟩
      have hflat : ((ns.map fun n => ((fS ps k n : Nat) : Int)).map V.int).all flatV = true := by
        rw [List.all_eq_true]
        intro y hy
        obtain ⟨_, _, rfl⟩ := List.mem_map.mp hy
        rfl
      refine ⟨D, _, _, j, .int (fS ps k n : Nat), rfl, rfl, SqL.of h3, rfl, hflat, by rw [List.getElem?_map, List.getElem?_map, hj]; rfl, by rw [hfn]; simp [eqV], fun m z' hm' hz' => ?_, ?_⟩
      · rw [List.getElem?_map, List.getElem?_map] at hz'
        cases ey : ns[m]? with
        | none => rw [ey] at hz'; cases hz'
        | some y =>
          rw [ey] at hz'
          obtain rfl := Option.some.inj hz'
          have := hfst m y hm' ey
          simp only [eqV, beq_eq_false_iff_ne]
          omega
      · refine ⟨c, _, _, _, rfl, rfl, SqT.of (s12 _ _ hc), atI_nat (ctV_at hj), q n H3 s12 (Sc.Bst.first lo.asc hj (fun y hy => ?_) fun m y hm' hy => ?_)⟩
        · have := htop _ (List.mem_map_of_mem hy)
          rw [hfn]
          omega
        · rw [hfn]
          exact hfst m y hm' hy
/-! ### the law's own -/
def spLScore : Sp := fun vs H Q _ => ∃ k l, vs = [.str (S k), .str (S l)] ∧ k.length + l.length ≤ 1000 ∧ Q (.int (Sc.scL (keyL k l) : Nat)) H
theorem ok_lscore {f : Addr} {fd : FuncData} (F : Fn K mg "_law_score" s__law_score ["_law_key", "_law_label"] f fd) (B : Blt mg) : FnOk P w K mg base CX0 1 f fd ["_law_key", "_law_label"] spLScore := by
  refine F.F.ok sc__law_score (fun vs H Q E h => ?_) (fun cdv A outer s H vs Q E hr h => ?_)
  · obtain ⟨k, l, rfl, _⟩ := h
    rfl
  · obtain ⟨k, l, rfl, hz, q⟩ := h
    refine ⟨_, (pss_cons (ps_set (i := 2) sc__law_score.nd rfl (.inl rfl) pe_int)
      (pss_cons (ps_for PassesOwn.never rfl (pi_str (pe_op op_add_str (pe_op op_add_str (pv 0) pe_str) (pv 1))) (pg_name (i := 3) sc__law_score.nd rfl (Or.inl rfl))
      (pss_one (ps_set (i := 2) sc__law_score.nd rfl (.inl rfl) (pe_op op_mod (pe_callTy call_int1 (by rfl) B.n_int (by decide +kernel) (pa_cons (pe_op op_add (pe_op op_mul (pv 2) pe_int) (pe_callB call_ord (by rfl) B.n_ord (by decide +kernel) (pa_cons (pv 3) pa_nil))) pa_nil)) pe_int))))
      (pss_one (ps_ret (pv 2))))), ?_⟩
    have c2 : S k ++ Str.ofString "/" = S (k ++ [47]) := S_cat k [47]
    have c3 : S (k ++ [47]) ++ S l = S (keyL k l) := by rw [S_cat]; unfold keyL; simp
    have len : (keyL k l).length = k.length + l.length + 1 := by unfold keyL; simp; omega
    refine ⟨_, rfl, _, _, rfl, rfl, ?_, ?_⟩
    · rw [S_len]; exact sz (by show k.length + 1 ≤ _; omega)
    rw [c2]
    refine ⟨_, rfl, _, _, rfl, rfl, ?_, ?_⟩
    · rw [S_len, S_len]; exact sz (by simp; omega)
    rw [c3]
    refine ⟨_, rfl, ?_⟩
    refine for_it (walk_str (z := S (keyL k l))) (fun j σ H' => ∃ (y4 : Option V), σ = [some (.str (S k)), some (.str (S l)), some (.int (Sc.scL ((keyL k l).take j) : Nat)), y4] ∧ H' = H) ⟨_, rfl, rfl⟩ (fun _ _ _ _ _ => trivial) ?_ ?_
    · rintro j y σ H3 H4 hj ⟨y4, rfl, rfl⟩ ⟨rfl, ch, hch, rfl⟩
      have hch : (keyL k l)[j]? = some ch := by
        rw [← Array.getElem?_toList] at hch
        exact hch
      refine ⟨_, rfl, _, _, rfl, rfl, .inr ⟨by decide, by decide⟩, _, rfl, _, rfl, rfl, _, _, rfl, rfl, .inl ⟨_, rfl, _, _, rfl, rfl, (by show (0 : Int) < 65521; decide), ?_⟩⟩
      refine ⟨some (.str ⟨#[ch]⟩), ?_, rfl⟩
      rw [Sc.scL_take hch, ← sc_int]
      rfl
    · rintro σ H3 ⟨y4, rfl, rfl⟩
      rw [List.take_of_length_le (by show _ ≤ (keyL k l).length; exact Nat.le_refl _)]
      exact ⟨_, rfl, q⟩
def spLLb : Sp := fun vs H Q _ => ∃ a ts ps c ns d bs, vs = [.ref a, .ref c, .ref d] ∧ Pool a ts ps H ∧ H c = some (.tup (ctV ns)) ∧ Lot ps.length ns ∧ ns ≠ [] ∧ H d = some (.tup (ctV bs)) ∧ bs.length = ps.length ∧ ∀ H', Same H H' → Q (.int (Sc.lbF (wF ps) (kF bs) ns : Nat)) H'
theorem ok_llb {f : Addr} {fd : FuncData} (F : Fn K mg "_law_least_busy" s__law_least_busy ["_law_pool", "_law_lot", "_law_busy"] f fd) (B : Blt mg) : FnOk P w K mg base CX0 1 f fd ["_law_pool", "_law_lot", "_law_busy"] spLLb := by
  refine F.F.ok sc__law_least_busy (fun vs H Q E h => ?_) (fun cdv A outer s H vs Q E hr h => ?_)
  · obtain ⟨a, ts, ps, c, ns, d, bs, rfl, _⟩ := h
    rfl
  · obtain ⟨a, ts, ps, c, ns, d, bs, rfl, p, hc, lo, hne, hd, hbl, q⟩ := h
    refine ⟨_, (pss_cons (ps_set (i := 3) sc__law_least_busy.nd rfl (.inl rfl) (pe_ix ix_tup (pv 1) pe_int (fun _ _ => rfl)))
      (pss_cons (ps_for PassesOwn.never rfl (pi_tup (pe_slice sl_tupA (pv 1) (po_some pe_int) po_none)) (pg_name (i := 4) sc__law_least_busy.nd rfl (Or.inl rfl))
      (pss_one (ps_if (pt_cmpR op_lt (pe_op op_mul (pe_op op_add (pe_ix ix_tup (pv 2) (pv 4) (fun _ _ => rfl)) pe_int) (pe_ix ix_seq (pe_ix ix_tup (pv 0) (pv 3) (fun _ _ => rfl)) pe_int (fun _ _ => rfl))) (pe_op op_mul (pe_op op_add (pe_ix ix_tup (pv 2) (pv 3) (fun _ _ => rfl)) pe_int) (pe_ix ix_seq (pe_ix ix_tup (pv 0) (pv 4) (fun _ _ => rfl)) pe_int (fun _ _ => rfl))) (nomark _))
        (pss_one (ps_set (i := 3) sc__law_least_busy.nd rfl (.inl rfl) (pv 4)))
        pss_nil)))
      (pss_one (ps_ret (pv 3))))), ?_⟩
    obtain ⟨x0, tl, rfl⟩ : ∃ x l, ns = x :: l := by
      cases ns with
      | nil => exact absurd rfl hne
      | cons x l => exact ⟨x, l, rfl⟩
    have l20 := lo.len
    refine ⟨_, rfl, c, _, _, _, rfl, rfl, SqT.of hc, atI_nat (j := 0) (ctV_at rfl), ?_⟩
    have e1 : HT.sIx (ctV (x0 :: tl)).length 0 (some 1) = 1 := by
      rw [show (1 : Int) = ((1 : Nat) : Int) from rfl, HT.sIx_nat, ctV_len]
      simp
    refine ⟨_, rfl, 1, rfl, c, _, rfl, SqT.of hc, fun z => ?_, fun _ T hT => ?_⟩
    · rw [e1] at z
      exact absurd z.1 (by decide)
    have ecut : cutV (ctV (x0 :: tl)) (some 1) none = ctV tl := by
      unfold cutV
      rw [HT.sIx_none, e1]
      simp [ctV]
      exact List.take_of_length_le (by simp)
    rw [ecut]
    have s12 : Same H (upd H T (.tup (ctV tl))) := same_new hT
    have hT1 : upd H T (.tup (ctV tl)) T = some (.tup (ctV tl)) := upd_same
    generalize upd H T (.tup (ctV tl)) = H2 at s12 hT1 ⊢
    refine ⟨T, rfl, ⟨_, SqT.of hT1⟩, ?_⟩
    refine for_it (walk_tup (K := K) (a := T) (xs := ctV tl)) (fun j σ H' => ∃ x4 : Option V, σ = [some (.ref a), some (.ref c), some (.ref d), some (.int ((tl.take j).foldl (Sc.lbS (wF ps) (kF bs)) x0 : Nat)), x4] ∧ Same H2 H') ⟨_, rfl, Same.refl _⟩ (fun j σ H' _ z => ?_) ?_ ?_
    · obtain ⟨_, _, sm⟩ := z
      exact SqT.of (sm _ _ hT1)
    · rintro j y σ H3 H4 hj ⟨x4, rfl, s3⟩ ⟨rfl, hy⟩
      obtain ⟨n, hn, rfl⟩ := ctV_get hy
      have hn8 := lo.lt n (List.mem_cons_of_mem _ (List.mem_of_getElem? hn))
      have hst := Sc.fold_take (w := wF ps) (b := kF bs) (x0 := x0) hn
      have hb8 : (tl.take j).foldl (Sc.lbS (wF ps) (kF bs)) x0 < ps.length := by
        rcases Sc.fold_mem (w := wF ps) (b := kF bs) (ns := tl.take j) (x0 := x0) with h | h
        · rw [h]
          exact lo.lt _ List.mem_cons_self
        · exact lo.lt _ (List.mem_cons_of_mem _ (List.mem_of_mem_take h))
      generalize (tl.take j).foldl (Sc.lbS (wF ps) (kF bs)) x0 = b at hst hb8 ⊢
      have p3 := p.to (s12.trans s3)
      obtain ⟨tn, en, r1, r2, r3, _, r4, r5, _⟩ := p3.row hn8
      obtain ⟨tb, eb, u1, u2, u3, _, u4, u5, _⟩ := p3.row hb8
      obtain ⟨bn, hbn⟩ : ∃ k, bs[n]? = some k := ⟨bs[n]'(by omega), List.getElem?_eq_getElem (by omega)⟩
      obtain ⟨bb, hbb⟩ : ∃ k, bs[b]? = some k := ⟨bs[b]'(by omega), List.getElem?_eq_getElem (by omega)⟩
      have hd3 := s3 _ _ (s12 _ _ hd)
      refine ⟨_, rfl, _, rfl, d, _, _, _, rfl, rfl, SqT.of hd3, atI_nat (ctV_at hbn), _, _, rfl, rfl, _, rfl, _, rfl, a, _, _, _, rfl, rfl, SqT.of p3.at_, atI_nat u1, .inr (.inl ⟨tb, _, _, _, rfl, rfl, SqT.of u3, atI_nat (j := 1) rfl, _, _, rfl, rfl, .inr ⟨by omega, by omega⟩, ?_⟩)⟩
      refine ⟨_, rfl, _, rfl, d, _, _, _, rfl, rfl, SqT.of hd3, atI_nat (ctV_at hbb), _, _, rfl, rfl, _, rfl, _, rfl, a, _, _, _, rfl, rfl, SqT.of p3.at_, atI_nat r1, .inr (.inl ⟨tn, _, _, _, rfl, rfl, SqT.of r3, atI_nat (j := 1) rfl, _, _, rfl, rfl, .inr ⟨by omega, by omega⟩, ?_⟩)⟩
      refine ⟨_, _, rfl, rfl, _, rfl, ?_⟩
      rw [lb_step u2 r2 hbb hbn] at hst
      refine ite2 (fun h => ?_) (fun h => ?_)
      · rw [if_pos h] at hst
        exact ⟨_, rfl, _, by rw [hst]; rfl, s3⟩
      · rw [if_neg h] at hst
        exact ⟨some (.int n), by rw [hst]; rfl, s3⟩
    · rintro σ H3 ⟨x4, rfl, s3⟩
      rw [List.take_of_length_le (by rw [ctV_len]; exact Nat.le_refl _)]
      exact ⟨_, rfl, q _ (s12.trans s3)⟩
def spLBk : Sp := fun vs H Q _ => ∃ a ts ps c ns k, vs = [.ref a, .ref c, .str (S k)] ∧ Pool a ts ps H ∧ H c = some (.tup (ctV ns)) ∧ Lot ps.length ns ∧ ns ≠ [] ∧ wordL k = true ∧ ∀ (i : Nat) H', Same H H' → Sc.Bst (fS ps k) ns i → Q (.int (i : Int)) H'
theorem ok_lbk {f f1 : Addr} {fd fd1 : FuncData} (F : Fn K mg "_law_by_key" s__law_by_key ["_law_pool", "_law_lot", "_law_key"] f fd) (B : Blt mg) (F__law_score : Fn K mg "_law_score" s__law_score ["_law_key", "_law_label"] f1 fd1) (G__law_score : FnOk P w K mg base CX0 1 f1 fd1 ["_law_key", "_law_label"] spLScore) : FnOk P w K mg base CX0 2 f fd ["_law_pool", "_law_lot", "_law_key"] spLBk := by
  refine F.F.ok sc__law_by_key (fun vs H Q E h => ?_) (fun cdv A outer s H vs Q E hr h => ?_)
  · obtain ⟨a, ts, ps, c, ns, k, rfl, _⟩ := h
    rfl
  · obtain ⟨a, ts, ps, c, ns, k, rfl, p, hc, lo, hne, hk, q⟩ := h
    refine ⟨_, (pss_one (ps_ret (pe_ix ix_tup (pe_callB (cr_minP rfl (u10 hr)) (by rfl) B.n_min (by decide +kernel) (pa_cons (pe_lc (own := [("_law_at", 3)]) rfl sc__law_by_key.nd (pi_tup (pv 1)) (blkOk_by (N := N__law_by_key) (sc := defScope s__law_by_key) (by decide +kernel)) (fun _ _ _ _ _ => (pg_name (i := 3) sc__law_by_key.nd rfl (Or.inl rfl))) (fun _ _ _ _ _ => pts_nil) (fun _ _ _ _ _ => (pe_tup (pa_cons (pe_un un_neg (pe_call G__law_score (hr.mono (by decide)) (by rfl) F__law_score.g F__law_score.F.kp F__law_score.b .nil pass0 (pa_cons (pv 2) (pa_cons (pe_ix (ix_tupK K rfl) (pe_ix (ix_tupK K rfl) (pv 0) (pv 3) (fun _ _ => rfl)) pe_int (fun _ _ => rfl)) pa_nil)))) (pa_cons (pv 3) pa_nil))))) pa_nil)) pe_int (fun _ _ => rfl)))), ?_⟩
    have l20 := lo.len
    have lk := word_len hk
    refine ⟨_, rfl, c, rfl, ⟨_, SqT.of hc⟩, fun D hD => ?_⟩
    refine lc_allH (walk_tup (K := K) (a := c) (xs := ctV ns)) (fun H' => Same H H') (fun H' j y => ∃ T n, y = .ref T ∧ T ≠ D ∧ ns[j]? = some n ∧ H' T = some (.tup [.int (-((fS ps k n : Nat) : Int)), .int (n : Nat)])) (by rw [ctV_len]; omega) (Same.refl _) (fun H' o r b u e => by rw [upd_ne (ne_of_none e hD)]; exact r b u e) ?_ (fun H' r => SqT.of (r _ _ hc)) ?_ ?_
    · rintro H' o j y ⟨T, n, rfl, h1, h2, h3⟩
      exact ⟨T, n, rfl, h1, h2, by rw [upd_ne h1]; exact h3⟩
    · rintro j y H3 H4 xs kk hj r hxs ⟨rfl, hy⟩ hkk
      obtain ⟨n, hn, rfl⟩ := ctV_get hy
      obtain ⟨t, e, r1, r2, r3, _, _, _, r4⟩ := (p.to r).row (lo.lt n (List.mem_of_getElem? hn))
      have le := word_len r4
      refine ⟨rfl, _, rfl, _, rfl, _, rfl, a, _, _, _, rfl, rfl, SqT.of (p.to r).at_, atI_nat r1, t, _, _, _, rfl, rfl, SqT.of r3, atI_nat (j := 0) rfl, k, e.1, rfl, by omega, ?_⟩
      rw [← fS_at (k := k) r2]
      refine ⟨_, rfl, _, rfl, sz (by show 2 ≤ 16000000; decide), fun T hT => ?_⟩
      have nTD : T ≠ D := (ne_of_none hxs hT).symm
      refine hkk _ _ (fun j' z hz => ?_) ⟨T, n, rfl, nTD, hn, upd_same⟩ (r.trans (same_new hT)) (by rw [upd_ne nTD.symm]; exact hxs)
      obtain ⟨T', n', rfl, h1, h2, h3⟩ := hz
      exact ⟨T', n', rfl, h1, h2, same_new hT _ _ h3⟩
    · intro H3 xs hxl hv r hxs
      rw [ctV_len] at hxl
      have hks : ∃ ks : List (Addr × (Int × Int)), xs = ks.map (fun z => V.ref z.1) ∧ ∀ (j : Nat) z, ks[j]? = some z → ∃ n : Nat, ns[j]? = some n ∧ z.2 = (-((fS ps k n : Nat) : Int), (n : Int)) ∧ H3 z.1 = some (.tup [.int z.2.1, .int z.2.2]) := by
        have : ∀ (l : List V), (∀ (j : Nat) y, l[j]? = some y → ∃ T, ∃ n : Nat, y = V.ref T ∧ T ≠ D ∧ ns[j]? = some n ∧ H3 T = some (.tup [.int (-((fS ps k n : Nat) : Int)), .int (n : Nat)])) → ∀ m : Nat, m ≤ l.length → ∃ ks : List (Addr × (Int × Int)), ks.length = m ∧ l.take m = ks.map (fun z => V.ref z.1) ∧ ∀ (j : Nat) z, ks[j]? = some z → ∃ n : Nat, ns[j]? = some n ∧ z.2 = (-((fS ps k n : Nat) : Int), (n : Int)) ∧ H3 z.1 = some (.tup [.int z.2.1, .int z.2.2]) := by
          intro l hl m
          induction m with
          | zero => exact fun _ => ⟨[], rfl, by simp, fun j z h => by simp at h⟩
          | succ m ih =>
            intro hm
            obtain ⟨ks, e1, e2, e3⟩ := ih (by omega)
            have hlm : l[m]? = some (l[m]'(by omega)) := List.getElem?_eq_getElem (by omega)
            obtain ⟨T, n, ey, _, hn, hT⟩ := hl m _ hlm
            refine ⟨ks ++ [(T, (-((fS ps k n : Nat) : Int), (n : Int)))], by simp [e1], ?_, fun j z hz => ?_⟩
            · rw [List.take_add_one, hlm, e2, List.map_append, ey]
              rfl
            · rw [List.getElem?_append] at hz
              split at hz
              · exact e3 j z hz
              · rename_i hj
                have e0 : j - ks.length = 0 := by
                  cases hq : j - ks.length with
                  | zero => rfl
                  | succ i => rw [hq] at hz; simp at hz
                rw [e0] at hz
                simp at hz
                subst hz
                have : j = m := by omega
                subst this
                exact ⟨n, hn, rfl, hT⟩
        obtain ⟨ks, _, e2, e3⟩ := this xs hv xs.length (Nat.le_refl _)
        exact ⟨ks, by rw [← e2, List.take_length], e3⟩
      obtain ⟨ks, rfl, hk2⟩ := hks
      rw [List.length_map] at hxl
      have hne' : ks ≠ [] := by
        rintro rfl
        exact hne (List.eq_nil_of_length_eq_zero hxl.symm)
      refine ⟨D, ks, rfl, SqL.of hxs, hne', fun z hz => ?_, fun z hz hmin => ?_⟩
      · obtain ⟨j, hj⟩ := List.getElem?_of_mem hz
        obtain ⟨_, _, _, h⟩ := hk2 j z hj
        exact h
      · obtain ⟨j, hj⟩ := List.getElem?_of_mem hz
        obtain ⟨n, hn, ez, hT⟩ := hk2 j z hj
        have key : ∀ m ∈ ns, ¬ plt (-((fS ps k m : Nat) : Int), (m : Int)) z.2 := by
          intro m hm
          obtain ⟨i, hi⟩ := List.getElem?_of_mem hm
          have hil : i < ks.length := by rw [hxl]; exact (List.getElem?_eq_some_iff.mp hi).1
          have hki : ks[i]? = some ks[i] := List.getElem?_eq_getElem hil
          obtain ⟨m', hm', em, _⟩ := hk2 i _ hki
          rw [hi] at hm'
          obtain rfl := Option.some.inj hm'
          rw [← em]
          exact hmin _ (List.getElem_mem hil)
        refine ⟨z.1, _, _, _, rfl, rfl, SqT.of hT, atI_nat (j := 1) rfl, ?_⟩
        rw [ez]
        refine q n H3 r ⟨List.mem_of_getElem? hn, fun m hm => ?_, fun m hm em => ?_⟩
        · have := key m hm
          rw [ez] at this
          unfold plt at this
          simp only at this
          omega
        · have := key m hm
          rw [ez] at this
          unfold plt at this
          simp only at this
          omega
end
end Ag

end
/-! ## T4 -/
section
set_option linter.all false
set_option maxRecDepth 100000
set_option maxHeartbeats 4000000
namespace Ag
open PySem PySem.Spec PyProof.Rows L2
open SX (S S_len S_cat S_inj)
/-! ### the deck of draws -/
def kC : Key := Sum.inr (Str.ofString "left")
def kM : Key := Sum.inr (Str.ofString "mixed")
def kT : Key := Sum.inr (Str.ofString "draws")
def dkL (c : Addr) (m t : Int) : List (Key × V) := [(kC, .ref c), (kM, .int m), (kT, .int t)]
theorem nCM : ¬ kC = kM := by decide +kernel
theorem nCT : ¬ kC = kT := by decide +kernel
theorem nMT : ¬ kM = kT := by decide +kernel
section
variable {c : Addr} {m t u : Int}
theorem v_C : valV (dkL c m t) kC = some (.ref c) := valV_pos rfl
theorem v_M : valV (dkL c m t) kM = some (.int m) := (valV_neg nCM).trans (valV_pos rfl)
theorem v_T : valV (dkL c m t) kT = some (.int t) := (valV_neg nCT).trans ((valV_neg nMT).trans (valV_pos rfl))
theorem put_T : putK (dkL c m t) kT (.int u) = dkL c m u := by
  unfold putK dkL
  simp [nCT, nMT]
theorem merge_d : mergeK [] (dkL c m t) = dkL c m t := by
  unfold mergeK dkL putK
  simp [nCM, nCT, nMT]
end
/-- a deck stands at p, its cells at c -/
def Dk (p c : Addr) (H : Hp) : Prop := ∃ (m t : Int) (cs : List Int), H p = some (.dK (dkL c m t)) ∧ H c = some (.lst (cs.map V.int)) ∧ cs.length ≤ 63
/-- all but the deck is as it was, and the deck is one -/
def Gx (p c : Addr) (H H' : Hp) : Prop := (∀ b o, b ≠ p → b ≠ c → H b = some o → H' b = some o) ∧ Dk p c H'
theorem Gx.refl {p c : Addr} {H : Hp} (d : Dk p c H) : Gx p c H H := ⟨fun _ _ _ _ e => e, d⟩
theorem Gx.trans {p c : Addr} {H H1 H2 : Hp} (a : Gx p c H H1) (b : Gx p c H1 H2) : Gx p c H H2 := ⟨fun x o h1 h2 e => b.1 x o h1 h2 (a.1 x o h1 h2 e), b.2⟩
theorem Dk.same {p c : Addr} {H H' : Hp} (d : Dk p c H) (s : Same H H') : Dk p c H' := by
  obtain ⟨m, t, cs, h1, h2, h3⟩ := d
  exact ⟨m, t, cs, s _ _ h1, s _ _ h2, h3⟩
theorem Gx.same {p c : Addr} {H H' : Hp} (d : Dk p c H) (s : Same H H') : Gx p c H H' := ⟨fun b o _ _ e => s b o e, d.same s⟩
theorem Dk.ne {p c q : Addr} {H : Hp} (d : Dk p c H) (h : H q = none) : q ≠ p ∧ q ≠ c := by
  obtain ⟨m, t, cs, h1, h2, _⟩ := d
  exact ⟨(ne_of_none h1 h).symm, (ne_of_none h2 h).symm⟩
theorem Gx.free {p c q : Addr} {H H' : Hp} (g : Gx p c H H') (d : Dk p c H) (h : H' q = none) : H q = none := by
  cases e : H q with
  | none => rfl
  | some o =>
    have n := g.2.ne h
    have := g.1 q o n.1 n.2 e
    rw [h] at this
    cases this
/-- an object that the deck is not -/
def At (p c : Addr) (H : Hp) (a : Addr) (o : HO) : Prop := a ≠ p ∧ a ≠ c ∧ H a = some o
theorem At.gx {p c a : Addr} {H H' : Hp} {o : HO} (h : At p c H a o) (g : Gx p c H H') : At p c H' a o := ⟨h.1, h.2.1, g.1 a o h.1 h.2.1 h.2.2⟩
theorem At.new {p c a : Addr} {H : Hp} {o : HO} (d : Dk p c H) (h : H a = none) : At p c (upd H a o) a o := ⟨(d.ne h).1, (d.ne h).2, upd_same⟩
theorem Gx.new {p c a : Addr} {H : Hp} {o : HO} (d : Dk p c H) (h : H a = none) : Gx p c H (upd H a o) := Gx.same d (same_new h)
/-- a list's own change -/
theorem Gx.put {p c a : Addr} {H H' : Hp} {o : HO} (g : Gx p c H H') (d : Dk p c H) (h : H a = none) (n : a ≠ p ∧ a ≠ c) : Gx p c H (upd H' a o) := by
  refine ⟨fun b u h1 h2 e => ?_, ?_⟩
  · rw [upd_ne (ne_of_none e h)]
    exact g.1 b u h1 h2 e
  · obtain ⟨m, t, cs, h1, h2, h3⟩ := g.2
    exact ⟨m, t, cs, by rw [upd_ne n.1.symm]; exact h1, by rw [upd_ne n.2.symm]; exact h2, h3⟩
theorem cutV63 {ns : List Int} (h : ns.length ≤ 63) : cutV (ns.map V.int) none (some 63) = ns.map V.int := by
  unfold cutV
  rw [HT.sIx_none, show HT.sIx (ns.map V.int).length (ns.map V.int).length (some 63) = min 63 (ns.map V.int).length from HT.sIx_nat _ _ 63, List.drop_zero, List.take_of_length_le]
  rw [List.length_map]
  omega
section
variable {P : Program} {w : World} {K : PySem.W.Frag} {mg : Str → Option Value} {base : Heap} 
def spDeck (K : PySem.W.Frag) : Sp := fun vs H Q _ => ∃ (a : Addr) (ns : List Int), vs = [.ref a] ∧ SqL K H a (ns.map V.int) ∧ ns.length ≤ 63 ∧ ∀ p c H', H p = none → H c = none → Same H H' → Dk p c H' → Q (.ref p) H'
theorem ints_all {ns : List Int} {xs : List V} (hl : xs.length = ns.length) (h : ∀ (i : Nat) (y : V), xs[i]? = some y → ∃ z, ns[i]? = some z ∧ y = V.int z) : xs = ns.map V.int := by
  refine List.ext_getElem? fun i => ?_
  rw [List.getElem?_map]
  cases e : xs[i]? with
  | none =>
    have h1 := List.getElem?_eq_none_iff.mp e
    have h2 : ns[i]? = none := List.getElem?_eq_none_iff.mpr (by omega)
    rw [h2]
    rfl
  | some y =>
    obtain ⟨z, hz, rfl⟩ := h i y e
    rw [hz]
    rfl
theorem int_at {ns : List Int} {i : Nat} {x : V} (h : (ns.map V.int)[i]? = some x) : ∃ z, ns[i]? = some z ∧ x = V.int z := by
  rw [List.getElem?_map] at h
  cases e : ns[i]? with
  | none => rw [e] at h; cases h
  | some z =>
    rw [e] at h
    exact ⟨z, rfl, (Option.some.inj h).symm⟩
theorem ok_deck {f : Addr} {fd : FuncData} (F : Fn K mg "_law_deck" s__law_deck ["_law_script"] f fd) (B : Blt mg) : FnOk P w K mg base CX0 1 f fd ["_law_script"] (spDeck K) := by
  refine F.F.ok sc__law_deck (fun vs H Q E h => ?_) (fun cdv A outer s H vs Q E hr h => ?_)
  · obtain ⟨a, ns, rfl, _⟩ := h
    rfl
  · obtain ⟨a, ns, rfl, hS, hlen, q⟩ := h
    refine ⟨_, (pss_cons (ps_set (i := 1) sc__law_deck.nd rfl (.inl rfl) pe_int)
      (pss_cons (ps_for PassesOwn.never rfl (pi_list (pe_slice sl_list (pv 0) po_none (po_some pe_int))) (pg_name (i := 2) sc__law_deck.nd rfl (Or.inl rfl))
      (pss_one (ps_set (i := 1) sc__law_deck.nd rfl (.inl rfl) (pe_op op_mod (pe_callTy call_int1 (by rfl) B.n_int (by decide +kernel) (pa_cons (pe_op op_add (pe_op op_add (pe_op op_mul (pv 1) pe_int) (pe_op op_mod (pe_callTy call_int1 (by rfl) B.n_int (by decide +kernel) (pa_cons (pv 2) pa_nil)) pe_int)) pe_int) pa_nil)) pe_int))))
      (pss_one (ps_ret (pe_disp (pps_cons pe_str (pe_revL (pe_callTy call_list_of (by rfl) B.n_list (by decide +kernel) (pa_cons (pe_slice sl_list (pv 0) po_none (po_some pe_int)) pa_nil))) (pps_cons pe_str (pv 1) (pps_cons pe_str pe_int pps_nil))) (by rfl) (by rfl) (fun z => by cases z) (by decide)))))), ?_⟩
    have c63 := cutV63 hlen
    -- the mixed number
    refine ⟨_, rfl, 63, rfl, a, _, rfl, hS, fun u hu => ?_⟩
    rw [c63]
    refine ⟨u, rfl, ⟨_, SqL.of upd_same⟩, ?_⟩
    refine for_list (K := K) (a := u) (xs := ns.map V.int) (fun i σ H2 => ∃ (m : Int) (x : Option V), σ = [some (.ref a), some (.int m), x] ∧ Same H H2 ∧ H2 u = some (.lst (ns.map V.int))) ⟨_, none, rfl, same_new hu, upd_same⟩ (fun i σ H2 _ z => ?_) ?_ ?_
    · obtain ⟨_, _, _, _, e⟩ := z
      exact SqL.of e
    · rintro i x σ H2 hx ⟨m, y, rfl, sm, e⟩
      obtain ⟨z, _, rfl⟩ := int_at hx
      refine ⟨_, rfl, _, _, rfl, rfl, .inr ⟨by decide, by decide⟩, ?_⟩
      refine ⟨_, rfl, .inl ⟨z, rfl, _, _, rfl, rfl, (by show (0 : Int) < 2147483587; decide), _, _, rfl, rfl, _, _, rfl, rfl, .inl ⟨_, rfl, _, _, rfl, rfl, (by show (0 : Int) < 2147483629; decide), ?_⟩⟩⟩
      exact ⟨_, _, rfl, sm, e⟩
    · rintro σ H2 ⟨m, x, rfl, sm, e⟩
      -- the dict
      intro p hp
      have nHp : H p = none := sm.free hp
      have sm2 : Same H (upd H2 p (.dK [])) := sm.trans (same_new hp)
      refine ⟨_, rfl, 63, rfl, a, _, rfl, sm2.seq hS, fun v hv => ?_⟩
      rw [c63]
      have npv : p ≠ v := fun z => by rw [← z, upd_same] at hv; cases hv
      have sm3 := sm2.trans (same_new (o := .lst (ns.map V.int)) hv)
      have p3 : upd (upd H2 p (.dK [])) v (.lst (ns.map V.int)) p = some (.dK []) := by rw [upd_ne npv, upd_same]
      refine ⟨v, _, rfl, .inl (SqL.of upd_same), fun D hD => ?_⟩
      generalize upd (upd H2 p (.dK [])) v (.lst (ns.map V.int)) = H3 at sm3 p3 hD ⊢
      have nDp : p ≠ D := ne_of_none p3 hD
      refine ⟨D, _, rfl, SqL.of upd_same, fun R hR => ?_⟩
      have sm4 := sm3.trans (same_new (o := .lst (ns.map V.int)) hD)
      have p4 : upd H3 D (.lst (ns.map V.int)) p = some (.dK []) := by rw [upd_ne nDp]; exact p3
      generalize upd H3 D (.lst (ns.map V.int)) = H4 at sm4 p4 hR ⊢
      have hRp : p ≠ R := ne_of_none p4 hR
      refine ⟨_, rfl, ?_⟩
      refine ⟨by rw [upd_ne hRp]; exact p4, dkL R m 0, rfl, by show 3 ≤ 15; decide, ?_⟩
      rw [merge_d]
      have nR : H R = none := sm4.free hR
      refine q p R _ nHp nR (fun b o e => ?_) ⟨m, 0, ns.reverse, upd_same, ?_, by rw [List.length_reverse]; exact hlen⟩
      · rw [upd_ne (ne_of_none e nHp), upd_ne (ne_of_none e nR)]
        exact sm4 b o e
      · rw [upd_ne hRp.symm, upd_same, List.map_reverse]
end
theorem dget {H : Hp} {a : Addr} {kvs : List (Key × V)} {k : Key} {v : V} (e : H a = some (.dK kvs)) (h : valV kvs k = some v) : DGet H a (kV k) (some v) := h ▸ DGet.k e
theorem ne_nil_ints (cs : List Int) : (!PyData.eqv (.list (cs.map PyData.int)) (.list [])) = decide (cs ≠ []) := by
  cases cs <;> simp [PyData.eqv, PyData.eqvAll]
section
variable {P : Program} {w : World} {K : PySem.W.Frag} {mg : Str → Option Value} {base : Heap} 
def spDraw : Sp := fun vs H Q _ => ∃ (p c : Addr) (n : Int), vs = [.ref p, .int n] ∧ Dk p c H ∧ 1 ≤ n ∧ n ≤ 1000000000 ∧ ∀ (r : Nat) H', (r : Int) < n → Gx p c H H' → Q (.int (r : Int)) H'
theorem nat_mod {x n : Int} (h : 1 ≤ n) : ∃ r : Nat, x % n = (r : Int) ∧ (r : Int) < n := by
  refine ⟨(x % n).toNat, ?_, ?_⟩
  · have := Int.emod_nonneg x (by omega : n ≠ 0)
    omega
  · have h1 := Int.emod_nonneg x (by omega : n ≠ 0)
    have h2 := Int.emod_lt_of_pos x (by omega : 0 < n)
    omega
theorem ok_draw {f : Addr} {fd : FuncData} (F : Fn K mg "_law_draw" s__law_draw ["_law_deck_here", "_law_many"] f fd) (B : Blt mg) : FnOk P w K mg base CX0 1 f fd ["_law_deck_here", "_law_many"] spDraw := by
  refine F.F.ok sc__law_draw (fun vs H Q E h => ?_) (fun cdv A outer s H vs Q E hr h => ?_)
  · obtain ⟨p, c, n, rfl, _⟩ := h
    rfl
  · obtain ⟨p, c, n, rfl, dk, n1, n2, q⟩ := h
    have hu := hu_of hr
    refine ⟨_, (pss_cons (ps_dput hu (pv 0) pe_str (pe_op op_add (pe_dget hu (pv 0) pe_str (fun _ _ => rfl)) pe_int) rfl)
      (pss_cons (ps_set (i := 2) sc__law_draw.nd rfl (.inl rfl) (pe_op op_add (pe_dget hu (pv 0) pe_str (fun _ _ => rfl)) (pe_op op_mul pe_int (pe_dget hu (pv 0) pe_str (fun _ _ => rfl)))))
      (C8.pss_cut (ps_if (pt_cmpR (op_neD hr.units) (pe_dget hu (pv 0) pe_str (fun _ _ => rfl)) (pe_lst pa_nil) (nomark _))
      (pss_cons (ps_set (i := 3) sc__law_draw.nd rfl (.inl rfl) (pe_bm0 PySem.F.plainAttrs_list PySem.F.slot_list_pop PySem.F.type_list_pop mt_pop (pe_dget hu (pv 0) pe_str (fun _ _ => rfl))))
        (pss_cons (ps_if (pt_cmpR op_ge (pv 3) (pe_op op_pow pe_int pe_int) (nomark _))
        (pss_cons (ps_expr (pe_bm PySem.F.plainAttrs_list PySem.F.slot_list_append PySem.F.type_list_append mt_append (pe_dget hu (pv 0) pe_str (fun _ _ => rfl)) (pa_cons (pe_op op_fdiv (pv 3) (pe_callB (call_max2 rfl) (by rfl) B.n_max (by decide +kernel) (pa_cons pe_int (pa_cons (pv 1) pa_nil)))) pa_nil)))
          (pss_one (ps_ret (pe_op op_mod (pe_callTy call_int1 (by rfl) B.n_int (by decide +kernel) (pa_cons (pv 3) pa_nil)) (pv 1)))))
        pss_nil)
        (pss_one (ps_set (i := 2) sc__law_draw.nd rfl (.inl rfl) (pe_op op_add (pv 2) (pe_op op_mod (pe_callTy call_int1 (by rfl) B.n_int (by decide +kernel) (pa_cons (pv 3) pa_nil)) pe_int))))))
      pss_nil)
      (pss_cons (ps_set (i := 2) sc__law_draw.nd rfl (.inl rfl) (pe_op op_mod (pe_callTy call_int1 (by rfl) B.n_int (by decide +kernel) (pa_cons (pe_op op_add (pe_op op_mul (pv 2) pe_int) pe_int) pa_nil)) pe_int))
      (pss_cons (ps_set (i := 2) sc__law_draw.nd rfl (.inl rfl) (pe_op op_mod (pe_callTy call_int1 (by rfl) B.n_int (by decide +kernel) (pa_cons (pe_op op_add (pe_op op_add (pe_op op_mul (pv 2) (pv 2)) (pe_op op_mul pe_int (pe_dget hu (pv 0) pe_str (fun _ _ => rfl)))) pe_int) pa_nil)) pe_int))
      (pss_cons (ps_set (i := 2) sc__law_draw.nd rfl (.inl rfl) (pe_op op_mod (pe_callTy call_int1 (by rfl) B.n_int (by decide +kernel) (pa_cons (pe_op op_mul (pv 2) pe_int) pa_nil)) pe_int))
      (pss_one (ps_ret (pe_op op_mod (pe_callTy call_int1 (by rfl) B.n_int (by decide +kernel) (pa_cons (pe_op op_fdiv (pv 2) pe_int) pa_nil)) (pv 1)))))))))), ?_⟩
    obtain ⟨m, t, cs, h1, h2, h3⟩ := id dk
    have fin : ∀ (x : Int) (H2 : Hp), Gx p c H H2 → Q (.int (x % n)) H2 := by
      intro x H2 g
      obtain ⟨r, er, hr'⟩ := nat_mod (x := x) n1
      rw [er]
      exact q r H2 hr' g
    have npc : p ≠ c := ne_of h1 h2 (by intro z; cases z)
    -- turn
    refine ⟨_, rfl, p, _, rfl, dget (k := kT) h1 v_T, _, _, rfl, rfl, _, rfl, p, _, rfl, DPut.k (k := kT) h1 (by rw [sizeLine_eq]; show 3 < _; decide), ?_⟩
    rw [put_T]
    have g1 : Gx p c H (upd H p (.dK (dkL c m (t + 1)))) := ⟨fun b o b1 _ e => by rw [upd_ne b1]; exact e, ⟨m, t + 1, cs, upd_same, by rw [upd_ne npc.symm]; exact h2, h3⟩⟩
    generalize upd H p (.dK (dkL c m (t + 1))) = H1 at g1
    obtain ⟨m1, t1, cs1, k1, k2, k3⟩ := g1.2
    -- the figure
    refine ⟨_, rfl, p, _, rfl, dget (k := kM) k1 v_M, _, rfl, p, _, rfl, dget (k := kT) k1 v_T, _, _, rfl, rfl, .inl ⟨by decide, by decide⟩, _, _, rfl, rfl, ?_⟩
    refine ⟨fun σ H' => ∃ (fig : Int) (x3 : Option V), σ = [some (.ref p), some (.int n), some (.int fig), x3] ∧ Gx p c H H', ?_, ?_⟩
    · refine ⟨_, rfl, p, _, rfl, dget (k := kC) k1 v_C, Nat.zero_le _, fun z hz => ?_⟩
      have dk1 : Dk p c H1 := g1.2
      have nz := dk1.ne hz
      have k1' : upd H1 z (.lst []) p = some (.dK (dkL c m1 t1)) := by rw [upd_ne nz.1.symm]; exact k1
      have k2' : upd H1 z (.lst []) c = some (.lst (cs1.map V.int)) := by rw [upd_ne nz.2.symm]; exact k2
      have g2 : Gx p c H (upd H1 z (.lst [])) := g1.trans (Gx.new dk1 hz)
      refine ⟨.list (cs1.map .int), .list [], .lst (SqL.of k2') (dpIntsG cs1), .lst (SqL.of upd_same) .nil, shaped_ints cs1, shaped_ints [], _, rfl, ?_⟩
      rw [ne_nil_ints]
      refine ite2 (fun h => ?_) (fun h => ?_)
      · have hne : cs1 ≠ [] := of_decide_eq_true h
        obtain ⟨ini, cell, rfl⟩ : ∃ ini cell, cs1 = ini ++ [cell] := ⟨_, _, (List.dropLast_concat_getLast hne).symm⟩
        refine ⟨_, rfl, p, _, rfl, dget (k := kC) k1' v_C, .inl ⟨rfl, _, SqL.of k2'⟩, c, _, .int cell, rfl, rfl, k2', by simp, ?_⟩
        have ed : ((ini ++ [cell]).map V.int).dropLast = ini.map V.int := by simp
        rw [ed]
        rw [List.length_append, List.length_singleton] at k3
        have k1'' : upd (upd H1 z (.lst [])) c (.lst (ini.map V.int)) p = some (.dK (dkL c m1 t1)) := by rw [upd_ne npc]; exact k1'
        have putc : ∀ (xs : List Int) (H2 : Hp), (∀ b, b ≠ c → H2 b = upd H1 z (.lst []) b) → xs.length ≤ 63 → Gx p c H (upd H2 c (.lst (xs.map V.int))) := by
          intro xs H2 hb hx
          refine ⟨fun b o b1 b2 e => ?_, ⟨m1, t1, xs, ?_, upd_same, hx⟩⟩
          · rw [upd_ne b2, hb b b2]
            exact g2.1 b o b1 b2 e
          · rw [upd_ne npc, hb p npc]
            exact k1'
        refine ⟨_, rfl, _, _, rfl, rfl, ⟨by decide, by decide, by decide⟩, _, _, rfl, rfl, _, rfl, ?_⟩
        refine ite2 (fun h => ?_) (fun h => ?_)
        · refine ⟨_, rfl, p, _, rfl, dget (k := kC) k1'' v_C, .inl ⟨rfl, _, SqL.of upd_same⟩, _, rfl, _, rfl, 2, n, rfl, _, _, rfl, rfl, ?_, c, _, _, rfl, rfl, upd_same, ?_, ?_⟩
          · show (0 : Int) < (if n > 2 then n else 2) ∧ (if n > 2 then n else 2) < 1073741824
            split <;> omega
          · rw [List.length_map, sizeLine_eq]; omega
          refine ⟨_, rfl, .inl ⟨_, rfl, _, rfl, _, _, rfl, rfl, (by show (0 : Int) < n; omega), ?_⟩⟩
          refine fin cell _ ?_
          have e2 : ini.map V.int ++ [V.int (cell / (if n > 2 then n else 2))] = (ini ++ [cell / (if n > 2 then n else 2)]).map V.int := by simp
          show Gx p c H (upd _ c (.lst (ini.map V.int ++ [V.int (cell / (if n > 2 then n else 2))])))
          rw [e2]
          exact putc _ _ (fun b hb => by rw [upd_ne hb]) (by simp; omega)
        · refine ⟨_, rfl, _, rfl, .inl ⟨_, rfl, _, _, rfl, rfl, (by show (0 : Int) < 2147483587; decide), _, _, rfl, rfl, _, _, rfl, putc _ _ (fun b hb => rfl) (by omega)⟩⟩
      · exact ⟨_, _, rfl, g2⟩
    · rintro σ H2 ⟨fig, x3, rfl, g2⟩
      obtain ⟨m2, t2, cs2, j1, j2, j3⟩ := g2.2
      refine ⟨_, rfl, _, _, rfl, rfl, .inr ⟨by decide, by decide⟩, _, _, rfl, rfl, .inl ⟨_, rfl, _, _, rfl, rfl, (by show (0 : Int) < 2147483563; decide), ?_⟩⟩
      have b1 := Int.emod_nonneg (fig * 40014 + 20) (by decide : (2147483563 : Int) ≠ 0)
      have b2 := Int.emod_lt_of_pos (fig * 40014 + 20) (by decide : (0 : Int) < 2147483563)
      generalize (fig * 40014 + 20) % 2147483563 = f1 at b1 b2
      refine ⟨_, rfl, _, rfl, _, _, rfl, rfl, .inl ⟨by omega, by omega⟩, _, rfl, p, _, rfl, dget (k := kT) j1 v_T, _, _, rfl, rfl, .inl ⟨by decide, by decide⟩, _, _, rfl, rfl, _, _, rfl, rfl, .inl ⟨_, rfl, _, _, rfl, rfl, (by show (0 : Int) < 2147483399; decide), ?_⟩⟩
      refine ⟨_, rfl, _, _, rfl, rfl, .inr ⟨by decide, by decide⟩, .inl ⟨_, rfl, _, _, rfl, rfl, (by show (0 : Int) < 2147483647; decide), ?_⟩⟩
      refine ⟨_, rfl, _, _, rfl, rfl, ⟨by decide, by decide⟩, .inl ⟨_, rfl, _, rfl, _, _, rfl, rfl, (by show (0 : Int) < n; omega), ?_⟩⟩
      exact fin _ H2 g2
/-- _law_pick: any item of a list that the deck is not, any sign of a text -/
def spPick : Sp := fun vs H Q _ => ∃ (p c : Addr) (v : V), vs = [.ref p, v] ∧ Dk p c H ∧
  ((∃ (a : Addr) (xs : List V), v = .ref a ∧ At p c H a (.lst xs) ∧ 1 ≤ xs.length ∧ xs.length ≤ 100000 ∧ ∀ (r : Nat) x H', xs[r]? = some x → Gx p c H H' → Q x H') ∨
   ∃ z : List Nat, v = .str (S z) ∧ 1 ≤ z.length ∧ z.length ≤ 1000 ∧ ∀ (r : Nat) d H', z[r]? = some d → Gx p c H H' → Q (.str (S [d])) H')
theorem ok_pick {f f1 : Addr} {fd fd1 : FuncData} (F : Fn K mg "_law_pick" s__law_pick ["_law_deck_here", "_law_some"] f fd) (B : Blt mg) (F__law_draw : Fn K mg "_law_draw" s__law_draw ["_law_deck_here", "_law_many"] f1 fd1) :
    FnOk P w K mg base CX0 2 f fd ["_law_deck_here", "_law_some"] spPick := by
  have G__law_draw : FnOk P w K mg base CX0 1 f1 fd1 ["_law_deck_here", "_law_many"] spDraw := ok_draw F__law_draw B
  refine F.F.ok sc__law_pick (fun vs H Q E h => ?_) (fun cdv A outer s H vs Q E hr h => ?_)
  · obtain ⟨p, c, v, rfl, _⟩ := h
    rfl
  · obtain ⟨p, c, v, rfl, dk, h⟩ := h
    refine ⟨_, (pss_one (ps_ret (pe_ix ix_seq (pv 1) (pe_call G__law_draw (hr.mono (by decide)) (by rfl) F__law_draw.g F__law_draw.F.kp F__law_draw.b .nil pass0 (pa_cons (pv 0) (pa_cons (pe_callB call_len (by rfl) B.n_len PySem.boot_len (pa_cons (pv 1) pa_nil)) pa_nil))) (fun _ _ => rfl)))), ?_⟩
    rcases h with ⟨a, xs, rfl, ha, hl1, hl2, q⟩ | ⟨z, rfl, hl1, hl2, q⟩
    · refine ⟨_, rfl, _, rfl, _, rfl, .ref a, xs.length, rfl, .inl ⟨xs, SqL.of ha.2.2, rfl⟩, p, c, _, rfl, dk, by omega, by omega, fun r H' hr' g => ?_⟩
      have hlt : r < xs.length := by omega
      exact .inl ⟨a, xs, _, _, rfl, rfl, SqL.of (ha.gx g).2.2, atI_nat (List.getElem?_eq_getElem hlt), q r _ H' (List.getElem?_eq_getElem hlt) g⟩
    · refine ⟨_, rfl, _, rfl, _, rfl, .str (S z), z.length, rfl, ⟨sz (by rw [S_len]; omega), by rw [S_len]⟩, p, c, _, rfl, dk, by omega, by omega, fun r H' hr' g => ?_⟩
      have hlt : r < z.length := by omega
      have hz : (S z).cps.toList[r]? = some z[r] := List.getElem?_eq_getElem hlt
      exact .inr (.inr ⟨S z, _, _, rfl, rfl, sz (by rw [S_len]; omega), atI_nat hz, q r _ H' (List.getElem?_eq_getElem hlt) g⟩)
end
end Ag

end
/-! ## T5 -/
section
set_option linter.all false
set_option maxRecDepth 100000
namespace Ag
open PySem PySem.Spec PyProof.Rows L2
open SX (S S_len S_cat S_inj)
theorem strs_of {P : List Nat → Prop} : ∀ {xs : List V}, (∀ (i : Nat) y, xs[i]? = some y → ∃ z, P z ∧ y = V.str (S z)) → ∃ zs : List (List Nat), xs = (zs.map S).map V.str ∧ ∀ z ∈ zs, P z
  | [], _ => ⟨[], rfl, fun _ h => by cases h⟩
  | x :: xs, h => by
    obtain ⟨z, hz, rfl⟩ := h 0 x rfl
    obtain ⟨zs, rfl, hp⟩ := strs_of (xs := xs) fun i y hy => h (i + 1) y (by simpa using hy)
    refine ⟨z :: zs, rfl, fun u hu => ?_⟩
    rcases List.mem_cons.mp hu with rfl | hu
    · exact hz
    · exact hp u hu
theorem joinL_nil : ∀ zs : List (List Nat), TL.joinL [] zs = zs.flatten
  | [] => rfl
  | [p] => by simp [TL.joinL]
  | p :: q :: r => by
    show p ++ ([] ++ TL.joinL [] (q :: r)) = _
    rw [joinL_nil (q :: r)]
    simp
theorem emptyS : (Str.ofString "") = S [] := by decide +kernel
theorem len_sum {zs : List (List Nat)} : ((zs.map S).map (·.length)).sum = zs.flatten.length := by
  rw [SX.lens, List.length_flatten]
theorem azzS : (Str.ofString "abcdefghijklmnopqrstuvwxyz") = S ((List.range 26).map (· + 97)) := by decide +kernel
theorem alS : (Str.ofString "abcdefghijkl") = S ((List.range 12).map (· + 97)) := by decide +kernel
theorem one_flat {zs : List (List Nat)} (h : ∀ z ∈ zs, ∃ ch, z = [ch] ∧ azC ch = true) : zs.flatten.length = zs.length ∧ zs.flatten.all azC = true := by
  induction zs with
  | nil => exact ⟨rfl, rfl⟩
  | cons z zs ih =>
    obtain ⟨h1, h2⟩ := ih fun u hu => h u (List.mem_cons_of_mem _ hu)
    obtain ⟨ch, rfl, hc⟩ := h z List.mem_cons_self
    refine ⟨?_, ?_⟩
    · rw [List.flatten_cons, List.length_append, h1]
      simp
      omega
    · rw [List.flatten_cons, List.all_append, h2]
      simp [hc]
theorem sub_len {α : Type} [DecidableEq α] : ∀ (a b : List α), a.Nodup → (∀ x ∈ a, x ∈ b) → a.length ≤ b.length
  | [], _, _, _ => Nat.zero_le _
  | x :: a, b, nd, h => by
    obtain ⟨h1, h2⟩ := List.nodup_cons.mp nd
    have hx := h x List.mem_cons_self
    have := sub_len a (b.erase x) h2 fun y hy => by
      have hne : y ≠ x := fun z => h1 (z ▸ hy)
      exact (List.mem_erase_of_ne hne).mpr (h y (List.mem_cons_of_mem _ hy))
    rw [List.length_erase_of_mem hx] at this
    have hp := List.length_pos_of_mem hx
    rw [List.length_cons]
    omega
/-- ten equal letters -/
def ten (i : Nat) : List Nat := List.replicate 10 (i + 97)
theorem ten_word {i : Nat} (h : i < 12) : wordL (ten i) = true := by
  match i, h with
  | 0, _ => decide
  | 1, _ => decide
  | 2, _ => decide
  | 3, _ => decide
  | 4, _ => decide
  | 5, _ => decide
  | 6, _ => decide
  | 7, _ => decide
  | 8, _ => decide
  | 9, _ => decide
  | 10, _ => decide
  | 11, _ => decide
theorem ten_free {ls : List (List Nat)} (h : ls.length < 12) : ∃ i, i < 12 ∧ ten i ∉ ls := by
  refine Classical.byContradiction fun z => ?_
  have all : ∀ x ∈ (List.range 12).map ten, x ∈ ls := by
    intro x hx
    obtain ⟨i, hi, rfl⟩ := List.mem_map.mp hx
    refine Classical.byContradiction fun q => z ⟨i, List.mem_range.mp hi, q⟩
  have := sub_len _ ls (by decide : ((List.range 12).map ten).Nodup) all
  simp at this
  omega
abbrev wV (ls : List (List Nat)) : List V := ls.map fun l => V.str (S l)
theorem flat_w (ls : List (List Nat)) : (wV ls).all flatV = true := by
  rw [List.all_eq_true]
  intro y hy
  obtain ⟨z, _, rfl⟩ := List.mem_map.mp hy
  rfl
theorem in_w (l : List Nat) (ls : List (List Nat)) : inV (.str (S l)) (wV ls) = decide (l ∈ ls) := by
  unfold inV
  rw [Bool.eq_iff_iff, List.any_eq_true, decide_eq_true_eq]
  constructor
  · rintro ⟨y, hy, e⟩
    obtain ⟨z, hz, rfl⟩ := List.mem_map.mp hy
    have : S z = S l := eq_of_beq e
    rw [← S_inj this]
    exact hz
  · intro h
    refine ⟨.str (S l), List.mem_map_of_mem h, ?_⟩
    show (S l == S l) = true
    exact beq_self_eq_true _
theorem op_notIn_seqK {X : Cx} (K : PySem.W.Frag) (hK : X.K = K) : OpR X (compareOp .NotIn) (rIn K true) := by
  subst hK
  exact op_notIn_seq
theorem wV_get {ls : List (List Nat)} {j : Nat} {l : List Nat} (h : ls[j]? = some l) : (wV ls)[j]? = some (.str (S l)) := by
  show (ls.map _)[j]? = _
  rw [List.getElem?_map, h]
  rfl
section
variable {P : Program} {w : World} {K : PySem.W.Frag} {mg : Str → Option Value} {base : Heap}
def spMkWord : Sp := fun vs H Q _ => ∃ (p c : Addr), vs = [.ref p] ∧ Dk p c H ∧ ∀ (l : List Nat) H', wordL l = true → Gx p c H H' → Q (.str (S l)) H'
theorem ok_mkword {f f2 : Addr} {fd fd2 : FuncData} (F : Fn K mg "_law_word" s__law_word ["_law_deck_here"] f fd) (B : Blt mg) (F__law_pick : Fn K mg "_law_pick" s__law_pick ["_law_deck_here", "_law_some"] f2 fd2)
    (G__law_pick : FnOk P w K mg base CX0 2 f2 fd2 ["_law_deck_here", "_law_some"] spPick) : FnOk P w K mg base CX0 3 f fd ["_law_deck_here"] spMkWord := by
  refine F.F.ok sc__law_word (fun vs H Q E h => ?_) (fun cdv A outer s H vs Q E hr h => ?_)
  · obtain ⟨p, c, rfl, _⟩ := h
    rfl
  · obtain ⟨p, c, rfl, dk, q⟩ := h
    refine ⟨_, (pss_cons (ps_set (i := 1) sc__law_word.nd rfl (.inl rfl) (pe_call G__law_pick (hr.mono (by decide)) (by rfl) F__law_pick.g F__law_pick.F.kp F__law_pick.b .nil pass0 (pa_cons (pv 0) (pa_cons (pe_lst (pa_cons pe_int (pa_cons pe_int (pa_cons pe_int (pa_cons pe_int (pa_cons pe_int (pa_cons pe_int pa_nil))))))) pa_nil))))
      (pss_one (ps_ret (pe_join pe_str (pe_lc (own := [("_law_letter", 2)]) rfl sc__law_word.nd (pi_range1 (by rfl) B.n_range (pa_cons (pv 1) pa_nil)) (blkOk_by (N := N__law_word) (sc := defScope s__law_word) (by decide +kernel)) (fun _ _ _ _ _ => (pg_name (i := 2) sc__law_word.nd rfl (Or.inl rfl))) (fun _ _ _ _ _ => pts_nil) (fun _ _ _ _ _ => (pe_call G__law_pick (hr.mono (by decide)) (by rfl) F__law_pick.g F__law_pick.F.kp F__law_pick.b .nil pass0 (pa_cons (pv 0) (pa_cons pe_str pa_nil))))))))), ?_⟩
    refine ⟨_, rfl, sz (by show 6 ≤ 16000000; decide), fun a ha => ?_⟩
    have g1 := Gx.new (o := .lst [.int 1, .int 2, .int 3, .int 5, .int 10, .int 4]) dk ha
    have a1 := At.new (o := .lst [.int 1, .int 2, .int 3, .int 5, .int 10, .int 4]) dk ha
    refine ⟨p, c, .ref a, rfl, g1.2, .inl ⟨a, _, rfl, a1, (by show 1 ≤ 6; decide), (by show 6 ≤ 100000; decide), fun r x H2 hx g2 => ?_⟩⟩
    have g2 := g1.trans g2
    obtain ⟨m, m1, hm, rfl⟩ : ∃ m : Nat, 1 ≤ m ∧ m ≤ 10 ∧ x = .int (m : Int) := by
      have mem := List.mem_of_getElem? hx
      simp only [List.mem_cons, List.not_mem_nil, or_false] at mem
      rcases mem with rfl | rfl | rfl | rfl | rfl | rfl
      · exact ⟨1, by decide, by decide, rfl⟩
      · exact ⟨2, by decide, by decide, rfl⟩
      · exact ⟨3, by decide, by decide, rfl⟩
      · exact ⟨5, by decide, by decide, rfl⟩
      · exact ⟨10, by decide, by decide, rfl⟩
      · exact ⟨4, by decide, by decide, rfl⟩
    refine ⟨⟨_, rfl⟩, _, rfl, _, rfl, by omega, by omega, fun D hD => ?_⟩
    have nD := g2.2.ne hD
    have hD0 := g2.free dk hD
    have hmm : ((m : Int)).toNat = m := by simp
    refine lc_all (walk_range (lo := 0) (n := ((m : Int)).toNat)) (fun H' => Gx p c H H') (fun _ y => ∃ z, (∃ ch, z = [ch] ∧ azC ch = true) ∧ y = .str (S z)) (by rw [hmm]; omega) g2 (fun H' o g => g.put dk hD0 nD) (fun _ _ => trivial) ?_ ?_
    · rintro i x Ha Hb xs k hi g hxs ⟨rfl, rfl⟩ hk
      refine ⟨rfl, _, rfl, p, c, _, rfl, g.2, .inr ⟨_, congrArg V.str azzS, by decide, by decide, fun r d H8 hd g8 => ?_⟩⟩
      refine hk _ _ ⟨[d], ⟨d, rfl, ?_⟩, rfl⟩ (g.trans g8) (g8.1 D _ nD.1 nD.2 hxs)
      obtain ⟨e, he, rfl⟩ := List.mem_map.mp (List.mem_of_getElem? hd)
      have he := List.mem_range.mp he
      simp only [azC, Bool.and_eq_true, decide_eq_true_eq]
      omega
    · rintro H' xs hl hv g hxs
      obtain ⟨zs, rfl, hz⟩ := strs_of (P := fun z => ∃ ch, z = [ch] ∧ azC ch = true) (fun i y hy => hv i y hy)
      have hzl : zs.length = m := by rw [← hmm, ← hl]; simp
      obtain ⟨hf1, hf2⟩ := one_flat hz
      refine ⟨_, D, zs.map S, rfl, rfl, .inl (SqL.of hxs), ?_, ?_⟩
      · rw [len_sum, emptyS, S_len, List.length_nil, Nat.mul_zero]
        omega
      · rw [emptyS, SX.join_S, joinL_nil]
        refine q _ _ ?_ g
        unfold wordL
        rw [hf2, decide_eq_true (by omega : 1 ≤ zs.flatten.length), decide_eq_true (by omega : zs.flatten.length ≤ 10)]
        rfl
def spMkWords : Sp := fun vs H Q _ => ∃ (p c : Addr) (many : Nat), vs = [.ref p, .int many] ∧ Dk p c H ∧ many ≤ 8 ∧ ∀ (L : Addr) (ls : List (List Nat)) H', H L = none → Gx p c H H' → At p c H' L (.lst (wV ls)) → ls.length = many → ls.Nodup → (∀ l ∈ ls, wordL l = true) → Q (.ref L) H'
set_option maxHeartbeats 1000000 in
theorem ok_mkwords {f f2 : Addr} {fd fd2 : FuncData} (F : Fn K mg "_law_words" s__law_words ["_law_deck_here", "_law_many"] f fd) (B : Blt mg) (F__law_word : Fn K mg "_law_word" s__law_word ["_law_deck_here"] f2 fd2)
    (G__law_word : FnOk P w K mg base CX0 3 f2 fd2 ["_law_deck_here"] spMkWord) : FnOk P w K mg base CX0 4 f fd ["_law_deck_here", "_law_many"] spMkWords := by
  refine F.F.ok sc__law_words (fun vs H Q E h => ?_) (fun cdv A outer s H vs Q E hr h => ?_)
  · obtain ⟨p, c, many, rfl, _⟩ := h
    rfl
  · obtain ⟨p, c, many, rfl, dk, m8, q⟩ := h
    refine ⟨_, (pss_cons (ps_set (i := 2) sc__law_words.nd rfl (.inr rfl) (pe_lst pa_nil))
      (pss_cons (ps_for PassesOwn.never rfl (pi_range1 (by rfl) B.n_range (pa_cons (pv 1) pa_nil)) (pg_name (i := 3) sc__law_words.nd rfl (Or.inl rfl))
      (pss_cons (ps_set (i := 4) sc__law_words.nd rfl (.inl rfl) (pe_call G__law_word (hr.mono (by decide)) (by rfl) F__law_word.g F__law_word.F.kp F__law_word.b .nil pass0 (pa_cons (pv 0) pa_nil)))
        (C8.pss_cut (ps_if (pt_cmpR op_in_seq (pv 4) (pv 2) rfl)
        (pss_one (ps_set (i := 4) sc__law_words.nd rfl (.inl rfl) (pe_ix ix_list (pe_lc (own := [("_law_letter", 5)]) rfl sc__law_words.nd (pi_str pe_str) (blkOk_by (N := N__law_words) (sc := defScope s__law_words) (by decide +kernel)) (fun _ _ _ _ _ => (pg_name (i := 5) sc__law_words.nd rfl (Or.inl rfl))) (fun _ _ _ _ _ => (pts_one (pt_cmpR (op_notIn_seqK K rfl) (pe_op op_rep_str (pv 5) pe_int) (pv 2) rfl))) (fun _ _ _ _ _ => (pe_op op_rep_str (pv 5) pe_int))) pe_int (fun _ _ => rfl))))
        pss_nil)
        (pss_one (ps_expr (pe_bm PySem.F.plainAttrs_list PySem.F.slot_list_append PySem.F.type_list_append mt_append (pv 2) (pa_cons (pv 4) pa_nil)))))))
      (pss_one (ps_ret (pv 2))))), ?_⟩
    refine ⟨Nat.zero_le _, fun L hL => ?_⟩
    have nL := dk.ne hL
    have g0 := Gx.new (o := .lst []) dk hL
    refine ⟨_, rfl, _, rfl, by omega, by omega, ?_⟩
    refine for_range (lo := 0) (n := ((many : Nat) : Int).toNat) (fun j σ H' => ∃ (ls : List (List Nat)) (x3 x4 x5 : Option V), σ = [some (.ref p), some (.int many), some (.ref L), x3, x4, x5] ∧ Gx p c H H' ∧ H' L = some (.lst (wV ls)) ∧ ls.length = j ∧ ls.Nodup ∧ ∀ l ∈ ls, wordL l = true) ⟨[], _, _, _, rfl, g0, upd_same, rfl, List.nodup_nil, fun l hl => by cases hl⟩ ?_ ?_
    · rintro j σ H1 hj ⟨ls, x3, x4, x5, rfl, g, hLs, hlen, nd, hw⟩
      have hj : j < many := by omega
      refine ⟨_, rfl, p, c, rfl, g.2, fun l H2 hl g2 => ?_⟩
      have g := g.trans g2
      have hLs := g2.1 _ _ nL.1 nL.2 hLs
      clear g2
      refine ⟨fun σ H' => ∃ (l : List Nat) (y3 y5 : Option V), σ = [some (.ref p), some (.int many), some (.ref L), y3, some (.str (S l)), y5] ∧ Gx p c H H' ∧ H' L = some (.lst (wV ls)) ∧ wordL l = true ∧ l ∉ ls, ?_, ?_⟩
      · refine ⟨_, rfl, _, rfl, L, wV ls, rfl, .inl (SqL.of hLs), rfl, flat_w ls, _, rfl, ?_⟩
        rw [if_neg (by decide), in_w]
        refine ite2 (fun h => ?_) (fun h => ?_)
        · refine ⟨_, rfl, fun D hD => ?_⟩
          have nD := g.2.ne hD
          have hD0 := g.free dk hD
          have nLD : L ≠ D := ne_of_none hLs hD
          rw [alS]
          refine lc_sel (walk_str (z := S ((List.range 12).map (· + 97)))) (fun i => decide (ten i ∉ ls)) (fun i => .str (S (ten i))) (by decide) hD (fun _ _ => trivial) ?_ ?_
          · rintro j y H3 H4 k k0 hi s3 ⟨rfl, ch, hch, rfl⟩ hk hk0
            have hi : j < 12 := hi
            have ech : ch = j + 97 := by
              rw [← Array.getElem?_toList] at hch
              have : ((List.range 12).map (· + 97))[j]? = some ch := hch
              rw [List.getElem?_map, List.getElem?_range hi] at this
              exact (Option.some.inj this).symm
            subst ech
            have erep : (List.replicate 10 [j + 97]).flatten = ten j := by
              unfold ten
              simp
            refine ⟨rfl, _, rfl, [j + 97], 10, rfl, rfl, by show 1 * 10 ≤ 16000000; decide, by decide, by show 1 ≤ 16000000; decide, ?_⟩
            rw [erep]
            refine ⟨_, rfl, L, wV ls, rfl, .inl (SqL.of (s3 _ _ hLs)), rfl, flat_w ls, _, rfl, ?_⟩
            rw [if_pos rfl, in_w]
            by_cases hm : ten j ∈ ls
            · rw [decide_eq_true hm]
              exact iteF (hk0 (decide_eq_false (by simpa using hm)) _ (Same.refl _))
            · rw [decide_eq_false hm]
              refine iteT ⟨_, rfl, [j + 97], 10, rfl, rfl, by show 1 * 10 ≤ 16000000; decide, by decide, by show 1 ≤ 16000000; decide, ?_⟩
              rw [erep]
              exact hk (decide_eq_true hm) _ (Same.refl _)
          · intro H3 s3 h3
            obtain ⟨i0, hi0, hn0⟩ := ten_free (ls := ls) (by omega)
            have hmem : i0 ∈ (List.range 12).filter fun i => decide (ten i ∉ ls) := List.mem_filter.mpr ⟨List.mem_range.mpr hi0, decide_eq_true hn0⟩
            have h3 : H3 D = some (.lst (((List.range 12).filter fun i => decide (ten i ∉ ls)).map fun i => V.str (S (ten i)))) := h3
            cases hf : (List.range 12).filter (fun i => decide (ten i ∉ ls)) with
            | nil => rw [hf] at hmem; cases hmem
            | cons i rest =>
              rw [hf] at h3
              have hi : i ∈ (List.range 12).filter fun i => decide (ten i ∉ ls) := by rw [hf]; exact List.mem_cons_self
              obtain ⟨hi1, hi2⟩ := List.mem_filter.mp hi
              refine ⟨D, _, _, _, rfl, rfl, SqL.of h3, atI_nat (j := 0) rfl, ?_⟩
              exact ⟨ten i, _, _, rfl, g.trans (Gx.same g.2 s3), s3 _ _ hLs, ten_word (List.mem_range.mp hi1), of_decide_eq_true hi2⟩
        · exact ⟨l, _, _, rfl, g, hLs, hl, of_decide_eq_false (Bool.eq_false_iff.mpr h)⟩
      · rintro σ H3 ⟨l, y3, y5, rfl, g, hLs, hl, hnl⟩
        refine ⟨_, rfl, .inl ⟨rfl, _, SqL.of hLs⟩, _, rfl, L, _, _, rfl, rfl, hLs, by rw [List.length_map, sizeLine_eq]; omega, ?_⟩
        refine ⟨ls ++ [l], _, _, _, rfl, g.put dk hL nL, by rw [upd_same]; simp [wV], by simp [hlen], ?_, fun x hx => ?_⟩
        · rw [List.nodup_append]
          refine ⟨nd, by simp, fun a ha b hb => ?_⟩
          rw [List.mem_singleton.mp hb]
          exact fun z => hnl (z ▸ ha)
        · rcases List.mem_append.mp hx with hx | hx
          · exact hw x hx
          · rw [List.mem_singleton.mp hx]
            exact hl
    · rintro σ H1 ⟨ls, x3, x4, x5, rfl, g, hLs, hlen, nd, hw⟩
      exact ⟨_, rfl, q L ls H1 hL g ⟨nL.1, nL.2, hLs⟩ (by simpa using hlen) nd hw⟩
end
end Ag

end
/-! ## T6 -/
section
set_option linter.all false
set_option maxRecDepth 100000
namespace Ag
open PySem PySem.Spec PyProof.Rows L2
open SX (S S_len S_cat S_inj)
theorem cut_pre {A R : List Nat} {r : Nat} (h : A.length = r) : cutS (S (A ++ R)) none (some (r : Int)) = S A := by
  unfold cutS
  rw [HT.sIx_none, HT.sIx_nat, S_len]
  show S (((A ++ R).drop 0).take _) = _
  rw [List.drop_zero, Nat.sub_zero, List.length_append, show min r (A.length + R.length) = A.length by omega, List.take_left]
theorem cut_mid {A M B : List Nat} {r : Nat} (h : A.length = r) (hM : M.length = 3) : cutS (S (A ++ (M ++ B))) (some (r : Int)) (some ((r : Int) + 3)) = S M := by
  unfold cutS
  rw [show (r : Int) + 3 = ((r + 3 : Nat) : Int) by omega, HT.sIx_nat, HT.sIx_nat, S_len]
  show S (((A ++ (M ++ B)).drop _).take _) = _
  rw [List.length_append, List.length_append, show min r (A.length + (M.length + B.length)) = A.length by omega, show min (r + 3) (A.length + (M.length + B.length)) - A.length = M.length by omega, List.drop_left, List.take_left]
theorem cut_post {A M B : List Nat} {r : Nat} (h : A.length = r) (hM : M.length = 3) : cutS (S (A ++ (M ++ B))) (some ((r : Int) + 3)) none = S B := by
  unfold cutS
  rw [show (r : Int) + 3 = ((r + 3 : Nat) : Int) by omega, HT.sIx_none, HT.sIx_nat, S_len]
  show S (((A ++ (M ++ B)).drop _).take _) = _
  rw [List.length_append, List.length_append, show min (r + 3) (A.length + (M.length + B.length)) = (A ++ M).length by rw [List.length_append]; omega, ← List.append_assoc, List.drop_left, List.take_of_length_le (by rw [List.length_append]; omega)]
theorem word_all {l : List Nat} (h : wordL l = true) : l.all azC = true := by
  unfold wordL at h
  rw [Bool.and_eq_true] at h
  exact h.2
theorem word_mk {l : List Nat} (h1 : 1 ≤ l.length) (h2 : l.length ≤ 10) (h3 : l.all azC = true) : wordL l = true := by
  unfold wordL
  rw [h3, decide_eq_true h1, decide_eq_true h2]
  rfl
theorem az_of {c : Nat} : azC c = true ↔ 97 ≤ c ∧ c ≤ 122 := by simp [azC]
theorem lettersS_at {k : Nat} (h : k < 26) : (S ((List.range 26).map (· + 97))).cps.toList[k]? = some (k + 97) := by
  show ((List.range 26).map (· + 97))[k]? = _
  rw [List.getElem?_map, List.getElem?_range h]
  rfl
section
variable {P : Program} {w : World} {K : PySem.W.Frag} {mg : Str → Option Value} {base : Heap}
def spTwin : Sp := fun vs H Q _ => ∃ (p c : Addr) (l : List Nat), vs = [.ref p, .str (S l)] ∧ Dk p c H ∧ wordL l = true ∧ 3 ≤ l.length ∧ ∀ (T : Addr) (l1 l2 : List Nat) H', H T = none → Gx p c H H' → H' T = some (.tup [.str (S l1), .str (S l2)]) → wordL l1 = true → wordL l2 = true → l1 ≠ l2 → Q (.ref T) H'
set_option maxHeartbeats 1000000 in
theorem ok_twin {f f2 : Addr} {fd fd2 : FuncData} (F : Fn K mg "_law_twin_label" s__law_twin_label ["_law_deck_here", "_law_label"] f fd) (B : Blt mg) (F__law_draw : Fn K mg "_law_draw" s__law_draw ["_law_deck_here", "_law_many"] f2 fd2)
    (G__law_draw : FnOk P w K mg base CX0 1 f2 fd2 ["_law_deck_here", "_law_many"] spDraw) : FnOk P w K mg base CX0 2 f fd ["_law_deck_here", "_law_label"] spTwin := by
  refine F.F.ok sc__law_twin_label (fun vs H Q E h => ?_) (fun cdv A outer s H vs Q E hr h => ?_)
  · obtain ⟨p, c, l, rfl, _⟩ := h
    rfl
  · obtain ⟨p, c, l, rfl, dk, hl, h3, q⟩ := h
    refine ⟨_, (pss_cons (ps_set (i := 2) sc__law_twin_label.nd rfl (.inl rfl) (pe_call G__law_draw (hr.mono (by decide)) (by rfl) F__law_draw.g F__law_draw.F.kp F__law_draw.b .nil pass0 (pa_cons (pv 0) (pa_cons (pe_op op_sub (pe_callB call_len_str (by rfl) B.n_len PySem.boot_len (pa_cons (pv 1) pa_nil)) pe_int) pa_nil))))
      (pss_cons (ps_setLc (i := 3) (own := [("_law_sign", 6)]) rfl sc__law_twin_label.nd rfl rfl (sw_true rfl rfl rfl (by decide +kernel)) (pi_str (pe_slice sl_str (pv 1) (po_some (pv 2)) (po_some (pe_op op_add (pv 2) pe_int)))) (blkOk_by (N := N__law_twin_label) (sc := defScope s__law_twin_label) (by decide +kernel)) (fun _ _ _ _ _ => (pg_name (i := 6) sc__law_twin_label.nd rfl (Or.inl rfl))) (fun _ _ _ _ _ => pts_nil) (fun _ _ _ _ _ => (pe_op op_sub (pe_callB call_ord (by rfl) B.n_ord (by decide +kernel) (pa_cons (pv 6) pa_nil)) pe_int)))
      (C8.pss_cut (ps_if (PW.pt (pw_or (pt_cmpR op_gt (pe_ix ix_list (pv 3) pe_int (fun _ _ => rfl)) pe_int (nomark _)) (pw_or (pt_cmpR op_gt (pe_ix ix_list (pv 3) pe_int (fun _ _ => rfl)) pe_int (nomark _)) (pw_or1 (pt_cmpR op_gt (pe_ix ix_list (pv 3) pe_int (fun _ _ => rfl)) pe_int (nomark _))))))
      (pss_cons (ps_set (i := 3) sc__law_twin_label.nd rfl (.inl rfl) (pe_lst (pa_cons pe_int (pa_cons pe_int (pa_cons pe_int pa_nil)))))
        (pss_one (ps_set (i := 1) sc__law_twin_label.nd rfl (.inl rfl) (pe_op op_add_str (pe_op op_add_str (pe_slice sl_str (pv 1) po_none (po_some (pv 2))) pe_str) (pe_slice sl_str (pv 1) (po_some (pe_op op_add (pv 2) pe_int)) po_none)))))
      pss_nil)
      (pss_cons (ps_set (i := 4) sc__law_twin_label.nd rfl (.inl rfl) pe_str)
      (pss_cons (ps_set (i := 5) sc__law_twin_label.nd rfl (.inl rfl) (pe_op op_add_str (pe_op op_add_str (pe_ix ix_str (pv 4) (pe_op op_add (pe_ix ix_list (pv 3) pe_int (fun _ _ => rfl)) pe_int) (fun _ _ => rfl)) (pe_ix ix_str (pv 4) (pe_op op_add (pe_ix ix_list (pv 3) pe_int (fun _ _ => rfl)) pe_int) (fun _ _ => rfl))) (pe_ix ix_str (pv 4) (pe_op op_add (pe_ix ix_list (pv 3) pe_int (fun _ _ => rfl)) pe_int) (fun _ _ => rfl))))
      (pss_one (ps_ret (pe_tup (pa_cons (pv 1) (pa_cons (pe_op op_add_str (pe_op op_add_str (pe_slice sl_str (pv 1) po_none (po_some (pv 2))) (pv 5)) (pe_slice sl_str (pv 1) (po_some (pe_op op_add (pv 2) pe_int)) po_none)) pa_nil)))))))))), ?_⟩
    have wl := word_len hl
    have wa := word_all hl
    refine ⟨_, rfl, _, rfl, _, rfl, sz (by rw [S_len]; omega), _, _, rfl, rfl, p, c, _, rfl, dk, by rw [S_len]; omega, by rw [S_len]; omega, fun r H1 hr1 g => ?_⟩
    rw [S_len] at hr1
    obtain ⟨AA, x, y, z, BB, rfl, hA⟩ : ∃ AA x y z BB, l = AA ++ ([x, y, z] ++ BB) ∧ AA.length = r := by
      refine ⟨l.take r, l[r]'(by omega), l[r + 1]'(by omega), l[r + 2]'(by omega), l.drop (r + 3), ?_, by rw [List.length_take]; omega⟩
      have e1 : l.drop r = l[r]'(by omega) :: l.drop (r + 1) := List.drop_eq_getElem_cons (by omega)
      have e2 : l.drop (r + 1) = l[r + 1]'(by omega) :: l.drop (r + 2) := List.drop_eq_getElem_cons (by omega)
      have e3 : l.drop (r + 2) = l[r + 2]'(by omega) :: l.drop (r + 3) := List.drop_eq_getElem_cons (by omega)
      show _ = l.take r ++ (l[r] :: l[r + 1] :: l[r + 2] :: l.drop (r + 3))
      rw [← e3, ← e2, ← e1, List.take_append_drop]
    have hlen : AA.length + (3 + BB.length) ≤ 10 := by have := wl.2; simp at this; omega
    simp only [List.all_append, List.all_cons, List.all_nil, Bool.and_eq_true, Bool.and_true] at wa
    obtain ⟨aA, ⟨ax, ay, az⟩, aB⟩ := wa
    refine ⟨_, rfl, _, rfl, _, rfl, _, rfl, _, _, rfl, rfl, _, rfl, _, rfl, sz (by rw [S_len]; omega), ?_⟩
    rw [cut_mid hA rfl]
    refine ⟨_, rfl, fun D hD => ?_⟩
    have nD := g.2.ne hD
    refine lc_sel (walk_str (z := S [x, y, z])) (fun _ => true) (fun i => .int ((([x, y, z][i]?.getD 0 : Nat) : Int) - 97)) (by show 3 ≤ 16000000; decide) hD (fun _ _ => trivial) ?_ ?_
    · rintro j yy H3 H4 k k0 hi s3 ⟨rfl, ch, hch, rfl⟩ hk _
      have hk := hk rfl _ (Same.refl _)
      rw [← Array.getElem?_toList] at hch
      have hch : [x, y, z][j]? = some ch := hch
      rw [hch] at hk
      exact ⟨rfl, _, rfl, _, rfl, rfl, _, _, rfl, rfl, hk⟩
    · intro H3 s3 h3
      have g3 := g.trans (Gx.same g.2 s3)
      have h3 : H3 D = some (.lst [.int ((x : Int) - 97), .int ((y : Int) - 97), .int ((z : Int) - 97)]) := by
        rw [filt_all] at h3
        exact h3
      refine ⟨fun σ H' => ∃ (a b d : Nat) (D' : Addr) (x4 x5 x6 : Option V), σ = [some (.ref p), some (.str (S (AA ++ ([a, b, d] ++ BB)))), some (.int r), some (.ref D'), x4, x5, x6] ∧ Gx p c H H' ∧ H' D' = some (.lst [.int ((a : Int) - 97), .int ((b : Int) - 97), .int ((d : Int) - 97)]) ∧ azC a = true ∧ azC b = true ∧ azC d = true ∧ a ≤ 121 ∧ b ≤ 112 ∧ d ≤ 112, ?_, ?_⟩
      · refine ⟨_, rfl, D, _, _, _, rfl, rfl, SqL.of h3, atI_nat (j := 0) rfl, _, _, rfl, rfl, _, rfl, ite2 (fun _ => ?bad1) (fun k1 => ⟨_, rfl, D, _, _, _, rfl, rfl, SqL.of h3, atI_nat (j := 1) rfl, _, _, rfl, rfl, _, rfl, ite2 (fun _ => ?bad2) (fun k2 => ⟨_, rfl, D, _, _, _, rfl, rfl, SqL.of h3, atI_nat (j := 2) rfl, _, _, rfl, rfl, _, rfl, ite2 (fun _ => ?bad3) (fun k3 => ?good)⟩)⟩)⟩
        case good =>
          rw [decide_eq_true_eq] at k1 k2 k3
          exact ⟨x, y, z, D, _, _, _, rfl, g3, h3, ax, ay, az, by omega, by omega, by omega⟩
        all_goals
          refine ⟨sz (by show 3 ≤ 16000000; decide), fun D2 hD2 => ?_⟩
          have g4 := g3.trans (Gx.new (o := .lst [.int 0, .int 3, .int 5]) g3.2 hD2)
          refine ⟨_, rfl, _, rfl, _, rfl, _, rfl, sz (by rw [S_len]; simp; omega), ?_⟩
          rw [cut_pre hA]
          refine ⟨_, _, rfl, rfl, sz (by rw [S_len]; show _ + 3 ≤ _; omega), ?_⟩
          rw [show S AA ++ Str.ofString "adf" = S (AA ++ [97, 100, 102]) from S_cat AA [97, 100, 102]]
          refine ⟨_, rfl, _, rfl, _, _, rfl, rfl, _, rfl, _, rfl, sz (by rw [S_len]; simp; omega), ?_⟩
          rw [cut_post hA rfl]
          refine ⟨_, _, rfl, rfl, sz (by rw [S_len, S_len]; simp; omega), ?_⟩
          rw [S_cat, List.append_assoc]
          exact ⟨97, 100, 102, D2, _, _, _, rfl, g4, upd_same, rfl, rfl, rfl, by decide, by decide, by decide⟩
      · rintro σ H4 ⟨a, b, d, D', x4, x5, x6, rfl, g4, hD', aa, ab, ad, a1, b1, d1⟩
        rw [az_of] at aa ab ad
        have ixa : atI (S ((List.range 26).map (· + 97))).cps.toList (((a : Int) - 97) + 1) = some (a + 1) := by
          rw [show ((a : Int) - 97) + 1 = ((a - 96 : Nat) : Int) by omega, atI_nat (lettersS_at (k := a - 96) (by omega))]
          congr 1
          omega
        have ixb : ∀ b : Nat, 97 ≤ b → b ≤ 112 → atI (S ((List.range 26).map (· + 97))).cps.toList (((b : Int) - 97) + 10) = some (b + 10) := by
          intro b h1 h2
          rw [show ((b : Int) - 97) + 10 = ((b - 87 : Nat) : Int) by omega, atI_nat (lettersS_at (k := b - 87) (by omega))]
          congr 1
          omega
        rw [azzS]
        refine ⟨_, rfl, _, rfl, D', _, _, _, rfl, rfl, SqL.of hD', atI_nat (j := 0) rfl, _, _, rfl, rfl, _, _, _, rfl, rfl, sz (by decide), ixa, ?_⟩
        refine ⟨_, rfl, _, rfl, D', _, _, _, rfl, rfl, SqL.of hD', atI_nat (j := 1) rfl, _, _, rfl, rfl, _, _, _, rfl, rfl, sz (by decide), ixb b (by omega) b1, ?_⟩
        refine ⟨_, _, rfl, rfl, sz (by show 1 + 1 ≤ 16000000; decide), ?_⟩
        rw [show (⟨#[a + 1]⟩ : Str) ++ ⟨#[b + 10]⟩ = S [a + 1, b + 10] from S_cat [a + 1] [b + 10]]
        refine ⟨_, rfl, _, rfl, D', _, _, _, rfl, rfl, SqL.of hD', atI_nat (j := 2) rfl, _, _, rfl, rfl, _, _, _, rfl, rfl, sz (by decide), ixb d (by omega) d1, ?_⟩
        refine ⟨_, _, rfl, rfl, sz (by show 2 + 1 ≤ 16000000; decide), ?_⟩
        rw [show S [a + 1, b + 10] ++ (⟨#[d + 10]⟩ : Str) = S [a + 1, b + 10, d + 10] from S_cat [a + 1, b + 10] [d + 10]]
        refine ⟨_, rfl, ?_⟩
        refine ⟨_, rfl, _, rfl, _, rfl, _, rfl, sz (by rw [S_len]; simp; omega), ?_⟩
        rw [cut_pre hA]
        refine ⟨_, rfl, _, _, rfl, rfl, sz (by rw [S_len, S_len]; simp; omega), ?_⟩
        rw [S_cat]
        refine ⟨_, rfl, _, rfl, _, _, rfl, rfl, _, rfl, _, rfl, sz (by rw [S_len]; simp; omega), ?_⟩
        rw [cut_post hA rfl]
        refine ⟨_, _, rfl, rfl, sz (by rw [S_len, S_len]; simp; omega), ?_⟩
        rw [S_cat, List.append_assoc]
        refine ⟨sz (by show 2 ≤ 16000000; decide), fun T hT => ?_⟩
        refine q T _ _ _ (g4.free dk hT) (g4.trans (Gx.new g4.2 hT)) upd_same (word_mk (by simp; omega) (by simp; omega) ?_) (word_mk (by simp; omega) (by simp; omega) ?_) ?_
        · simp only [List.all_append, List.all_cons, List.all_nil, Bool.and_eq_true, Bool.and_true, az_of]
          exact ⟨aA, ⟨aa, ab, ad⟩, aB⟩
        · simp only [List.all_append, List.all_cons, List.all_nil, Bool.and_eq_true, Bool.and_true, az_of]
          exact ⟨aA, ⟨by omega, by omega, by omega⟩, aB⟩
        · intro z
          have := List.append_cancel_left z
          simp at this
end
end Ag

end
/-! ## T7 -/
section
set_option linter.all false
set_option maxRecDepth 100000
namespace Ag
open PySem PySem.Spec PyProof.Rows L2
open SX (S S_len S_cat S_inj)
theorem tup_gx {p c a : Addr} {H H' : Hp} {xs : List V} (d : Dk p c H) (g : Gx p c H H') (h : H a = some (.tup xs)) : H' a = some (.tup xs) := by
  obtain ⟨m, t, cs, h1, h2, _⟩ := d
  exact g.1 a _ (ne_of h h1 (by intro z; cases z)) (ne_of h h2 (by intro z; cases z)) h
theorem PlI.gx {p c : Addr} {H H' : Hp} {ts : List Addr} {ps : List (List Nat × Nat)} (h : PlI H ts ps) (d : Dk p c H) (g : Gx p c H H') : PlI H' ts ps := ⟨h.1, fun j t e => by
  obtain ⟨x, h1, h2⟩ := h.2 j t e
  exact ⟨x, h1, tup_gx d g h2⟩⟩
theorem Pool.gx {p c a : Addr} {H H' : Hp} {ts : List Addr} {ps : List (List Nat × Nat)} (h : Pool a ts ps H) (d : Dk p c H) (g : Gx p c H H') : Pool a ts ps H' := ⟨tup_gx d g h.at_, h.it.gx d g, h.ok⟩
theorem pick_list {α β : Type} : ∀ (xs : List α) (R : Nat → α → β → Prop), (∀ j y, xs[j]? = some y → ∃ b, R j y b) → ∃ bs : List β, bs.length = xs.length ∧ ∀ j y b, xs[j]? = some y → bs[j]? = some b → R j y b
  | [], _, _ => ⟨[], rfl, fun j y b h => by simp at h⟩
  | x :: xs, R, h => by
    obtain ⟨b, hb⟩ := h 0 x rfl
    obtain ⟨bs, h1, h2⟩ := pick_list xs (fun j y b => R (j + 1) y b) fun j y hy => h (j + 1) y (by simpa using hy)
    refine ⟨b :: bs, by simp [h1], fun j y b' hy hb' => ?_⟩
    cases j with
    | zero =>
      simp at hy hb'
      subst hy hb'
      exact hb
    | succ j => exact h2 j y b' (by simpa using hy) (by simpa using hb')
theorem cut_tail (h : List Nat) (t : List (List Nat)) : cutV (wV (h :: t)) (some 1) none = wV t := by
  unfold cutV
  rw [HT.sIx_none, show (1 : Int) = ((1 : Nat) : Int) from rfl, HT.sIx_nat]
  show ((wV (h :: t)).drop (min 1 (wV (h :: t)).length)).take ((wV (h :: t)).length - min 1 (wV (h :: t)).length) = wV t
  rw [show min 1 (wV (h :: t)).length = 1 by simp [wV]]
  show (wV t).take _ = _
  rw [List.take_of_length_le (by simp [wV])]
theorem cut_inner (h l : List Nat) (t : List (List Nat)) : cutV (wV (h :: (t ++ [l]))) (some 1) (some (-1)) = wV t := by
  unfold cutV
  rw [show (1 : Int) = ((1 : Nat) : Int) from rfl, HT.sIx_nat]
  have e : HT.sIx (wV (h :: (t ++ [l]))).length (wV (h :: (t ++ [l]))).length (some (-((1 : Nat) : Int))) = t.length + 1 := by
    show (if (-((1 : Nat) : Int)) < 0 then ((-((1 : Nat) : Int)) + ((wV (h :: (t ++ [l]))).length : Int)).toNat else min (-((1 : Nat) : Int)).toNat (wV (h :: (t ++ [l]))).length) = _
    rw [if_pos (by omega)]
    simp [wV]
    omega
  rw [e, show min 1 (wV (h :: (t ++ [l]))).length = 1 by simp [wV]]
  show (wV (t ++ [l])).take (t.length + 1 - 1) = wV t
  rw [Nat.add_sub_cancel]
  simp [wV]
/-- labels are drawn -/
def LbI (H : Hp) (p c : Addr) (many : Nat) (σ : L2.St) (H' : Hp) : Prop := ∃ (L : Addr) (ls : List (List Nat)) (x3 x4 x5 : Option V), σ = [some (.ref p), some (.int (many : Nat)), some (.ref L), x3, x4, x5] ∧
  Gx p c H H' ∧ At p c H' L (.lst (wV ls)) ∧ ls.length = many ∧ ls.Nodup ∧ ∀ l ∈ ls, wordL l = true
section
variable {P : Program} {w : World} {K : PySem.W.Frag} {mg : Str → Option Value} {base : Heap}
def spMkPool : Sp := fun vs H Q _ => ∃ p c, vs = [.ref p] ∧ Dk p c H ∧ ∀ a ts ps H', Gx p c H H' → Pool a ts ps H' → Q (.ref a) H'
set_option maxHeartbeats 2000000 in
theorem ok_mkpool {f f1 f2 f3 f4 : Addr} {fd fd1 fd2 fd3 fd4 : FuncData} (F : Fn K mg "_law_drawn_pool" s__law_drawn_pool ["_law_deck_here"] f fd) (B : Blt mg) (F__law_pick : Fn K mg "_law_pick" s__law_pick ["_law_deck_here", "_law_some"] f1 fd1) (G__law_pick : FnOk P w K mg base CX0 2 f1 fd1 ["_law_deck_here", "_law_some"] spPick)
    (F__law_draw : Fn K mg "_law_draw" s__law_draw ["_law_deck_here", "_law_many"] f2 fd2) (G__law_draw : FnOk P w K mg base CX0 1 f2 fd2 ["_law_deck_here", "_law_many"] spDraw) (F__law_words : Fn K mg "_law_words" s__law_words ["_law_deck_here", "_law_many"] f3 fd3) (G__law_words : FnOk P w K mg base CX0 4 f3 fd3 ["_law_deck_here", "_law_many"] spMkWords)
    (F__law_twin_label : Fn K mg "_law_twin_label" s__law_twin_label ["_law_deck_here", "_law_label"] f4 fd4) (G__law_twin_label : FnOk P w K mg base CX0 2 f4 fd4 ["_law_deck_here", "_law_label"] spTwin) : FnOk P w K mg base CX0 5 f fd ["_law_deck_here"] spMkPool := by
  refine F.F.ok sc__law_drawn_pool (fun vs H Q E h => ?_) (fun cdv A outer s H vs Q E hr h => ?_)
  · obtain ⟨p, c, rfl, _⟩ := h
    rfl
  · obtain ⟨p, c, rfl, dk, q⟩ := h
    refine ⟨_, (pss_cons (ps_set (i := 1) sc__law_drawn_pool.nd rfl (.inl rfl) (pe_call G__law_pick (hr.mono (by decide)) (by rfl) F__law_pick.g F__law_pick.F.kp F__law_pick.b .nil pass0 (pa_cons (pv 0) (pa_cons (pe_lst (pa_cons pe_int (pa_cons pe_int (pa_cons pe_int (pa_cons pe_int (pa_cons pe_int (pa_cons pe_int pa_nil))))))) pa_nil))))
      (pss_cons (ps_set (i := 2) sc__law_drawn_pool.nd rfl (.inl rfl) (pe_call G__law_words (hr.mono (by decide)) (by rfl) F__law_words.g F__law_words.F.kp F__law_words.b .nil pass0 (pa_cons (pv 0) (pa_cons (pv 1) pa_nil))))
      (C8.pss_cut (ps_if (PW.pt (pw_and (pt_cmpR op_gt (pv 1) pe_int (nomark _)) (pw_and (pt_cmpR op_gt (pe_callB call_len (by rfl) B.n_len PySem.boot_len (pa_cons (pe_ix ix_list (pv 2) pe_int (fun _ _ => rfl)) pa_nil)) pe_int (nomark _)) (pw_and1 (pt_cmpR op_eq (pe_call G__law_draw (hr.mono (by decide)) (by rfl) F__law_draw.g F__law_draw.F.kp F__law_draw.b .nil pass0 (pa_cons (pv 0) (pa_cons pe_int pa_nil))) pe_int (nomark _))))))
      (pss_cons (ps_set (i := 3) sc__law_drawn_pool.nd rfl (.inl rfl) (pe_call G__law_twin_label (hr.mono (by decide)) (by rfl) F__law_twin_label.g F__law_twin_label.F.kp F__law_twin_label.b .nil pass0 (pa_cons (pv 0) (pa_cons (pe_ix ix_list (pv 2) pe_int (fun _ _ => rfl)) pa_nil))))
        (pss_one (ps_if (PW.pt (pw_and (pt_cmpR op_notIn_seq (pe_ix ix_tup (pv 3) pe_int (fun _ _ => rfl)) (pe_slice sl_list (pv 2) (po_some pe_int) po_none) rfl) (pw_and1 (pt_cmpR op_notIn_seq (pe_ix ix_tup (pv 3) pe_int (fun _ _ => rfl)) (pe_slice sl_list (pv 2) (po_some pe_int) po_none) rfl))))
        (pss_one (ps_set (i := 2) sc__law_drawn_pool.nd rfl (.inl rfl) (pe_op op_cat (pe_op op_cat (pe_lst (pa_cons (pe_ix ix_tup (pv 3) pe_int (fun _ _ => rfl)) pa_nil)) (pe_slice sl_list (pv 2) (po_some pe_int) (po_some (pe_un un_neg pe_int)))) (pe_lst (pa_cons (pe_ix ix_tup (pv 3) pe_int (fun _ _ => rfl)) pa_nil)))))
        pss_nil)))
      pss_nil)
      (C8.pss_cut (ps_if (pt_cmpR op_eq (pe_call G__law_draw (hr.mono (by decide)) (by rfl) F__law_draw.g F__law_draw.F.kp F__law_draw.b .nil pass0 (pa_cons (pv 0) (pa_cons pe_int pa_nil))) pe_int (nomark _))
      (pss_one (ps_set (i := 2) sc__law_drawn_pool.nd rfl (.inl rfl) (pe_revL (pv 2))))
      pss_nil)
      (pss_cons (ps_set (i := 4) sc__law_drawn_pool.nd rfl (.inr rfl) (pe_call G__law_pick (hr.mono (by decide)) (by rfl) F__law_pick.g F__law_pick.F.kp F__law_pick.b .nil pass0 (pa_cons (pv 0) (pa_cons (pe_lst (pa_cons pe_int (pa_cons pe_int (pa_cons pe_int pa_nil)))) pa_nil))))
      (pss_one (ps_ret (pe_callTy call_tuple_of (by rfl) B.n_tuple (by decide +kernel) (pa_cons (pe_lc (own := [("_law_label", 5)]) rfl sc__law_drawn_pool.nd (pi_list (pv 2)) (blkOk_by (N := N__law_drawn_pool) (sc := defScope s__law_drawn_pool) (by decide +kernel)) (fun _ _ _ _ _ => (pg_name (i := 5) sc__law_drawn_pool.nd rfl (Or.inl rfl))) (fun _ _ _ _ _ => pts_nil) (fun _ _ _ _ _ => (pe_tup (pa_cons (pv 5) (pa_cons (pe_op op_add pe_int (pe_call G__law_draw (hr.mono (by decide)) (by rfl) F__law_draw.g F__law_draw.F.kp F__law_draw.b .nil pass0 (pa_cons (pv 0) (pa_cons (pv 4) pa_nil)))) pa_nil))))) pa_nil))))))))), ?_⟩
    refine ⟨_, rfl, sz (by show 6 ≤ 16000000; decide), fun a ha => ?_⟩
    have g1 := Gx.new (o := .lst [.int 3, .int 2, .int 1, .int 4, .int 8, .int 5]) dk ha
    have a1 := At.new (o := .lst [.int 3, .int 2, .int 1, .int 4, .int 8, .int 5]) dk ha
    refine ⟨p, c, .ref a, rfl, g1.2, .inl ⟨a, _, rfl, a1, (by show 1 ≤ 6; decide), (by show 6 ≤ 100000; decide), fun r x H2 hx g2 => ?_⟩⟩
    have g2 := g1.trans g2
    obtain ⟨many, m1, m8, rfl⟩ : ∃ m : Nat, 1 ≤ m ∧ m ≤ 8 ∧ x = .int (m : Int) := by
      have mem := List.mem_of_getElem? hx
      simp only [List.mem_cons, List.not_mem_nil, or_false] at mem
      rcases mem with rfl | rfl | rfl | rfl | rfl | rfl
      · exact ⟨3, by decide, by decide, rfl⟩
      · exact ⟨2, by decide, by decide, rfl⟩
      · exact ⟨1, by decide, by decide, rfl⟩
      · exact ⟨4, by decide, by decide, rfl⟩
      · exact ⟨8, by decide, by decide, rfl⟩
      · exact ⟨5, by decide, by decide, rfl⟩
    clear hx a1 g1
    refine ⟨_, rfl, _, rfl, p, c, many, rfl, g2.2, m8, fun L ls H3 hL g3 atL hlen nd hw => ?_⟩
    have g3 := g2.trans g3
    clear g2
    refine ⟨LbI H p c many, ?_, ?_⟩
    · have keep : ∀ (x3 : Option V) (H' : Hp), Gx p c H H' → At p c H' L (.lst (wV ls)) → LbI H p c many [some (.ref p), some (.int (many : Nat)), some (.ref L), x3, none, none] H' := fun x3 H' g a => ⟨L, ls, _, _, _, rfl, g, a, hlen, nd, hw⟩
      refine ⟨_, rfl, _, _, rfl, rfl, _, rfl, ite2 (fun h => ?_) (fun _ => keep _ _ g3 atL)⟩
      have h := of_decide_eq_true h
      obtain ⟨l0, tl, rfl⟩ : ∃ x l, ls = x :: l := by
        cases ls with
        | nil => simp at hlen; omega
        | cons x l => exact ⟨x, l, rfl⟩
      have hw0 := hw l0 List.mem_cons_self
      have wl0 := word_len hw0
      refine ⟨_, rfl, L, _, _, _, rfl, rfl, SqL.of atL.2.2, atI_nat (j := 0) rfl, .str (S l0), l0.length, rfl, ⟨sz (by rw [S_len]; omega), by rw [S_len]⟩, _, _, rfl, rfl, _, rfl, ite2 (fun h2 => ?_) (fun _ => keep _ _ g3 atL)⟩
      have h2 := of_decide_eq_true h2
      refine ⟨_, rfl, p, c, 2, rfl, g3.2, by decide, by decide, fun r2 H4 hr4 g4 => ⟨rfl, _, rfl, ite2 (fun _ => ?_) (fun _ => keep _ _ (g3.trans g4) (atL.gx g4))⟩⟩
      have atL := atL.gx g4
      have g4 := g3.trans g4
      clear g3
      refine ⟨_, rfl, _, rfl, L, _, _, _, rfl, rfl, SqL.of atL.2.2, atI_nat (j := 0) rfl, p, c, l0, rfl, g4.2, hw0, by omega, fun T l1 l2 H5 hT g5 hT5 w1 w2 hne => ?_⟩
      have atL := atL.gx g5
      have g5 := g4.trans g5
      clear g4
      have nTp : T ≠ p ∧ T ≠ c := ⟨ne_of hT5 g5.2.choose_spec.choose_spec.choose_spec.1 (by intro z; cases z), ne_of hT5 g5.2.choose_spec.choose_spec.choose_spec.2.1 (by intro z; cases z)⟩
      refine ⟨_, rfl, T, _, _, _, rfl, rfl, SqT.of hT5, atI_nat (j := 0) rfl, _, rfl, 1, rfl, L, _, rfl, SqL.of atL.2.2, fun Z hZ => ?_⟩
      rw [cut_tail]
      have at6 := atL.gx (Gx.new (o := .lst (wV tl)) g5.2 hZ)
      have g6 := g5.trans (Gx.new (o := .lst (wV tl)) g5.2 hZ)
      have hT6 := tup_gx g5.2 (Gx.new (o := .lst (wV tl)) g5.2 hZ) hT5
      refine ⟨Z, wV tl, rfl, .inl (SqL.of upd_same), rfl, flat_w tl, _, rfl, ?_⟩
      rw [if_pos rfl, in_w]
      clear g5 atL hT5
      generalize upd H5 Z (.lst (wV tl)) = H6 at at6 g6 hT6 ⊢
      by_cases hm1 : l1 ∈ tl
      · rw [decide_eq_true hm1]
        exact iteF (keep _ _ g6 at6)
      rw [decide_eq_false hm1]
      refine iteT ⟨_, rfl, T, _, _, _, rfl, rfl, SqT.of hT6, atI_nat (j := 1) rfl, _, rfl, 1, rfl, L, _, rfl, SqL.of at6.2.2, fun Z2 hZ2 => ?_⟩
      rw [cut_tail]
      have at7 := at6.gx (Gx.new (o := .lst (wV tl)) g6.2 hZ2)
      have g7 := g6.trans (Gx.new (o := .lst (wV tl)) g6.2 hZ2)
      have hT7 := tup_gx g6.2 (Gx.new (o := .lst (wV tl)) g6.2 hZ2) hT6
      refine ⟨Z2, wV tl, rfl, .inl (SqL.of upd_same), rfl, flat_w tl, _, rfl, ?_⟩
      rw [if_pos rfl, in_w]
      clear g6 at6 hT6
      generalize upd H6 Z2 (.lst (wV tl)) = H7 at at7 g7 hT7 ⊢
      by_cases hm2 : l2 ∈ tl
      · rw [decide_eq_true hm2]
        exact iteF (keep _ _ g7 at7)
      rw [decide_eq_false hm2]
      refine iteT ?_
      obtain ⟨mid, last, rfl⟩ : ∃ mid last, tl = mid ++ [last] := by
        rcases List.eq_nil_or_concat tl with rfl | ⟨m, x, rfl⟩
        · simp at hlen
          omega
        · exact ⟨m, x, List.concat_eq_append⟩
      refine ⟨_, rfl, T, _, _, _, rfl, rfl, SqT.of hT7, atI_nat (j := 0) rfl, sz (by show 1 ≤ 16000000; decide), fun A1 hA1 => ?_⟩
      have at8 := at7.gx (Gx.new (o := .lst [.str (S l1)]) g7.2 hA1)
      have g8 := g7.trans (Gx.new (o := .lst [.str (S l1)]) g7.2 hA1)
      have hT8 := tup_gx g7.2 (Gx.new (o := .lst [.str (S l1)]) g7.2 hA1) hT7
      have hA8 : upd H7 A1 (.lst [.str (S l1)]) A1 = some (.lst [.str (S l1)]) := upd_same
      clear at7 g7 hT7
      generalize upd H7 A1 (.lst [.str (S l1)]) = H8 at at8 g8 hT8 hA8 ⊢
      refine ⟨_, rfl, 1, rfl, 1, rfl, _, rfl, L, _, rfl, SqL.of at8.2.2, fun S1 hS1 => ?_⟩
      rw [cut_inner]
      have s9 : Same H8 (upd H8 S1 (.lst (wV mid))) := same_new hS1
      have at9 := at8.gx (Gx.new (o := .lst (wV mid)) g8.2 hS1)
      have g9 := g8.trans (Gx.new (o := .lst (wV mid)) g8.2 hS1)
      have hT9 := s9 _ _ hT8
      have hA9 := s9 _ _ hA8
      have hS9 : upd H8 S1 (.lst (wV mid)) S1 = some (.lst (wV mid)) := upd_same
      clear at8 g8 hT8 hA8
      generalize upd H8 S1 (.lst (wV mid)) = H9 at s9 at9 g9 hT9 hA9 hS9 ⊢
      have lm : mid.length ≤ 8 := by simp at hlen; omega
      refine ⟨A1, S1, _, _, rfl, rfl, hA9, hS9, sz (by simp [wV]; omega), fun C1 hC1 => ?_⟩
      have sA : Same H9 (upd H9 C1 (.lst ([.str (S l1)] ++ wV mid))) := same_new hC1
      have gA := g9.trans (Gx.new (o := .lst ([.str (S l1)] ++ wV mid)) g9.2 hC1)
      have hTA := sA _ _ hT9
      have hCA : upd H9 C1 (.lst ([.str (S l1)] ++ wV mid)) C1 = some (.lst ([.str (S l1)] ++ wV mid)) := upd_same
      clear at9 g9 hT9 hA9 hS9
      generalize upd H9 C1 (.lst ([.str (S l1)] ++ wV mid)) = HA at sA gA hTA hCA ⊢
      refine ⟨_, rfl, T, _, _, _, rfl, rfl, SqT.of hTA, atI_nat (j := 1) rfl, sz (by show 1 ≤ 16000000; decide), fun B1 hB1 => ?_⟩
      have sB : Same HA (upd HA B1 (.lst [.str (S l2)])) := same_new hB1
      have gB := gA.trans (Gx.new (o := .lst [.str (S l2)]) gA.2 hB1)
      have hCB := sB _ _ hCA
      have hBB : upd HA B1 (.lst [.str (S l2)]) B1 = some (.lst [.str (S l2)]) := upd_same
      clear gA hTA hCA
      generalize upd HA B1 (.lst [.str (S l2)]) = HB at sB gB hCB hBB ⊢
      refine ⟨C1, B1, _, _, rfl, rfl, hCB, hBB, sz (by simp [wV]; omega), fun R hR => ?_⟩
      have eR : ([V.str (S l1)] ++ wV mid) ++ [V.str (S l2)] = wV (l1 :: (mid ++ [l2])) := by simp [wV]
      rw [eR]
      refine ⟨R, l1 :: (mid ++ [l2]), _, _, _, rfl, gB.trans (Gx.new gB.2 hR), At.new gB.2 hR, by simp at hlen ⊢; omega, ?_, fun x hx => ?_⟩
      · have ndm : mid.Nodup := (List.nodup_append.mp (List.nodup_cons.mp nd).2).1
        simp only [List.mem_append, List.mem_singleton, not_or] at hm1 hm2
        refine List.nodup_cons.mpr ⟨?_, List.nodup_append.mpr ⟨ndm, by simp, fun a ha b hb => ?_⟩⟩
        · simp only [List.mem_append, List.mem_singleton, not_or]
          exact ⟨hm1.1, hne⟩
        · rw [List.mem_singleton.mp hb]
          exact fun z => hm2.1 (z ▸ ha)
      · rcases List.mem_cons.mp hx with rfl | hx
        · exact w1
        · rcases List.mem_append.mp hx with hx | hx
          · exact hw x (List.mem_cons_of_mem _ (List.mem_append_left _ hx))
          · rw [List.mem_singleton.mp hx]
            exact w2
    · rintro σ H5 ⟨L5, ls5, x3, x4, x5, rfl, g5, at5, len5, nd5, hw5⟩
      clear hlen nd hw atL g3 hL
      refine ⟨LbI H p c many, ?_, ?_⟩
      · refine ⟨_, rfl, p, c, 2, rfl, g5.2, by decide, by decide, fun r2 H6 hr6 g6 => ⟨rfl, _, rfl, ite2 (fun _ => ?_) (fun _ => ⟨L5, ls5, _, _, _, rfl, g5.trans g6, at5.gx g6, len5, nd5, hw5⟩)⟩⟩
        refine ⟨_, rfl, L5, _, rfl, SqL.of (at5.gx g6).2.2, fun R hR => ?_⟩
        have g6 := g5.trans g6
        have er : (wV ls5).reverse = wV ls5.reverse := by simp [wV]
        rw [er]
        exact ⟨R, ls5.reverse, _, _, _, rfl, g6.trans (Gx.new g6.2 hR), At.new g6.2 hR, by simp [len5], (List.reverse_perm ls5).nodup_iff.mpr nd5, fun l hl => hw5 l (List.mem_reverse.mp hl)⟩
      · rintro σ H6 ⟨L, ls, x3, x4, x5, rfl, g6, at6, hlen, nd, hw⟩
        clear g5 at5 len5 nd5 hw5
        refine ⟨_, rfl, sz (by show 3 ≤ 16000000; decide), fun a2 ha2 => ?_⟩
        have g7 := g6.trans (Gx.new (o := .lst [.int 3, .int 100, .int 8]) g6.2 ha2)
        have at7 := at6.gx (Gx.new (o := .lst [.int 3, .int 100, .int 8]) g6.2 ha2)
        refine ⟨p, c, .ref a2, rfl, g7.2, .inl ⟨a2, _, rfl, At.new g6.2 ha2, (by show 1 ≤ 3; decide), (by show 3 ≤ 100000; decide), fun r x H8 hx g8 => ?_⟩⟩
        obtain ⟨most, k1, k100, rfl⟩ : ∃ m : Nat, 1 ≤ m ∧ m ≤ 100 ∧ x = .int (m : Int) := by
          have mem := List.mem_of_getElem? hx
          simp only [List.mem_cons, List.not_mem_nil, or_false] at mem
          rcases mem with rfl | rfl | rfl
          · exact ⟨3, by decide, by decide, rfl⟩
          · exact ⟨100, by decide, by decide, rfl⟩
          · exact ⟨8, by decide, by decide, rfl⟩
        clear hx
        have at8 := at7.gx g8
        have g8 := g7.trans g8
        clear g7 at7 g6 at6
        refine ⟨_, rfl, L, rfl, ⟨_, SqL.of at8.2.2⟩, fun D hD => ?_⟩
        have nD := g8.2.ne hD
        have lsl : ls.length ≤ 8 := by omega
        refine lc_allH (walk_list (K := K) (a := L) (xs := wV ls)) (fun H' => Gx p c H8 H') (fun H' j y => ∃ (T : Addr) (e : List Nat × Nat), y = .ref T ∧ T ≠ D ∧ T ≠ p ∧ T ≠ c ∧ ls[j]? = some e.1 ∧ H' T = some (.tup [.str (S e.1), .int (e.2 : Nat)]) ∧ 1 ≤ e.2 ∧ e.2 ≤ 100) (by simp [wV]; omega) (Gx.refl g8.2) (fun H' o g => g.put g8.2 hD nD) ?_ (fun H' g => SqL.of (at8.gx g).2.2) ?_ ?_
        · rintro H' o j y ⟨T, e, rfl, n1, n2, n3, h1, h2, h3⟩
          exact ⟨T, e, rfl, n1, n2, n3, h1, by rw [upd_ne n1]; exact h2, h3⟩
        · rintro j y HA HB xs k hj g hxs ⟨rfl, hy⟩ hk
          obtain ⟨l, hl, rfl⟩ : ∃ l, ls[j]? = some l ∧ y = .str (S l) := by
            have hy : (ls.map fun l => V.str (S l))[j]? = some y := hy
            rw [List.getElem?_map] at hy
            cases e : ls[j]? with
            | none => rw [e] at hy; cases hy
            | some l => rw [e] at hy; exact ⟨l, rfl, (Option.some.inj hy).symm⟩
          refine ⟨rfl, _, rfl, _, rfl, _, rfl, p, c, _, rfl, g.2, by omega, by omega, fun r HC hr gC => ⟨_, _, rfl, rfl, sz (by show 2 ≤ 16000000; decide), fun T hT => ?_⟩⟩
          have gT := Gx.new (o := .tup [.str (S l), .int (1 + (r : Int))]) gC.2 hT
          have nT := gC.2.ne hT
          have hxC := gC.1 _ _ nD.1 nD.2 hxs
          have nTD : D ≠ T := ne_of_none hxC hT
          refine hk _ _ (fun j' z hz => ?_) ⟨T, (l, 1 + r), rfl, nTD.symm, nT.1, nT.2, hl, ?_, by show 1 ≤ 1 + r; omega, by show 1 + r ≤ 100; omega⟩ ((g.trans gC).trans gT) (by rw [upd_ne nTD]; exact hxC)
          · obtain ⟨T', e, rfl, n1, n2, n3, h1, h2, h3⟩ := hz
            exact ⟨T', e, rfl, n1, n2, n3, h1, (gC.trans gT).1 _ _ n2 n3 h2, h3⟩
          · rw [upd_same]
            show some (HO.tup [V.str (S l), V.int (1 + (r : Int))]) = some (HO.tup [V.str (S l), V.int ((1 + r : Nat) : Int)])
            rw [Int.natCast_add]
            rfl
        · intro HE xs hxl hv gE hxs
          have hxl : xs.length = ls.length := by rw [hxl]; simp [wV]
          obtain ⟨bs, b1, b2⟩ := pick_list xs (fun j y (b : Addr × (List Nat × Nat)) => y = .ref b.1 ∧ ls[j]? = some b.2.1 ∧ HE b.1 = some (.tup [.str (S b.2.1), .int (b.2.2 : Nat)]) ∧ 1 ≤ b.2.2 ∧ b.2.2 ≤ 100) (fun j y hy => by
            obtain ⟨T, e, h0, _, _, _, h1, h2, h3, h4⟩ := hv j y hy
            exact ⟨(T, e), h0, h1, h2, h3, h4⟩)
          have get : ∀ (j : Nat) b, bs[j]? = some b → xs[j]? = some (.ref b.1) ∧ ls[j]? = some b.2.1 ∧ HE b.1 = some (.tup [.str (S b.2.1), .int (b.2.2 : Nat)]) ∧ 1 ≤ b.2.2 ∧ b.2.2 ≤ 100 := by
            intro j b hb
            have hj : j < xs.length := by rw [← b1]; exact (List.getElem?_eq_some_iff.mp hb).1
            obtain ⟨h0, h1⟩ := b2 j _ b (List.getElem?_eq_getElem hj) hb
            exact ⟨by rw [List.getElem?_eq_getElem hj, h0], h1⟩
          have exs : xs = (bs.map Prod.fst).map V.ref := by
            refine List.ext_getElem? fun j => ?_
            rw [List.getElem?_map, List.getElem?_map]
            cases e : bs[j]? with
            | none => rw [List.getElem?_eq_none_iff.mpr (by rw [← b1]; exact List.getElem?_eq_none_iff.mp e)]; rfl
            | some b => rw [(get j b e).1]; rfl
          have els : (bs.map Prod.snd).map Prod.fst = ls := by
            refine List.ext_getElem? fun j => ?_
            rw [List.getElem?_map, List.getElem?_map]
            cases e : bs[j]? with
            | none => rw [List.getElem?_eq_none_iff.mpr (by rw [← hxl, ← b1]; exact List.getElem?_eq_none_iff.mp e)]; rfl
            | some b => rw [(get j b e).2.1]; rfl
          refine ⟨D, _, rfl, .inl ⟨SqL.of hxs, fun Z hZ => ?_⟩⟩
          have sZ : Same HE (upd HE Z (.tup xs)) := same_new hZ
          have hZZ : upd HE Z (.tup xs) Z = some (.tup xs) := upd_same
          have gZ := (g8.trans gE).trans (Gx.new (o := .tup xs) gE.2 hZ)
          refine q Z (bs.map Prod.fst) (bs.map Prod.snd) _ gZ ⟨by rw [hZZ, exs], ⟨by simp, fun j t ht => ?_⟩, ⟨by simp; omega, by simp; omega, fun e he => ?_, fun e he => ?_, by rw [els]; exact nd⟩⟩
          · rw [List.getElem?_map] at ht
            cases e : bs[j]? with
            | none => rw [e] at ht; cases ht
            | some b =>
              rw [e] at ht
              obtain rfl := Option.some.inj ht
              exact ⟨b.2, by rw [List.getElem?_map, e]; rfl, sZ _ _ (get j b e).2.2.1⟩
          · exact hw _ (by rw [← els]; exact List.mem_map_of_mem he)
          · obtain ⟨b, hb, rfl⟩ := List.mem_map.mp he
            obtain ⟨j, hj⟩ := List.getElem?_of_mem hb
            exact (get j b hj).2.2.2
end
end Ag

end
/-! ## T8 -/
section
set_option linter.all false
set_option maxRecDepth 100000
namespace Ag
open PySem PySem.Spec PyProof.Rows L2
open SX (S S_len S_cat S_inj)
theorem nats_of {P : Nat → Prop} : ∀ {xs : List V}, (∀ (i : Nat) y, xs[i]? = some y → ∃ n : Nat, P n ∧ y = .int (n : Int)) → ∃ as : List Nat, xs = ctV as ∧ ∀ n ∈ as, P n
  | [], _ => ⟨[], rfl, fun _ h => by cases h⟩
  | x :: xs, h => by
    obtain ⟨n, hn, rfl⟩ := h 0 x rfl
    obtain ⟨as, rfl, hp⟩ := nats_of (xs := xs) fun i y hy => h (i + 1) y (by simpa using hy)
    refine ⟨n :: as, rfl, fun u hu => ?_⟩
    rcases List.mem_cons.mp hu with rfl | hu
    · exact hn
    · exact hp u hu
theorem Dk.tup_ne {p c a : Addr} {H : Hp} {xs : List V} (d : Dk p c H) (h : H a = some (.tup xs)) : a ≠ p ∧ a ≠ c := by
  obtain ⟨m, t, cs, h1, h2, _⟩ := d
  exact ⟨ne_of h h1 (by intro z; cases z), ne_of h h2 (by intro z; cases z)⟩
theorem ix_lstK {X : Cx} (K : PySem.W.Frag) (hK : X.K = K) : IxR X (rIxL K) := by
  subst hK
  exact ix_list
theorem ctV_snoc (ns : List Nat) (n : Nat) : ctV ns ++ [.int (n : Int)] = ctV (ns ++ [n]) := by simp [ctV]
section
variable {P : Program} {w : World} {K : PySem.W.Frag} {mg : Str → Option Value} {base : Heap}
def spMkLot : Sp := fun vs H Q _ => ∃ (p c : Addr) (many : Nat), vs = [.ref p, .int many] ∧ Dk p c H ∧ 1 ≤ many ∧ many ≤ 8 ∧ ∀ T ns H', Gx p c H H' → H' T = some (.tup (ctV ns)) → Lot many ns → ns ≠ [] → Q (.ref T) H'
set_option maxHeartbeats 1000000 in
theorem ok_mklot {f f2 : Addr} {fd fd2 : FuncData} (F : Fn K mg "_law_drawn_lot" s__law_drawn_lot ["_law_deck_here", "_law_many"] f fd) (B : Blt mg) (F__law_draw : Fn K mg "_law_draw" s__law_draw ["_law_deck_here", "_law_many"] f2 fd2)
    (G__law_draw : FnOk P w K mg base CX0 1 f2 fd2 ["_law_deck_here", "_law_many"] spDraw) : FnOk P w K mg base CX0 2 f fd ["_law_deck_here", "_law_many"] spMkLot := by
  refine F.F.ok sc__law_drawn_lot (fun vs H Q E h => ?_) (fun cdv A outer s H vs Q E hr h => ?_)
  · obtain ⟨p, c, many, rfl, _⟩ := h
    rfl
  · obtain ⟨p, c, many, rfl, dk, m1, m8, q⟩ := h
    refine ⟨_, (pss_cons (ps_setLc (i := 2) (own := [("_law_at", 3)]) rfl sc__law_drawn_lot.nd rfl rfl (sw_true rfl rfl rfl (by decide +kernel)) (pi_range1 (by rfl) B.n_range (pa_cons (pv 1) pa_nil)) (blkOk_by (N := N__law_drawn_lot) (sc := defScope s__law_drawn_lot) (by decide +kernel)) (fun _ _ _ _ _ => (pg_name (i := 3) sc__law_drawn_lot.nd rfl (Or.inl rfl))) (fun _ _ _ _ _ => (pts_one (pt_cmpR op_gt (pe_call G__law_draw (hr.mono (by decide)) (by rfl) F__law_draw.g F__law_draw.F.kp F__law_draw.b .nil pass0 (pa_cons (pv 0) (pa_cons pe_int pa_nil))) pe_int (nomark _)))) (fun _ _ _ _ _ => (pv 3)))
      (pss_one (ps_ret (pe_ifExp (pt_cmpR (op_neD hr.units) (pv 2) (pe_lst pa_nil) (nomark _)) (pe_callTy call_tuple_of (by rfl) B.n_tuple (by decide +kernel) (pa_cons (pv 2) pa_nil)) (pe_tup (pa_cons (pe_call G__law_draw (hr.mono (by decide)) (by rfl) F__law_draw.g F__law_draw.F.kp F__law_draw.b .nil pass0 (pa_cons (pv 0) (pa_cons (pv 1) pa_nil))) pa_nil)))))), ?_⟩
    refine ⟨_, rfl, _, rfl, by omega, by omega, fun D hD => ?_⟩
    have nD := dk.ne hD
    refine lc_it (walk_range (lo := 0) (n := ((many : Nat) : Int).toNat)) (fun i H' => ∃ ns : List Nat, H' D = some (.lst (ctV ns)) ∧ ns.Pairwise (· < ·) ∧ (∀ x ∈ ns, x < i) ∧ ns.length ≤ i ∧ Gx p c H H') ⟨[], upd_same, List.Pairwise.nil, (fun x hx => by cases hx), Nat.le_refl _, Gx.new dk hD⟩ (fun _ _ _ _ => trivial) ?_ ?_
    · rintro i x H3 H4 hi ⟨ns, hns, asc, lt, len, g⟩ ⟨rfl, rfl⟩
      have hi : i < many := by simpa using hi
      refine ⟨rfl, _, rfl, p, c, 3, rfl, g.2, by decide, by decide, fun r H5 hr g5 => ⟨_, _, rfl, rfl, _, rfl, ?_⟩⟩
      have hns := g5.1 _ _ nD.1 nD.2 hns
      have g := g.trans g5
      refine ite2 (fun _ => ?_) (fun _ => ⟨ns, hns, asc, fun x hx => Nat.lt_succ_of_lt (lt x hx), by omega, g⟩)
      refine ⟨_, rfl, ctV ns, hns, by rw [ctV_len, sizeLine_eq]; omega, ns ++ [i], ?_, ?_, fun x hx => ?_, by simp; omega, g.put dk hD nD⟩
      · rw [upd_same, ← ctV_snoc]
        show some (HO.lst (ctV ns ++ [V.int (0 + (i : Int))])) = _
        rw [Int.zero_add]
      · refine List.pairwise_append.mpr ⟨asc, List.pairwise_singleton _ _, fun a ha b hb => ?_⟩
        rw [List.mem_singleton.mp hb]
        exact lt a ha
      · rcases List.mem_append.mp hx with hx | hx
        · exact Nat.lt_succ_of_lt (lt x hx)
        · rw [List.mem_singleton.mp hx]
          exact Nat.lt_succ_self _
    · rintro H3 ⟨ns, hns, asc, lt, len, g⟩
      have hmm : ((many : Nat) : Int).toNat = many := by simp
      rw [hmm] at lt len
      refine ⟨_, rfl, Nat.zero_le _, fun Z hZ => ?_⟩
      have sZ : Same H3 (upd H3 Z (.lst [])) := same_new hZ
      have gZ := g.trans (Gx.new (o := .lst []) g.2 hZ)
      have hZZ : upd H3 Z (.lst []) Z = some (.lst []) := upd_same
      generalize upd H3 Z (.lst []) = H4 at sZ gZ hZZ ⊢
      refine ⟨.list ((iL ns).map .int), .list [], .lst (SqL.of ((sZ _ _ hns).trans (by rw [ctV_int]))) (dpIntsG _), .lst (SqL.of hZZ) .nil, shaped_ints _, shaped_ints [], _, rfl, ?_⟩
      rw [ne_nil_ints]
      refine ite2 (fun h => ?_) (fun h => ?_)
      · have hne : ns ≠ [] := by
          have := of_decide_eq_true h
          rintro rfl
          exact this rfl
        refine ⟨_, rfl, D, _, rfl, .inl ⟨SqL.of (sZ _ _ hns), fun T hT => ?_⟩⟩
        exact q T ns _ (gZ.trans (Gx.new gZ.2 hT)) upd_same ⟨asc, lt, by omega⟩ hne
      · refine ⟨_, rfl, _, rfl, p, c, _, rfl, gZ.2, by omega, by omega, fun r H5 hr g5 => ⟨sz (by show 1 ≤ 16000000; decide), fun T hT => ?_⟩⟩
        refine q T [r] _ ((gZ.trans g5).trans (Gx.new g5.2 hT)) upd_same ⟨List.pairwise_singleton _ _, fun x hx => ?_, by simp⟩ (by simp)
        rw [List.mem_singleton.mp hx]
        omega
def spMkBusy : Sp := fun vs H Q _ => ∃ p c a ts ps, vs = [.ref p, .ref a] ∧ Dk p c H ∧ Pool a ts ps H ∧ ∀ T bs H', Gx p c H H' → H' T = some (.tup (ctV bs)) → bs.length = ps.length → Q (.ref T) H'
set_option maxHeartbeats 1000000 in
theorem ok_mkbusy {f f2 : Addr} {fd fd2 : FuncData} (F : Fn K mg "_law_drawn_busy" s__law_drawn_busy ["_law_deck_here", "_law_pool"] f fd) (B : Blt mg) (F__law_draw : Fn K mg "_law_draw" s__law_draw ["_law_deck_here", "_law_many"] f2 fd2)
    (G__law_draw : FnOk P w K mg base CX0 1 f2 fd2 ["_law_deck_here", "_law_many"] spDraw) : FnOk P w K mg base CX0 2 f fd ["_law_deck_here", "_law_pool"] spMkBusy := by
  refine F.F.ok sc__law_drawn_busy (fun vs H Q E h => ?_) (fun cdv A outer s H vs Q E hr h => ?_)
  · obtain ⟨p, c, a, ts, ps, rfl, _⟩ := h
    rfl
  · obtain ⟨p, c, a, ts, ps, rfl, dk, pl, q⟩ := h
    refine ⟨_, (pss_cons (ps_set (i := 2) sc__law_drawn_busy.nd rfl (.inr rfl) (pe_call G__law_draw (hr.mono (by decide)) (by rfl) F__law_draw.g F__law_draw.F.kp F__law_draw.b .nil pass0 (pa_cons (pv 0) (pa_cons pe_int pa_nil))))
      (pss_cons (ps_if (pt_cmpR op_eq (pv 2) pe_int (nomark _))
      (pss_one (ps_ret (pe_callTy call_tuple_of (by rfl) B.n_tuple (by decide +kernel) (pa_cons (pe_lc (own := [("_law_one", 4)]) rfl sc__law_drawn_busy.nd (pi_tup (pv 1)) (blkOk_by (N := N__law_drawn_busy) (sc := defScope s__law_drawn_busy) (by decide +kernel)) (fun _ _ _ _ _ => (pg_name (i := 4) sc__law_drawn_busy.nd rfl (Or.inl rfl))) (fun _ _ _ _ _ => pts_nil) (fun _ _ _ _ _ => (pe_call G__law_draw (hr.mono (by decide)) (by rfl) F__law_draw.g F__law_draw.F.kp F__law_draw.b .nil pass0 (pa_cons (pv 0) (pa_cons pe_int pa_nil))))) pa_nil))))
      pss_nil)
      (pss_cons (ps_if (pt_cmpR op_eq (pv 2) pe_int (nomark _))
      (pss_cons (ps_set (i := 3) sc__law_drawn_busy.nd rfl (.inr rfl) (pe_op op_add pe_int (pe_call G__law_draw (hr.mono (by decide)) (by rfl) F__law_draw.g F__law_draw.F.kp F__law_draw.b .nil pass0 (pa_cons (pv 0) (pa_cons pe_int pa_nil)))))
        (pss_one (ps_ret (pe_callTy call_tuple_of (by rfl) B.n_tuple (by decide +kernel) (pa_cons (pe_lc (own := [("_law_label", 6), ("_law_weight", 5)]) rfl sc__law_drawn_busy.nd (pi_tup (pv 1)) (blkOk_by (N := N__law_drawn_busy) (sc := defScope s__law_drawn_busy) (by decide +kernel)) (fun _ _ _ _ _ => pg_two (i := 6) (j := 5) K rfl sc__law_drawn_busy.nd rfl rfl rfl rfl rfl) (fun _ _ _ _ _ => pts_nil) (fun _ _ _ _ _ => (pe_op op_sub (pe_op op_mul (pv 5) (pv 3)) pe_int))) pa_nil)))))
      pss_nil)
      (pss_one (ps_ret (pe_callTy call_tuple_of (by rfl) B.n_tuple (by decide +kernel) (pa_cons (pe_lc (own := [("_law_one", 4)]) rfl sc__law_drawn_busy.nd (pi_tup (pv 1)) (blkOk_by (N := N__law_drawn_busy) (sc := defScope s__law_drawn_busy) (by decide +kernel)) (fun _ _ _ _ _ => (pg_name (i := 4) sc__law_drawn_busy.nd rfl (Or.inl rfl))) (fun _ _ _ _ _ => pts_nil) (fun _ _ _ _ _ => (pe_call G__law_draw (hr.mono (by decide)) (by rfl) F__law_draw.g F__law_draw.F.kp F__law_draw.b .nil pass0 (pa_cons (pv 0) (pa_cons (pe_ix (ix_lstK K rfl) (pe_lst (pa_cons pe_int (pa_cons pe_int pa_nil))) (pe_op op_sub (pv 2) pe_int) (fun _ _ => rfl)) pa_nil))))) pa_nil))))))), ?_⟩
    have n8 := pl.ok.n8
    have ln := pl.it.1
    refine ⟨_, rfl, p, c, 4, rfl, dk, by decide, by decide, fun way H1 hway g1 => ?_⟩
    have hway : way < 4 := by omega
    have pl1 := pl.gx dk g1
    have tl : (ts.map V.ref).length = ps.length := by rw [List.length_map, ln]
    refine ⟨_, rfl, rfl, _, rfl, ite2 (fun _ => ?_) (fun w0 => ?_)⟩
    · refine ⟨_, rfl, a, rfl, ⟨_, SqT.of pl1.at_⟩, fun D hD => ?_⟩
      have nD := g1.2.ne hD
      refine lc_all (walk_tup (K := K) (a := a) (xs := ts.map V.ref)) (fun H' => Gx p c H1 H') (fun _ y => ∃ n : Nat, True ∧ y = .int (n : Int)) (by rw [tl]; omega) (Gx.refl g1.2) (fun H' o g => g.put g1.2 hD nD) (fun H' g => SqT.of (pl1.gx g1.2 g).at_) ?_ ?_
      · rintro i x Ha Hb xs k hi g hxs ⟨rfl, hx⟩ hk
        exact ⟨rfl, _, rfl, p, c, _, rfl, g.2, by decide, by decide, fun r H8 hr8 g8 => hk _ _ ⟨r, trivial, rfl⟩ (g.trans g8) (g8.1 D _ nD.1 nD.2 hxs)⟩
      · rintro H' xs hl hv g hxs
        obtain ⟨as, rfl, _⟩ := nats_of hv
        refine ⟨D, _, rfl, .inl ⟨SqL.of hxs, fun T hT => ?_⟩⟩
        exact q T as _ ((g1.trans g).trans (Gx.new g.2 hT)) upd_same (by rw [← ctV_len, hl, tl])
    refine ⟨_, rfl, rfl, _, rfl, ite2 (fun _ => ?_) (fun w1 => ?_)⟩
    · refine ⟨_, rfl, p, c, 5, rfl, g1.2, by decide, by decide, fun tm H2 htm g2 => ⟨_, _, rfl, rfl, ?_⟩⟩
      have pl2 := pl1.gx g1.2 g2
      have g2 := g1.trans g2
      refine ⟨_, rfl, a, rfl, ⟨_, SqT.of pl2.at_⟩, fun D hD => ?_⟩
      refine lc_sel (walk_tup (K := K) (a := a) (xs := ts.map V.ref)) (fun _ => true) (fun i => .int ((wF ps i * (1 + tm) - 1 : Nat) : Int)) (by rw [tl]; omega) hD (fun H' s => SqT.of (s _ _ pl2.at_)) ?_ ?_
      · rintro j y H3 H4 k k0 hi s3 ⟨rfl, hy⟩ hk _
        obtain ⟨t, e, rfl, _, he, ht⟩ := (pl2.it.to s3).get hy
        have hk := hk rfl _ (Same.refl _)
        have hw := pl.ok.wt e (List.mem_of_getElem? he)
        rw [wF_at he] at hk
        have hpos : 1 ≤ e.2 * (1 + tm) := Nat.le_trans hw.1 (Nat.le_mul_of_pos_right _ (by omega))
        have ev : ((e.2 * (1 + tm) - 1 : Nat) : Int) = (e.2 : Nat) * (1 + (tm : Int)) - 1 := by
          rw [Int.natCast_sub hpos, Int.natCast_mul, Int.natCast_add]
          rfl
        rw [ev] at hk
        exact ⟨t, _, rfl, SqT.of ht, rfl, _, _, rfl, _, _, rfl, rfl, rfl, _, rfl, _, rfl, _, _, rfl, rfl, .inl ⟨by omega, by omega⟩, _, _, rfl, rfl, hk⟩
      · intro H3 s3 h3
        have el : (List.range (ts.map V.ref).length).map (fun i => V.int ((wF ps i * (1 + tm) - 1 : Nat) : Int)) = ctV ((List.range ps.length).map fun i => wF ps i * (1 + tm) - 1) := by
          unfold ctV
          rw [tl, List.map_map]
          rfl
        rw [filt_all, el] at h3
        refine ⟨D, _, rfl, .inl ⟨SqL.of h3, fun T hT => ?_⟩⟩
        exact q T _ _ (g2.trans (Gx.same g2.2 (s3.trans (same_new hT)))) upd_same (by simp)
    · refine ⟨_, rfl, a, rfl, ⟨_, SqT.of pl1.at_⟩, fun D hD => ?_⟩
      have nD := g1.2.ne hD
      have hw0 : ¬ way = 0 := fun z => by subst z; exact w0 rfl
      have hw1 : ¬ way = 1 := fun z => by subst z; exact w1 rfl
      obtain ⟨wm, k1, k9, hwm⟩ : ∃ n : Nat, 1 ≤ n ∧ n ≤ 40 ∧ ([.int 4, .int 40] : List V)[way - 2]? = some (.int (n : Int)) := by
        match way, hway, hw0, hw1 with
        | 2, _, _, _ => exact ⟨4, by decide, by decide, rfl⟩
        | 3, _, _, _ => exact ⟨40, by decide, by decide, rfl⟩
      have e2 : (way : Int) - 2 = ((way - 2 : Nat) : Int) := by omega
      refine lc_all (walk_tup (K := K) (a := a) (xs := ts.map V.ref)) (fun H' => Gx p c H1 H') (fun _ y => ∃ n : Nat, True ∧ y = .int (n : Int)) (by rw [tl]; omega) (Gx.refl g1.2) (fun H' o g => g.put g1.2 hD nD) (fun H' g => SqT.of (pl1.gx g1.2 g).at_) ?_ ?_
      · rintro i x Ha Hb xs k hi g hxs ⟨rfl, hx⟩ hk
        refine ⟨rfl, _, rfl, sz (by show 2 ≤ 16000000; decide), fun Z hZ => ⟨_, rfl, _, _, rfl, rfl, ?_⟩⟩
        have gZ := Gx.new (o := .lst [.int 4, .int 40]) g.2 hZ
        have nDZ : D ≠ Z := ne_of_none hxs hZ
        refine ⟨Z, _, _, _, rfl, rfl, SqL.of upd_same, by rw [e2]; exact atI_nat hwm, p, c, _, rfl, gZ.2, by omega, by omega, fun r H8 hr8 g8 => hk _ _ ⟨r, trivial, rfl⟩ ((g.trans gZ).trans g8) (g8.1 D _ nD.1 nD.2 (by rw [upd_ne nDZ]; exact hxs))⟩
      · rintro H' xs hl hv g hxs
        obtain ⟨as, rfl, _⟩ := nats_of hv
        refine ⟨D, _, rfl, .inl ⟨SqL.of hxs, fun T hT => ?_⟩⟩
        exact q T as _ ((g1.trans g).trans (Gx.new g.2 hT)) upd_same (by rw [← ctV_len, hl, tl])
end
end Ag

end
/-! ## T9 -/
section
set_option linter.all false
set_option maxRecDepth 100000
namespace Ag
open PySem PySem.Spec PyProof.Rows L2
open SX (S S_len S_cat S_inj)
theorem flat_ct (cs : List Nat) : (ctV cs).all flatV = true := by
  rw [List.all_eq_true]
  intro y hy
  obtain ⟨z, _, rfl⟩ := List.mem_map.mp hy
  rfl
theorem in_ct (n : Nat) (cs : List Nat) : inV (.int (n : Int)) (ctV cs) = decide (n ∈ cs) := by
  unfold inV
  rw [Bool.eq_iff_iff, List.any_eq_true, decide_eq_true_eq]
  constructor
  · rintro ⟨y, hy, e⟩
    obtain ⟨z, hz, rfl⟩ := List.mem_map.mp hy
    have : ((z : Nat) : Int) = (n : Int) := eq_of_beq e
    have : z = n := by omega
    exact this ▸ hz
  · intro h
    refine ⟨.int (n : Int), List.mem_map_of_mem h, ?_⟩
    show (((n : Nat) : Int) == (n : Int)) = true
    exact beq_self_eq_true _
theorem Lot.le {n : Nat} {ns : List Nat} (h : Lot n ns) : ns.length ≤ n := by
  have := sub_len ns (List.range n) (h.asc.imp fun h => Nat.ne_of_lt h) fun x hx => List.mem_range.mpr (h.lt x hx)
  simpa using this
theorem sorted_more {n j : Nat} {ns : List Nat} {ms : List Int} (h : Lot n ns) (hn : n ≤ 8) (hj : j < n) (hm : j ∉ ns) (pm : ms.Perm (iL ns ++ [(j : Int)])) (st : ms.Pairwise (· ≤ ·)) :
    ∃ zs : List Nat, ms = iL zs ∧ Lot n zs ∧ ∀ y, y ∈ zs ↔ y ∈ ns ∨ y = j := by
  have e : iL ns ++ [(j : Int)] = iL (ns ++ [j]) := by simp [iL]
  rw [e] at pm
  have back : ∀ l : List Nat, (iL l).map Int.toNat = l := fun l => by
    unfold iL
    rw [List.map_map]
    exact (List.map_congr_left (fun x _ => (by simp : (Int.toNat ∘ fun k : Nat => ((k : Nat) : Int)) x = id x))).trans (List.map_id l)
  have nn : ∀ x ∈ ms, 0 ≤ x := fun x hx => by
    obtain ⟨y, _, rfl⟩ := List.mem_map.mp (pm.mem_iff.mp hx)
    omega
  have em : iL (ms.map Int.toNat) = ms := by
    unfold iL
    rw [List.map_map]
    refine List.ext_getElem? fun i => ?_
    rw [List.getElem?_map]
    cases ei : ms[i]? with
    | none => rfl
    | some x =>
      have := nn x (List.mem_of_getElem? ei)
      show some (((x.toNat : Nat) : Int)) = some x
      rw [Int.toNat_of_nonneg this]
  have p2 : (ms.map Int.toNat).Perm (ns ++ [j]) := by
    have := pm.map Int.toNat
    rwa [back] at this
  have nd : (ms.map Int.toNat).Nodup := p2.nodup_iff.mpr (List.nodup_append.mpr ⟨h.asc.imp fun h => Nat.ne_of_lt h, by simp, fun a ha b hb => by rw [List.mem_singleton.mp hb]; exact fun z => hm (z ▸ ha)⟩)
  have mem : ∀ y, y ∈ ms.map Int.toNat ↔ y ∈ ns ∨ y = j := fun y => by rw [p2.mem_iff, List.mem_append, List.mem_singleton]
  have hl := h.le
  refine ⟨ms.map Int.toNat, em.symm, ⟨?_, fun x hx => ?_, ?_⟩, mem⟩
  · rw [List.pairwise_map]
    unfold List.Nodup at nd
    rw [List.pairwise_map] at nd
    refine List.Pairwise.imp₂ (R := (· ≤ ·)) (S := fun a b : Int => a.toNat ≠ b.toNat) (fun a b h1 h2 => ?_) st nd
    have : a.toNat ≤ b.toNat := Int.toNat_le_toNat h1
    omega
  · rcases (mem x).mp hx with h1 | rfl
    · exact h.lt x h1
    · exact hj
  · have := p2.length_eq
    rw [this]
    simp
    omega
theorem filt_at {l : List Nat} (P : Nat → Bool) : ((List.range l.length).filter fun i => P (kF l i)).map (fun i => V.int ((kF l i : Nat) : Int)) = ctV (l.filter P) := by
  have e : l = (List.range l.length).map (kF l) := by
    refine List.ext_getElem? fun i => ?_
    rw [List.getElem?_map]
    by_cases h : i < l.length
    · rw [List.getElem?_range h, List.getElem?_eq_getElem h]
      show _ = some (kF l i)
      rw [kF_at (List.getElem?_eq_getElem h)]
    · rw [List.getElem?_eq_none (by omega), List.getElem?_eq_none (by simpa using h)]
      rfl
  have e2 : l.filter P = ((List.range l.length).filter fun i => P (kF l i)).map (kF l) := by
    conv => lhs; rw [e]
    rw [List.filter_map]
    rfl
  rw [e2]
  unfold ctV
  rw [List.map_map]
  rfl
section
variable {P : Program} {w : World} {K : PySem.W.Frag} {mg : Str → Option Value} {base : Heap}
def spChanges : Sp := fun vs H Q _ => ∃ a ts ps c ns k, ∃ told : Nat, vs = [.ref a, .ref c, .str (S k), .int told] ∧ Pool a ts ps H ∧ H c = some (.tup (ctV ns)) ∧ Lot ps.length ns ∧ ns ≠ [] ∧ wordL k = true ∧ Sc.Bst (fS ps k) ns told ∧ ∀ H', Same H H' → Q (.bl true) H'
set_option maxHeartbeats 2000000 in
theorem ok_changes {f f1 f2 : Addr} {fd fd1 fd2 : FuncData} (F : Fn K mg "_law_are_changes_right" s__law_are_changes_right ["_law_pool", "_law_lot", "_law_key", "_law_told"] f fd) (B : Blt mg) (F_by_key : Fn K mg "by_key" s_by_key ["pool", "lot", "key"] f1 fd1) (G_by_key : FnOk P w K mg base CX0 5 f1 fd1 ["pool", "lot", "key"] spBk)
    (F__law_by_key : Fn K mg "_law_by_key" s__law_by_key ["_law_pool", "_law_lot", "_law_key"] f2 fd2) (G__law_by_key : FnOk P w K mg base CX0 2 f2 fd2 ["_law_pool", "_law_lot", "_law_key"] spLBk) : FnG P w K mg base 6 f fd ["_law_pool", "_law_lot", "_law_key", "_law_told"] spChanges := by
  refine okG F.F sc__law_are_changes_right (fun vs H Q E h => ?_) (fun cdv A outer s H vs Q E hr hG h => ?_)
  · obtain ⟨a, ts, ps, c, ns, k, told, rfl, _⟩ := h
    rfl
  · obtain ⟨a, ts, ps, c, ns, k, told, rfl, p, hc, lo, hne, hk, bst, q⟩ := h
    refine ⟨_, (pss_cons (ps_for PassesOwn.never rfl (pi_range1 (by rfl) B.n_range (pa_cons (pe_callB call_len_seq (by rfl) B.n_len PySem.boot_len (pa_cons (pv 0) pa_nil)) pa_nil)) (pg_name (i := 4) sc__law_are_changes_right.nd rfl (Or.inr rfl))
      (pss_one (ps_if (pt_cmpR op_notIn_seq (pv 4) (pv 1) rfl)
        (pss_cons (ps_set (i := 5) sc__law_are_changes_right.nd rfl (.inl rfl) (pe_callTy call_tuple_of (by rfl) B.n_tuple (by decide +kernel) (pa_cons (pe_callB cr_sortT (by rfl) B.n_sorted (by decide +kernel) (pa_cons (pe_op op_catA (pv 1) (pe_tup (pa_cons (pv 4) pa_nil))) pa_nil)) pa_nil)))
          (pss_cons (ps_set (i := 6) sc__law_are_changes_right.nd rfl (.inl rfl) (pe_call G_by_key (hr.mono (by decide)) (by rfl) F_by_key.g F_by_key.F.kp F_by_key.b .nil pass0 (pa_cons (pv 0) (pa_cons (pv 5) (pa_cons (pv 2) pa_nil)))))
          (pss_one (ps_if (PW.pt (pw_or (pt_cmpR op_notIn_seq (pv 6) (pe_tup (pa_cons (pv 3) (pa_cons (pv 4) pa_nil))) rfl) (pw_or1 (pt_cmpR op_ne (pe_callB (call_repr_data (hu66 hr) hG) (by rfl) B.n_repr (by decide +kernel) (pa_cons (pv 6) pa_nil)) (pe_callB (call_repr_data (hu66 hr) hG) (by rfl) B.n_repr (by decide +kernel) (pa_cons (pe_call G__law_by_key (hr.mono (by decide)) (by rfl) F__law_by_key.g F__law_by_key.F.kp F__law_by_key.b .nil pass0 (pa_cons (pv 0) (pa_cons (pv 5) (pa_cons (pv 2) pa_nil)))) pa_nil)) (nomark _)))))
          (pss_one (ps_ret pe_bl))
          pss_nil))))
        (pss_one (ps_if (pt_cmpR op_gt (pe_callB call_len_seq (by rfl) B.n_len PySem.boot_len (pa_cons (pv 1) pa_nil)) pe_int (nomark _))
          (pss_cons (ps_set (i := 7) sc__law_are_changes_right.nd rfl (.inl rfl) (pe_callTy call_tuple_of (by rfl) B.n_tuple (by decide +kernel) (pa_cons (pe_lc (own := [("_law_other", 8)]) rfl sc__law_are_changes_right.nd (pi_tup (pv 1)) (blkOk_by (N := N__law_are_changes_right) (sc := defScope s__law_are_changes_right) (by decide +kernel)) (fun _ _ _ _ _ => (pg_name (i := 8) sc__law_are_changes_right.nd rfl (Or.inl rfl))) (fun _ _ _ _ _ => (pts_one (pt_cmpR op_ne (pv 8) (pv 4) (nomark _)))) (fun _ _ _ _ _ => (pv 8))) pa_nil)))
            (pss_cons (ps_set (i := 6) sc__law_are_changes_right.nd rfl (.inl rfl) (pe_call G_by_key (hr.mono (by decide)) (by rfl) F_by_key.g F_by_key.F.kp F_by_key.b .nil pass0 (pa_cons (pv 0) (pa_cons (pv 7) (pa_cons (pv 2) pa_nil)))))
            (pss_one (ps_if (PW.pt (pw_or (PW.pt (pw_and (pt_cmpR op_ne (pv 4) (pv 3) (nomark _)) (pw_and1 (pt_cmpR op_ne (pv 6) (pv 3) (nomark _))))) (pw_or1 (pt_cmpR op_ne (pe_callB (call_repr_data (hu66 hr) hG) (by rfl) B.n_repr (by decide +kernel) (pa_cons (pv 6) pa_nil)) (pe_callB (call_repr_data (hu66 hr) hG) (by rfl) B.n_repr (by decide +kernel) (pa_cons (pe_call G__law_by_key (hr.mono (by decide)) (by rfl) F__law_by_key.g F__law_by_key.F.kp F__law_by_key.b .nil pass0 (pa_cons (pv 0) (pa_cons (pv 7) (pa_cons (pv 2) pa_nil)))) pa_nil)) (nomark _)))))
            (pss_one (ps_ret pe_bl))
            pss_nil))))
          pss_nil)))))
      (pss_one (ps_ret pe_bl))), ?_⟩
    have n8 := p.ok.n8
    have n1 := p.ok.n1
    have ln := p.it.1
    have lle := lo.le
    have tlt := lo.lt told bst.mem
    refine ⟨_, rfl, a, _, rfl, .inr (SqT.of p.at_), _, rfl, by rw [List.length_map]; omega, by rw [List.length_map]; omega, ?_⟩
    refine for_range (lo := 0) (n := (((ts.map V.ref).length : Nat) : Int).toNat) (fun j σ H' => ∃ (x4 x5 x6 x7 x8 : Option V), σ = [some (.ref a), some (.ref c), some (.str (S k)), some (.int told), x4, x5, x6, x7, x8] ∧ Same H H') ⟨_, _, _, _, _, rfl, Same.refl _⟩ ?_ ?_
    · rintro j σ H1 hj ⟨x4, x5, x6, x7, x8, rfl, s1⟩
      have hj : j < ps.length := by rw [List.length_map] at hj; omega
      have zj : (0 : Int) + (j : Int) = (j : Int) := Int.zero_add _
      have p1 := p.to s1
      have hc1 := s1 _ _ hc
      refine ⟨_, rfl, _, rfl, c, ctV ns, rfl, .inr (SqT.of hc1), rfl, flat_ct ns, _, rfl, ?_⟩
      rw [zj, if_pos rfl, in_ct]
      by_cases hm : j ∈ ns
      · rw [decide_eq_true hm]
        refine iteF ?_
        refine ⟨_, rfl, c, _, rfl, .inr (SqT.of hc1), _, _, rfl, rfl, _, rfl, ite2 (fun hl => ?_) (fun _ => ⟨_, _, _, _, _, rfl, s1⟩)⟩
        have hl := of_decide_eq_true hl
        rw [ctV_len] at hl
        refine ⟨_, rfl, c, rfl, ⟨_, SqT.of hc1⟩, fun D hD => ?_⟩
        refine lc_sel (walk_tup (K := K) (a := c) (xs := ctV ns)) (fun i => decide (kF ns i ≠ j)) (fun i => .int ((kF ns i : Nat) : Int)) (by rw [ctV_len]; omega) hD (fun H' s => SqT.of (s _ _ hc1)) ?_ ?_
        · rintro i y H3 H4 kk k0 hi s3 ⟨rfl, hy⟩ hkk hk0
          obtain ⟨n, hn, rfl⟩ := ctV_get hy
          rw [kF_at hn] at hkk hk0
          refine ⟨rfl, _, rfl, _, rfl, rfl, _, rfl, ?_⟩
          by_cases e : n = j
          · subst e
            rw [decide_eq_true rfl]
            exact iteF (hk0 (decide_eq_false (fun z => z rfl)) _ (Same.refl _))
          · rw [decide_eq_false (fun z => e (by have := V.int.inj z; omega))]
            exact iteT ⟨_, rfl, hkk (decide_eq_true e) _ (Same.refl _)⟩
        intro H3 s3 h3
        have s3 := s1.trans s3
        have h3 : H3 D = some (.lst (ctV (ns.filter fun n => decide (n ≠ j)))) := by
          rw [h3, ctV_len, ← filt_at]
        have memz : ∀ y, y ∈ (ns.filter fun n => decide (n ≠ j)) ↔ y ∈ ns ∧ y ≠ j := fun y => by rw [List.mem_filter, decide_eq_true_eq]
        have lz : Lot ps.length (ns.filter fun n => decide (n ≠ j)) := ⟨lo.asc.filter _, fun x hx => lo.lt x (List.mem_filter.mp hx).1, Nat.le_trans (List.length_filter_le _ _) lo.len⟩
        have zne : (ns.filter fun n => decide (n ≠ j)) ≠ [] := by
          intro z
          have all : ∀ x ∈ ns, x ∈ [j] := fun x hx => by
            refine Classical.byContradiction fun q => ?_
            have := (memz x).mpr ⟨hx, fun e => q (List.mem_singleton.mpr e)⟩
            rw [z] at this
            cases this
          have := sub_len ns [j] (lo.asc.imp fun h => Nat.ne_of_lt h) all
          simp at this
          omega
        generalize (ns.filter fun n => decide (n ≠ j)) = zs at h3 memz lz zne
        refine ⟨D, _, rfl, .inl ⟨SqL.of h3, fun M hM => ?_⟩⟩
        have s5 := s3.trans (same_new (o := .tup (ctV zs)) hM)
        have hM5 : upd H3 M (.tup (ctV zs)) M = some (.tup (ctV zs)) := upd_same
        generalize upd H3 M (.tup (ctV zs)) = H5 at s5 hM5 ⊢
        refine ⟨_, rfl, _, rfl, _, rfl, a, ts, ps, M, zs, k, rfl, p.to s5, hM5, lz, zne, hk, fun i H6 s6 bi => ?_⟩
        have s56 := s5.trans s6
        have hM6 := s6 _ _ hM5
        have hi8 := lz.lt i bi.mem
        obtain ⟨z1, z2, z3, z4⟩ := ((Sm.int (k := i) (n := 1) (b := 2) (by omega) (by decide)).fit (by decide) (by decide)).shown
        refine ⟨_, rfl, _, rfl, rfl, _, rfl, ?_⟩
        refine ite2 (fun e => ?_) (fun _ => ?_)
        · have hne' : j ≠ told := by
            rintro rfl
            rw [decide_eq_true rfl] at e
            cases e
          have ei : i = told := Sc.Bst.out bst bi memz hne'
          subst ei
          refine ⟨_, rfl, _, rfl, rfl, _, rfl, ?_⟩
          rw [decide_eq_true rfl]
          refine iteF ⟨_, rfl, .int i, _, rfl, .int _, z1, z2, z3, z4, ?_⟩
          refine ⟨_, rfl, _, rfl, _, rfl, a, ts, ps, M, zs, k, rfl, p.to s56, hM6, lz, zne, hk, fun i' H8 s8 bi' => ?_⟩
          have ei : i' = i := bi'.uniq bi
          subst ei
          refine ⟨.int i', _, rfl, .int _, z1, z2, z3, z4, rfl, _, rfl, ?_⟩
          rw [decide_eq_true rfl]
          exact iteF ⟨_, _, _, _, _, rfl, s56.trans s8⟩
        · refine ⟨_, rfl, .int i, _, rfl, .int _, z1, z2, z3, z4, ?_⟩
          refine ⟨_, rfl, _, rfl, _, rfl, a, ts, ps, M, zs, k, rfl, p.to s56, hM6, lz, zne, hk, fun i' H8 s8 bi' => ?_⟩
          have ei : i' = i := bi'.uniq bi
          subst ei
          refine ⟨.int i', _, rfl, .int _, z1, z2, z3, z4, rfl, _, rfl, ?_⟩
          rw [decide_eq_true rfl]
          exact iteF ⟨_, _, _, _, _, rfl, s56.trans s8⟩
      · rw [decide_eq_false hm]
        refine iteT ?_
        refine ⟨_, rfl, _, rfl, sz (by show 1 ≤ 16000000; decide), fun T hT => ?_⟩
        have s2 := s1.trans (same_new (o := .tup [.int (j : Int)]) hT)
        have hT2 : upd H1 T (.tup [.int (j : Int)]) T = some (.tup [.int (j : Int)]) := upd_same
        generalize upd H1 T (.tup [.int (j : Int)]) = H2 at s2 hT2 ⊢
        refine ⟨c, T, ctV ns, [.int (j : Int)], rfl, rfl, SqT.of (s2 _ _ hc), SqT.of hT2, sz (by rw [ctV_len]; show ns.length + 1 ≤ _; omega), fun z => ?_, fun _ z => (by cases z), fun _ _ L hL => ?_⟩
        · cases ns with
          | nil => exact absurd rfl hne
          | cons _ _ => cases z
        have s3 := s2.trans (same_new (o := .tup (ctV ns ++ [.int (j : Int)])) hL)
        have hL3 : upd H2 L (.tup (ctV ns ++ [.int (j : Int)])) L = some (.tup (ctV ns ++ [.int (j : Int)])) := upd_same
        generalize upd H2 L (.tup (ctV ns ++ [.int (j : Int)])) = H3 at s3 hL3 ⊢
        refine ⟨L, iL ns ++ [(j : Int)], rfl, SqT.of (hL3.trans (by rw [ctV_int]; simp)), fun ms Z pm st hZ => ?_⟩
        obtain ⟨zs, rfl, lz, memz⟩ := sorted_more lo n8 hj hm pm st
        have s4 := s3.trans (same_new (o := .lst ((iL zs).map V.int)) hZ)
        have hZ4 : upd H3 Z (.lst ((iL zs).map V.int)) Z = some (.lst ((iL zs).map V.int)) := upd_same
        generalize upd H3 Z (.lst ((iL zs).map V.int)) = H4 at s4 hZ4 ⊢
        refine ⟨Z, _, rfl, .inl ⟨SqL.of hZ4, fun M hM => ?_⟩⟩
        rw [show (iL zs).map V.int = ctV zs from (ctV_int zs).symm]
        have s5 := s4.trans (same_new (o := .tup (ctV zs)) hM)
        have hM5 : upd H4 M (.tup (ctV zs)) M = some (.tup (ctV zs)) := upd_same
        generalize upd H4 M (.tup (ctV zs)) = H5 at s5 hM5 ⊢
        have zne : zs ≠ [] := by
          rintro rfl
          have := (memz j).mpr (.inr rfl)
          cases this
        refine ⟨_, rfl, _, rfl, _, rfl, a, ts, ps, M, zs, k, rfl, p.to s5, hM5, lz, zne, hk, fun i H6 s6 bi => ?_⟩
        have s56 := s5.trans s6
        have hio := Sc.Bst.into bst bi memz
        have hi8 := lz.lt i bi.mem
        refine ⟨_, rfl, _, rfl, _, rfl, sz (by show 2 ≤ 16000000; decide), fun R hR => ?_⟩
        have s7 := s56.trans (same_new (o := .tup [.int (told : Int), .int (j : Int)]) hR)
        have hM7 := (same_new (o := .tup [.int (told : Int), .int (j : Int)]) hR) _ _ (s6 _ _ hM5)
        refine ⟨R, ctV [told, j], rfl, .inr (SqT.of upd_same), rfl, flat_ct [told, j], _, rfl, ?_⟩
        rw [if_pos rfl, in_ct, decide_eq_true (by rcases hio with rfl | rfl <;> simp)]
        refine iteF ?_
        generalize upd H6 R (.tup [.int (told : Int), .int (j : Int)]) = H7 at s7 hM7 ⊢
        obtain ⟨z1, z2, z3, z4⟩ := ((Sm.int (k := i) (n := 1) (b := 2) (by omega) (by decide)).fit (by decide) (by decide)).shown
        refine ⟨_, rfl, .int i, _, rfl, .int _, z1, z2, z3, z4, ?_⟩
        refine ⟨_, rfl, _, rfl, _, rfl, a, ts, ps, M, zs, k, rfl, p.to s7, hM7, lz, zne, hk, fun i' H8 s8 bi' => ?_⟩
        have ei : i' = i := bi'.uniq bi
        subst ei
        refine ⟨.int i', _, rfl, .int _, z1, z2, z3, z4, rfl, _, rfl, ?_⟩
        rw [decide_eq_true rfl]
        exact iteF ⟨_, _, _, _, _, rfl, s7.trans s8⟩
    · rintro σ H1 ⟨x4, x5, x6, x7, x8, rfl, s1⟩
      exact q _ s1
end
end Ag

end
/-! ## T10 -/
section
set_option linter.all false
set_option maxRecDepth 100000
namespace Ag
open PySem PySem.Spec PyProof.Rows L2
open SX (S S_len S_cat S_inj)
/-- a value, by way of what is known of it -/
def tMid (t : TE) : TE := fun σ H Q => ∃ I : V → Hp → Prop, (∀ Q' : VK, (∀ v H', I v H' → Q' v H') → t σ H Q') ∧ ∀ v H', I v H' → Q v H'
theorem pe_ifMid {X : Cx} {c a b : Expr} {pos : Pos} {tA : TT} {ta tb : TE} (hc : PT X c tA) (ha : PE X a ta) (hb : PE X b tb) : PE X (.IfExp c a b pos) (tMid (tIf tA ta tb)) :=
  ⟨fun pins s σ H Q I hw => by
    obtain ⟨J, h1, h2⟩ := hw
    exact (pe_ifExp hc ha hb).run pins s σ H Q I (h1 Q h2)⟩
theorem cutS_front (l : List Nat) : cutS (S l) none (some 1) = S (l.take 1) := by
  unfold cutS
  rw [HT.sIx_none, show (1 : Int) = ((1 : Nat) : Int) from rfl, HT.sIx_nat, S_len]
  show S ((l.drop 0).take (min 1 l.length - 0)) = _
  rw [List.drop_zero, Nat.sub_zero]
  cases l with
  | nil => rfl
  | cons x l => rw [show min 1 (x :: l).length = 1 by simp]
theorem cutS_back (l : List Nat) : cutS (S l) (some 1) none = S (l.drop 1) := by
  unfold cutS
  rw [HT.sIx_none, show (1 : Int) = ((1 : Nat) : Int) from rfl, HT.sIx_nat, S_len]
  show S ((l.drop (min 1 l.length)).take (l.length - min 1 l.length)) = _
  cases l with
  | nil => rfl
  | cons x l =>
    rw [show min 1 (x :: l).length = 1 by simp]
    show S (l.take _) = S l
    rw [List.take_of_length_le (by simp)]
theorem lb_lt {n : Nat} {wf b : Nat → Nat} {ns : List Nat} (h : Lot n ns) (hne : ns ≠ []) : Sc.lbF wf b ns < n := by
  cases ns with
  | nil => exact absurd rfl hne
  | cons x l =>
    rcases Sc.fold_mem (w := wf) (b := b) (ns := l) (x0 := x) with e | e
    · show l.foldl _ x < n
      rw [e]
      exact h.lt _ List.mem_cons_self
    · exact h.lt _ (List.mem_cons_of_mem _ e)
/-- what is drawn in a turn -/
structure Drawn (p c a : Addr) (ts : List Addr) (ps : List (List Nat × Nat)) (C : Addr) (ns : List Nat) (D : Addr) (bs : List Nat) (H : Hp) : Prop where
  dk : Dk p c H
  pl : Pool a ts ps H
  hC : H C = some (.tup (ctV ns))
  lo : Lot ps.length ns
  ne : ns ≠ []
  hD : H D = some (.tup (ctV bs))
  bl : bs.length = ps.length
theorem Drawn.to {p c a : Addr} {ts : List Addr} {ps : List (List Nat × Nat)} {C : Addr} {ns : List Nat} {D : Addr} {bs : List Nat} {H H' : Hp} (d : Drawn p c a ts ps C ns D bs H) (s : Same H H') : Drawn p c a ts ps C ns D bs H' := ⟨d.dk.same s, d.pl.to s, s _ _ d.hC, d.lo, d.ne, s _ _ d.hD, d.bl⟩
def LawI (a0 p c a : Addr) (ts : List Addr) (ps : List (List Nat × Nat)) (j : Nat) (σ : L2.St) (H : Hp) : Prop := ∃ (x3 x4 x5 x6 x7 x8 x9 x10 x11 : Option V), σ = [some (.ref a0), some (.ref p), some (.ref a), x3, x4, x5, x6, x7, x8, x9, x10, x11] ∧ Dk p c H ∧ Pool a ts ps H ∧
  (0 < j → ∃ C ns D bs, x4 = some (.ref C) ∧ x5 = some (.ref D) ∧ Drawn p c a ts ps C ns D bs H)
section
variable {P : Program} {w : World} {K : PySem.W.Frag} {mg : Str → Option Value} {base : Heap} {tw tp tg t1 t2 t3 : Tok}
def spLaw (K : PySem.W.Frag) : Sp := fun vs H Q _ => ∃ (a : Addr) (ns : List Int), vs = [.ref a] ∧ SqL K H a (ns.map V.int) ∧ ns.length ≤ 63 ∧ ∀ H', Q (.bl true) H'
set_option maxHeartbeats 4000000 in
theorem ok_law {f f1 f2 f3 f4 f5 f6 f7 f8 f9 fa fb fc : Addr} {fd fd1 fd2 fd3 fd4 fd5 fd6 fd7 fd8 fd9 fda fdb fdc : FuncData} (F : Fn K mg "law" s_law ["_law_script"] f fd) (B : Con mg tw tp tg t1 t2 t3)
    (F__law_deck : Fn K mg "_law_deck" s__law_deck ["_law_script"] f1 fd1) (G__law_deck : FnOk P w K mg base CX0 1 f1 fd1 ["_law_script"] (spDeck K))
    (F__law_drawn_pool : Fn K mg "_law_drawn_pool" s__law_drawn_pool ["_law_deck_here"] f2 fd2) (G__law_drawn_pool : FnOk P w K mg base CX0 5 f2 fd2 ["_law_deck_here"] spMkPool)
    (F_is_pool : Fn K mg "is_pool" s_is_pool ["thing"] f3 fd3) (G_is_pool : FnOk P w K mg base CX0 3 f3 fd3 ["thing"] spPool)
    (F__law_drawn_lot : Fn K mg "_law_drawn_lot" s__law_drawn_lot ["_law_deck_here", "_law_many"] f4 fd4) (G__law_drawn_lot : FnOk P w K mg base CX0 2 f4 fd4 ["_law_deck_here", "_law_many"] spMkLot)
    (F__law_drawn_busy : Fn K mg "_law_drawn_busy" s__law_drawn_busy ["_law_deck_here", "_law_pool"] f5 fd5) (G__law_drawn_busy : FnOk P w K mg base CX0 2 f5 fd5 ["_law_deck_here", "_law_pool"] spMkBusy)
    (F__law_word : Fn K mg "_law_word" s__law_word ["_law_deck_here"] f6 fd6) (G__law_word : FnOk P w K mg base CX0 3 f6 fd6 ["_law_deck_here"] spMkWord)
    (F_least_busy : Fn K mg "least_busy" s_least_busy ["pool", "lot", "busy"] f7 fd7) (G_least_busy : FnOk P w K mg base CX0 5 f7 fd7 ["pool", "lot", "busy"] spLb) (K_least_busy_busy_lot_pool : KwB K fd7 ["pool", "lot", "busy"] ["busy", "lot", "pool"] List.reverse List.reverse)
    (F__law_least_busy : Fn K mg "_law_least_busy" s__law_least_busy ["_law_pool", "_law_lot", "_law_busy"] f8 fd8) (G__law_least_busy : FnOk P w K mg base CX0 1 f8 fd8 ["_law_pool", "_law_lot", "_law_busy"] spLLb)
    (F_by_key : Fn K mg "by_key" s_by_key ["pool", "lot", "key"] f9 fd9) (G_by_key : FnOk P w K mg base CX0 5 f9 fd9 ["pool", "lot", "key"] spBk) (K_by_key_key_lot_pool : KwB K fd9 ["pool", "lot", "key"] ["key", "lot", "pool"] List.reverse List.reverse)
    (F__law_by_key : Fn K mg "_law_by_key" s__law_by_key ["_law_pool", "_law_lot", "_law_key"] fa fda) (G__law_by_key : FnOk P w K mg base CX0 2 fa fda ["_law_pool", "_law_lot", "_law_key"] spLBk)
    (F_score : Fn K mg "score" s_score ["key", "label"] fb fdb) (G_score : FnOk P w K mg base CX0 2 fb fdb ["key", "label"] spScore) (K_score_label_key : KwB K fdb ["key", "label"] ["label", "key"] List.reverse List.reverse)
    (F__law_score : Fn K mg "_law_score" s__law_score ["_law_key", "_law_label"] fc fdc) (G__law_score : FnOk P w K mg base CX0 1 fc fdc ["_law_key", "_law_label"] spLScore)
    {fe : Addr} {fde : FuncData} (F__law_are_changes_right : Fn K mg "_law_are_changes_right" s__law_are_changes_right ["_law_pool", "_law_lot", "_law_key", "_law_told"] fe fde) (G__law_are_changes_right : FnG P w K mg base 6 fe fde ["_law_pool", "_law_lot", "_law_key", "_law_told"] spChanges) :
    FnG P w K mg base 7 f fd ["_law_script"] (spLaw K) := by
  refine okG F.F sc_law (fun vs H Q E h => ?_) (fun cdv A outer s0 H vs Q E hr hG h => ?_)
  · obtain ⟨a, ns, rfl, _⟩ := h
    rfl
  · obtain ⟨a0, sc, rfl, hsc, hn, q⟩ := h
    refine ⟨_, (pss_cons (ps_set (i := 1) sc_law.nd rfl (.inl rfl) (pe_call G__law_deck (hr.mono (by decide)) (by rfl) F__law_deck.g F__law_deck.F.kp F__law_deck.b .nil pass0 (pa_cons (pv 0) pa_nil)))
      (pss_cons (ps_set (i := 2) sc_law.nd rfl (.inl rfl) (pe_call G__law_drawn_pool (hr.mono (by decide)) (by rfl) F__law_drawn_pool.g F__law_drawn_pool.F.kp F__law_drawn_pool.b .nil pass0 (pa_cons (pv 1) pa_nil)))
      (pss_cons (ps_if (pt_cmpR op_ne (pe_callB (call_repr_data (hu66 hr) hG) (by rfl) B.n_repr (by decide +kernel) (pa_cons (pe_call G_is_pool (hr.mono (by decide)) (by rfl) F_is_pool.g F_is_pool.F.kp F_is_pool.b .nil pass0 (pa_cons (pv 2) pa_nil)) pa_nil)) pe_str (nomark _))
      (pss_one (ps_ret pe_bl))
      pss_nil)
      (pss_cons (ps_for PassesOwn.never rfl (pi_range1 (by rfl) B.n_range (pa_cons pe_int pa_nil)) (pg_name (i := 3) sc_law.nd rfl (Or.inl rfl))
      (pss_cons (ps_par3 (i := 4) (j := 5) (l := 6) (by rfl) sc_law.nd rfl rfl rfl (by decide) (by decide) (by decide) rfl rfl rfl (pa_cons (pe_call G__law_drawn_lot (hr.mono (by decide)) (by rfl) F__law_drawn_lot.g F__law_drawn_lot.F.kp F__law_drawn_lot.b .nil pass0 (pa_cons (pv 1) (pa_cons (pe_callB call_len_seq (by rfl) B.n_len PySem.boot_len (pa_cons (pv 2) pa_nil)) pa_nil))) (pa_cons (pe_call G__law_drawn_busy (hr.mono (by decide)) (by rfl) F__law_drawn_busy.g F__law_drawn_busy.F.kp F__law_drawn_busy.b .nil pass0 (pa_cons (pv 1) (pa_cons (pv 2) pa_nil))) (pa_cons (pe_call G__law_word (hr.mono (by decide)) (by rfl) F__law_word.g F__law_word.F.kp F__law_word.b .nil pass0 (pa_cons (pv 1) pa_nil)) pa_nil))) (by rfl))
        (pss_cons (ps_if (pt_cmpR op_ne (pe_callB (call_repr_data (hu66 hr) hG) (by rfl) B.n_repr (by decide +kernel) (pa_cons (pe_call G_least_busy (hr.mono (by decide)) (by rfl) F_least_busy.g F_least_busy.F.kp F_least_busy.b .nil pass0 (pa_cons (pv 2) (pa_cons (pv 4) (pa_cons (pv 5) pa_nil)))) pa_nil)) (pe_callB (call_repr_data (hu66 hr) hG) (by rfl) B.n_repr (by decide +kernel) (pa_cons (pe_call G__law_least_busy (hr.mono (by decide)) (by rfl) F__law_least_busy.g F__law_least_busy.F.kp F__law_least_busy.b .nil pass0 (pa_cons (pv 2) (pa_cons (pv 4) (pa_cons (pv 5) pa_nil)))) pa_nil)) (nomark _))
        (pss_one (ps_ret pe_bl))
        pss_nil)
        (pss_cons (ps_set (i := 7) sc_law.nd rfl (.inl rfl) (pe_ifMid (pt_cmpR op_eq (pv 3) pe_int (nomark _)) (pe_callKwG (FnG.of G_by_key) (hr.mono (by decide)) hG (by rfl) F_by_key.g F_by_key.F.kp K_by_key_key_lot_pool (pk_cons (pv 6) (pk_cons (pv 4) (pk_cons (pv 2) pk_nil)))) (pe_call G_by_key (hr.mono (by decide)) (by rfl) F_by_key.g F_by_key.F.kp F_by_key.b .nil pass0 (pa_cons (pv 2) (pa_cons (pv 4) (pa_cons (pv 6) pa_nil))))))
        (pss_cons (ps_if (PW.pt (pw_or (pt_cmpR op_ne (pe_callB (call_repr_data (hu66 hr) hG) (by rfl) B.n_repr (by decide +kernel) (pa_cons (pv 7) pa_nil)) (pe_callB (call_repr_data (hu66 hr) hG) (by rfl) B.n_repr (by decide +kernel) (pa_cons (pe_call G__law_by_key (hr.mono (by decide)) (by rfl) F__law_by_key.g F__law_by_key.F.kp F__law_by_key.b .nil pass0 (pa_cons (pv 2) (pa_cons (pv 4) (pa_cons (pv 6) pa_nil)))) pa_nil)) (nomark _)) (pw_or1 (pt_not (pt_val (pe_callG G__law_are_changes_right (hr.mono (by decide)) hG (by rfl) F__law_are_changes_right.g F__law_are_changes_right.F.kp F__law_are_changes_right.b (pa_cons (pv 2) (pa_cons (pv 4) (pa_cons (pv 6) (pa_cons (pv 7) pa_nil))))))))))
        (pss_one (ps_ret pe_bl))
        pss_nil)
        (pss_one (ps_for PassesOwn.never rfl (pi_tup (pv 2)) (pg_tup rfl (pgs_cons (pg_name (i := 8) sc_law.nd rfl (Or.inl rfl)) (pgs_cons (pg_name (i := 9) sc_law.nd rfl (Or.inl rfl)) pgs_nil)))
        (pss_cons (ps_if (pt_cmpR op_ne (pe_callB (call_repr_data (hu66 hr) hG) (by rfl) B.n_repr (by decide +kernel) (pa_cons (pe_tup (pa_cons (pe_call G_score (hr.mono (by decide)) (by rfl) F_score.g F_score.F.kp F_score.b .nil pass0 (pa_cons (pv 6) (pa_cons (pv 8) pa_nil))) (pa_cons (pe_callKwG (FnG.of G_score) (hr.mono (by decide)) hG (by rfl) F_score.g F_score.F.kp K_score_label_key (pk_cons (pv 8) (pk_cons (pv 6) pk_nil))) pa_nil))) pa_nil)) (pe_callB (call_repr_data (hu66 hr) hG) (by rfl) B.n_repr (by decide +kernel) (pa_cons (pe_op op_repA (pe_tup (pa_cons (pe_call G__law_score (hr.mono (by decide)) (by rfl) F__law_score.g F__law_score.F.kp F__law_score.b .nil pass0 (pa_cons (pv 6) (pa_cons (pv 8) pa_nil))) pa_nil)) pe_int) pa_nil)) (nomark _))
          (pss_one (ps_ret pe_bl))
          pss_nil)
          (pss_cons (ps_par (i := 10) (j := 11) (by rfl) sc_law.nd rfl rfl (by decide) rfl rfl (pa_cons (pe_op op_add_str (pv 6) (pe_slice sl_str (pv 8) po_none (po_some pe_int))) (pa_cons (pe_slice sl_str (pv 8) (po_some pe_int) po_none) pa_nil)) (by rfl))
          (pss_one (ps_if (PW.pt (pw_and (pt_cmpR op_eq (pv 3) pe_int (nomark _)) (pw_and (pt_cmpR op_lt (pe_callB call_len_str (by rfl) B.n_len PySem.boot_len (pa_cons (pv 10) pa_nil)) pe_int (nomark _)) (pw_and (pt_cmpR op_ne (pv 11) pe_str (nomark _)) (pw_and1 (pt_cmpR op_ne (pe_callB (call_repr_data (hu66 hr) hG) (by rfl) B.n_repr (by decide +kernel) (pa_cons (pe_call G_score (hr.mono (by decide)) (by rfl) F_score.g F_score.F.kp F_score.b .nil pass0 (pa_cons (pv 10) (pa_cons (pv 11) pa_nil))) pa_nil)) (pe_callB (call_repr_data (hu66 hr) hG) (by rfl) B.n_repr (by decide +kernel) (pa_cons (pe_call G__law_score (hr.mono (by decide)) (by rfl) F__law_score.g F__law_score.F.kp F__law_score.b .nil pass0 (pa_cons (pv 10) (pa_cons (pv 11) pa_nil))) pa_nil)) (nomark _)))))))
          (pss_one (ps_ret pe_bl))
          pss_nil)))))))))))
      (pss_one (ps_ret (pe_cmpR op_eq (pe_callB (call_repr_data (hu66 hr) hG) (by rfl) B.n_repr (by decide +kernel) (pa_cons (pe_callKwG (FnG.of G_least_busy) (hr.mono (by decide)) hG (by rfl) F_least_busy.g F_least_busy.F.kp K_least_busy_busy_lot_pool (pk_cons (pv 5) (pk_cons (pv 4) (pk_cons (pv 2) pk_nil)))) pa_nil)) (pe_callB (call_repr_data (hu66 hr) hG) (by rfl) B.n_repr (by decide +kernel) (pa_cons (pe_call G__law_least_busy (hr.mono (by decide)) (by rfl) F__law_least_busy.g F__law_least_busy.F.kp F__law_least_busy.b .nil pass0 (pa_cons (pv 2) (pa_cons (pv 4) (pa_cons (pv 5) pa_nil)))) pa_nil)) (nomark _)))))))), ?_⟩
    have isMk : ∀ i : Nat, i < 100000 → (PyData.int (i : Int)).showable = true ∧ (PyData.int (i : Int)).hasDict = false ∧ (PyData.int (i : Int)).depth ≤ 64 ∧ (PyData.int (i : Int)).shown.length ≤ sizeLine := fun i hi => ((Sm.int (k := i) (n := 1) (b := 2) (by omega) (by decide)).fit (by decide) (by decide)).shown
    refine ⟨_, rfl, a0, sc, rfl, hsc, hn, fun p c H1 hp hc sm1 dk => ?_⟩
    refine ⟨_, rfl, p, c, rfl, dk, fun a ts ps H2 g2 pl => ?_⟩
    obtain ⟨y1, y2, y3, y4⟩ := ((Sm.bool (c := true) (n := 1) (b := 5) (by decide)).fit (by decide) (by decide)).shown
    refine ⟨_, rfl, a, ts, ps, rfl, pl, fun H3 s3 => ⟨.bl true, .bool true, rfl, .bl _, y1, y2, y3, y4, rfl, _, rfl, ?_⟩⟩
    rw [PyData.shown_bool]
    refine iteF ?_
    refine ⟨3, rfl, by decide, by decide, for_range (lo := 0) (n := (3 : Int).toNat) (LawI a0 p c a ts ps) ⟨_, _, _, _, _, _, _, _, _, rfl, g2.2.same s3, pl.to s3, fun z => absurd z (Nat.lt_irrefl _)⟩ ?_ ?_⟩
    · rintro go σ Ha hgo ⟨x3, x4, x5, x6, x7, x8, x9, x10, x11, rfl, da, pa, _⟩
      clear y1 y2 y3 y4 pl g2 s3
      have ln := pa.it.1
      have n1 := pa.ok.n1
      have n8 := pa.ok.n8
      have tl : (ts.map V.ref).length = ps.length := by rw [List.length_map, ln]
      refine ⟨_, rfl, _, rfl, a, _, rfl, .inr (SqT.of pa.at_), p, c, (ts.map V.ref).length, rfl, da, by omega, by omega, fun C ns Hb gb hC lo hne => ?_⟩
      rw [tl] at lo
      have pb := pa.gx da gb
      refine ⟨_, rfl, _, rfl, p, c, a, ts, ps, rfl, gb.2, pb, fun D bs Hc gc hD hbl => ?_⟩
      refine ⟨_, rfl, p, c, rfl, gc.2, fun key Hd hkey gd => ⟨_, _, _, rfl, ?_⟩⟩
      have d1 : Drawn p c a ts ps C ns D bs Hd := ⟨gd.2, (pb.gx gb.2 gc).gx gc.2 gd, tup_gx gc.2 gd (tup_gx gb.2 gc hC), lo, hne, tup_gx gc.2 gd hD, hbl⟩
      clear da pa gb hC gc hD gd pb
      have lbl := lb_lt (wf := wF ps) (b := kF bs) lo hne
      -- the least busy one
      obtain ⟨z1, z2, z3, z4⟩ := isMk _ (Nat.lt_of_lt_of_le lbl (by omega : ps.length ≤ 100000))
      refine ⟨_, rfl, _, rfl, _, rfl, a, ts, ps, C, ns, D, bs, rfl, d1.pl, d1.hC, lo, hne, d1.hD, hbl, fun He s2 => ⟨_, _, rfl, .int _, z1, z2, z3, z4, ?_⟩⟩
      have d2 := d1.to s2
      clear d1
      refine ⟨_, rfl, _, rfl, _, rfl, a, ts, ps, C, ns, D, bs, rfl, d2.pl, d2.hC, lo, hne, d2.hD, hbl, fun Hf s3 => ⟨_, _, rfl, .int _, z1, z2, z3, z4, rfl, _, rfl, ?_⟩⟩
      rw [decide_eq_true rfl]
      refine iteF ?_
      have d3 := d2.to s3
      clear d2 z1 z2 z3 z4
      -- by key
      refine ⟨fun v H' => ∃ i : Nat, v = .int (i : Int) ∧ Same Hf H' ∧ Sc.Bst (fS ps key) ns i, fun Q' hQ' => ?_, ?_⟩
      · refine ⟨_, rfl, rfl, _, rfl, ite2 (fun _ => ?_) (fun _ => ?_)⟩
        · exact ⟨_, rfl, _, rfl, _, rfl, rfl, a, ts, ps, C, ns, key, rfl, d3.pl, d3.hC, lo, hne, hkey, fun i H' s bi => hQ' _ _ ⟨i, rfl, s, bi⟩⟩
        · exact ⟨_, rfl, _, rfl, _, rfl, a, ts, ps, C, ns, key, rfl, d3.pl, d3.hC, lo, hne, hkey, fun i H' s bi => hQ' _ _ ⟨i, rfl, s, bi⟩⟩
      rintro v Hg ⟨told, rfl, s4, bst⟩
      have d4 := d3.to s4
      clear d3
      have ht8 := lo.lt told bst.mem
      obtain ⟨z1, z2, z3, z4⟩ := isMk told (by omega)
      refine ⟨_, rfl, .int told, _, rfl, .int _, z1, z2, z3, z4, ?_⟩
      refine ⟨_, rfl, _, rfl, _, rfl, a, ts, ps, C, ns, key, rfl, d4.pl, d4.hC, lo, hne, hkey, fun i Hh s5 bi => ?_⟩
      have ei : i = told := bi.uniq bst
      subst ei
      refine ⟨.int i, _, rfl, .int _, z1, z2, z3, z4, rfl, _, rfl, ?_⟩
      rw [decide_eq_true rfl]
      refine iteF ?_
      have d5 := d4.to s5
      clear d4
      refine ⟨_, rfl, _, rfl, _, rfl, _, rfl, a, ts, ps, C, ns, key, i, rfl, d5.pl, d5.hC, lo, hne, hkey, bst, fun Hi s6 => ⟨_, rfl, iteF ?_⟩⟩
      have d6 := d5.to s6
      clear d5 z1 z2 z3 z4
      -- the scores
      refine ⟨_, rfl, a, rfl, ⟨_, SqT.of d6.pl.at_⟩, ?_⟩
      have lk := word_len hkey
      have ka := word_all hkey
      refine for_it (walk_tup (K := K) (a := a) (xs := ts.map V.ref)) (fun j σ H' => ∃ (u8 u9 u10 u11 : Option V), σ = [some (.ref a0), some (.ref p), some (.ref a), some (.int (0 + (go : Int))), some (.ref C), some (.ref D), some (.str (S key)), some (.int i), u8, u9, u10, u11] ∧ Same Hi H') ⟨_, _, _, _, rfl, Same.refl _⟩ (fun j σ H' _ z => ?_) ?_ ?_
      · obtain ⟨_, _, _, _, _, sm⟩ := z
        exact SqT.of (sm _ _ d6.pl.at_)
      · rintro j y σ H3 H4 hj ⟨u8, u9, u10, u11, rfl, s7⟩ ⟨rfl, hy⟩
        obtain ⟨t, e, rfl, _, he, ht⟩ := (d6.pl.it.to s7).get hy
        have hl := d6.pl.ok.wd e (List.mem_of_getElem? he)
        have ll := word_len hl
        have la := word_all hl
        obtain ⟨l, wt⟩ := e
        simp only at hl ll la ht
        refine ⟨t, _, rfl, SqT.of ht, rfl, _, _, rfl, _, _, rfl, rfl, ?_⟩
        have vlt : Sc.scL (keyL key l) < 65521 := Sc.scL_lt _
        generalize hv : Sc.scL (keyL key l) = v at vlt
        obtain ⟨z1, z2, z3, z4⟩ := ((Sm.tup (SmA.cons (b := 10) (Sm.int (k := v) (n := 1) (b := 2) (by omega) (by decide)) (SmA.cons (b := 6) (Sm.int (k := v) (n := 1) (b := 2) (by omega) (by decide)) (SmA.nil (b := 0)) (by decide)) (by decide))).fit (by decide) (by decide)).shown
        refine ⟨_, rfl, _, rfl, key, l, rfl, hkey, hl, fun H5 s5 => ?_⟩
        refine ⟨_, rfl, _, rfl, rfl, key, l, rfl, hkey, hl, fun H6 s6 => ⟨sz (by show 2 ≤ 16000000; decide), fun T hT => ?_⟩⟩
        rw [hv]
        have s8 := s7.trans (s5.trans (s6.trans (same_new (o := .tup [.int (v : Int), .int (v : Int)]) hT)))
        refine ⟨.ref T, .tuple [.int (v : Int), .int (v : Int)], rfl, .tup (SqT.of upd_same) (.cons (.int _) (.cons (.int _) .nil)), z1, z2, z3, z4, ?_⟩
        generalize upd H6 T (.tup [.int (v : Int), .int (v : Int)]) = H7 at s8 ⊢
        refine ⟨_, rfl, _, rfl, key, l, rfl, by omega, sz (by show 1 ≤ 16000000; decide), fun U hU => ?_⟩
        rw [hv]
        refine ⟨U, 2, [.int (v : Int)], rfl, rfl, upd_same, by simp, by show 1 * 2 ≤ 1000000; decide, by decide, fun R H8 s9 hR => ?_⟩
        have s10 := s8.trans ((same_new (o := .tup [.int (v : Int)]) hU).trans s9)
        have hR : H8 R = some (.tup [.int (v : Int), .int (v : Int)]) := hR
        refine ⟨.ref R, .tuple [.int (v : Int), .int (v : Int)], rfl, .tup (SqT.of hR) (.cons (.int _) (.cons (.int _) .nil)), z1, z2, z3, z4, rfl, _, rfl, ?_⟩
        rw [decide_eq_true rfl]
        refine iteF ?_
        clear s8 s9 hR
        -- one sign more, one sign less
        refine ⟨_, rfl, _, rfl, 1, rfl, _, rfl, sz (by rw [S_len]; omega), ?_⟩
        rw [cutS_front]
        refine ⟨_, _, rfl, rfl, sz (by rw [S_len, S_len, List.length_take]; omega), ?_⟩
        rw [S_cat]
        refine ⟨_, rfl, 1, rfl, _, rfl, sz (by rw [S_len]; omega), ?_⟩
        rw [cutS_back]
        refine ⟨_, _, rfl, ?_⟩
        refine ⟨_, rfl, rfl, _, rfl, ite2 (fun _ => ?_) (fun _ => ⟨_, _, _, _, rfl, s10⟩)⟩
        refine ⟨_, rfl, _, rfl, sz (by rw [S_len, List.length_append, List.length_take]; omega), _, _, rfl, rfl, _, rfl, ite2 (fun h11 => ?_) (fun _ => ⟨_, _, _, _, rfl, s10⟩)⟩
        have h11 := of_decide_eq_true h11
        rw [S_len] at h11
        refine ⟨_, rfl, rfl, _, rfl, ite2 (fun hne0 => ?_) (fun _ => ⟨_, _, _, _, rfl, s10⟩)⟩
        have hless : l.drop 1 ≠ [] := by
          intro z
          rw [z, emptyS, decide_eq_true rfl] at hne0
          cases hne0
        have hw1 : wordL (key ++ l.take 1) = true := word_mk (by rw [List.length_append]; omega) (by omega) (by
          rw [List.all_append, ka, Bool.true_and, List.all_eq_true]
          exact fun x hx => List.all_eq_true.mp la x (List.mem_of_mem_take hx))
        have hw2 : wordL (l.drop 1) = true := word_mk (by cases h : l.drop 1; exact absurd h hless; simp) (by rw [List.length_drop]; omega) (by
          rw [List.all_eq_true]
          exact fun x hx => List.all_eq_true.mp la x (List.mem_of_mem_drop hx))
        obtain ⟨v1, v2, v3, v4⟩ := isMk _ (Nat.lt_trans (Sc.scL_lt (keyL (key ++ l.take 1) (l.drop 1))) (by decide))
        refine ⟨_, rfl, _, rfl, _, _, rfl, hw1, hw2, fun H9 s11 => ⟨_, _, rfl, .int _, v1, v2, v3, v4, ?_⟩⟩
        refine ⟨_, rfl, _, rfl, _, _, rfl, by rw [List.length_append, List.length_take, List.length_drop]; omega, ⟨_, _, rfl, .int _, v1, v2, v3, v4, rfl, _, rfl, ?_⟩⟩
        rw [decide_eq_true rfl]
        exact iteF ⟨_, _, _, _, rfl, s10.trans s11⟩
      · rintro σ H3 ⟨u8, u9, u10, u11, rfl, s7⟩
        have d7 := d6.to s7
        exact ⟨_, _, _, _, _, _, _, _, _, rfl, d7.dk, d7.pl, fun _ => ⟨C, ns, D, bs, rfl, rfl, d7⟩⟩
    · rintro σ Ha ⟨x3, x4, x5, x6, x7, x8, x9, x10, x11, rfl, da, pa, last⟩
      obtain ⟨C, ns, D, bs, rfl, rfl, d⟩ := last (by decide)
      have lbl := lb_lt (wf := wF ps) (b := kF bs) d.lo d.ne
      have n8 := pa.ok.n8
      obtain ⟨z1, z2, z3, z4⟩ := isMk _ (Nat.lt_of_lt_of_le lbl (by omega : ps.length ≤ 100000))
      refine ⟨_, rfl, _, rfl, _, rfl, rfl, a, ts, ps, C, ns, D, bs, rfl, d.pl, d.hC, d.lo, d.ne, d.hD, d.bl, fun He s2 => ⟨_, _, rfl, .int _, z1, z2, z3, z4, ?_⟩⟩
      have d2 := d.to s2
      refine ⟨_, rfl, _, rfl, _, rfl, a, ts, ps, C, ns, D, bs, rfl, d2.pl, d2.hC, d2.lo, d2.ne, d2.hD, d2.bl, fun Hf s3 => ⟨_, _, rfl, .int _, z1, z2, z3, z4, rfl, ?_⟩⟩
      exact bl_t rfl (q _)
end
end Ag

end
/-! ## E -/
section
set_option linter.all false
set_option maxRecDepth 100000
namespace Ag
open PySem PySem.Spec PyProof.Rows L2
theorem vals_app : ∀ {a : List V} {b : List Value} {c : List V} {d : List Value}, Vals a b → Vals c d → Vals (a ++ c) (b ++ d)
  | [], [], _, _, _, h => h
  | _ :: _, _ :: _, _, _, .cons h t, k => .cons h (vals_app t k)
theorem vals_rev : ∀ {a : List V} {b : List Value}, Vals a b → Vals a.reverse b.reverse
  | [], [], _ => .nil
  | _ :: _, _ :: _, .cons h t => by
    rw [List.reverse_cons, List.reverse_cons]
    exact vals_app (vals_rev t) (.cons h .nil)
set_option maxHeartbeats 4000000 in
theorem all_mk {l : PySem.W.OpenLaw} {w : World} {K : PySem.W.Frag} {h : Heap} {mg : Str → Option Value} {fa f0 f1 f2 f3 f4 f5 f6 f7 f8 f9 f10 f11 f12 f13 f14 f15 f16 f17 f18 f19 f20 f21 f22 f23 : Addr} (X : K.In h) (G : h.Ns mainGlobals mg) (hfa : mg "law" = some (.ref fa))
    {od0 an0 od1 an1 od2 an2 od3 an3 od4 an4 od5 an5 od6 an6 od7 an7 od8 an8 od9 an9 od10 an10 od11 an11 od12 an12 od13 an13 od14 an14 od15 an15 od16 an16 od17 an17 od18 an18 od19 an19 od20 an20 od21 an21 od22 an22 od23 an23 : Option Addr} {sl0 sl1 sl2 sl3 sl4 sl5 sl6 sl7 sl8 sl9 sl10 sl11 sl12 sl13 sl14 sl15 sl16 sl17 sl18 sl19 sl20 sl21 sl22 sl23 : Array (Option Value)} {oc0 kV0 dc0 pm0 ct0 cd0 oc1 kV1 dc1 pm1 ct1 cd1 oc2 kV2 dc2 pm2 ct2 cd2 oc3 kV3 dc3 pm3 ct3 cd3 oc4 kV4 dc4 pm4 ct4 cd4 oc5 kV5 dc5 pm5 ct5 cd5 oc6 kV6 dc6 pm6 ct6 cd6 oc7 kV7 dc7 pm7 ct7 cd7 oc8 kV8 dc8 pm8 ct8 cd8 oc9 kV9 dc9 pm9 ct9 cd9 oc10 kV10 dc10 pm10 ct10 cd10 oc11 kV11 dc11 pm11 ct11 cd11 oc12 kV12 dc12 pm12 ct12 cd12 oc13 kV13 dc13 pm13 ct13 cd13 oc14 kV14 dc14 pm14 ct14 cd14 oc15 kV15 dc15 pm15 ct15 cd15 oc16 kV16 dc16 pm16 ct16 cd16 oc17 kV17 dc17 pm17 ct17 cd17 oc18 kV18 dc18 pm18 ct18 cd18 oc19 kV19 dc19 pm19 ct19 cd19 oc20 kV20 dc20 pm20 ct20 cd20 oc21 kV21 dc21 pm21 ct21 cd21 oc22 kV22 dc22 pm22 ct22 cd22 oc23 kV23 dc23 pm23 ct23 cd23 : Value} {tk0 tk1 tk2 tk3 tk4 tk5 : Tok}
    (a0 : PySem.W.nsIn K mainGlobals "is_integer" = some (some (.ref f0))) (l0 : K.lookup f0 = some ⟨oc0, od0, .func (PySem.W.fnOf "is_integer" "is_integer" (defArgs s_is_integer) (defBody s_is_integer) (defScope s_is_integer) .none kV0 dc0 pm0 an0 cd0 ct0), sl0⟩) (c0 : PySem.W.codeIn K cd0 "is_integer" = true) (k0 : PySem.W.keepIn K (.ref f0) = true)
    (a1 : PySem.W.nsIn K mainGlobals "is_word" = some (some (.ref f1))) (l1 : K.lookup f1 = some ⟨oc1, od1, .func (PySem.W.fnOf "is_word" "is_word" (defArgs s_is_word) (defBody s_is_word) (defScope s_is_word) .none kV1 dc1 pm1 an1 cd1 ct1), sl1⟩) (c1 : PySem.W.codeIn K cd1 "is_word" = true) (k1 : PySem.W.keepIn K (.ref f1) = true)
    (a2 : PySem.W.nsIn K mainGlobals "is_pool" = some (some (.ref f2))) (l2 : K.lookup f2 = some ⟨oc2, od2, .func (PySem.W.fnOf "is_pool" "is_pool" (defArgs s_is_pool) (defBody s_is_pool) (defScope s_is_pool) .none kV2 dc2 pm2 an2 cd2 ct2), sl2⟩) (c2 : PySem.W.codeIn K cd2 "is_pool" = true) (k2 : PySem.W.keepIn K (.ref f2) = true)
    (a3 : PySem.W.nsIn K mainGlobals "is_share" = some (some (.ref f3))) (l3 : K.lookup f3 = some ⟨oc3, od3, .func (PySem.W.fnOf "is_share" "is_share" (defArgs s_is_share) (defBody s_is_share) (defScope s_is_share) .none kV3 dc3 pm3 an3 cd3 ct3), sl3⟩) (c3 : PySem.W.codeIn K cd3 "is_share" = true) (k3 : PySem.W.keepIn K (.ref f3) = true)
    (a4 : PySem.W.nsIn K mainGlobals "is_lot" = some (some (.ref f4))) (l4 : K.lookup f4 = some ⟨oc4, od4, .func (PySem.W.fnOf "is_lot" "is_lot" (defArgs s_is_lot) (defBody s_is_lot) (defScope s_is_lot) .none kV4 dc4 pm4 an4 cd4 ct4), sl4⟩) (c4 : PySem.W.codeIn K cd4 "is_lot" = true) (k4 : PySem.W.keepIn K (.ref f4) = true)
    (a5 : PySem.W.nsIn K mainGlobals "are_loads" = some (some (.ref f5))) (l5 : K.lookup f5 = some ⟨oc5, od5, .func (PySem.W.fnOf "are_loads" "are_loads" (defArgs s_are_loads) (defBody s_are_loads) (defScope s_are_loads) .none kV5 dc5 pm5 an5 cd5 ct5), sl5⟩) (c5 : PySem.W.codeIn K cd5 "are_loads" = true) (k5 : PySem.W.keepIn K (.ref f5) = true)
    (a6 : PySem.W.nsIn K mainGlobals "least_busy" = some (some (.ref f6))) (l6 : K.lookup f6 = some ⟨oc6, od6, .func (PySem.W.fnOf "least_busy" "least_busy" (defArgs s_least_busy) (defBody s_least_busy) (defScope s_least_busy) .none kV6 dc6 pm6 an6 cd6 ct6), sl6⟩) (c6 : PySem.W.codeIn K cd6 "least_busy" = true) (k6 : PySem.W.keepIn K (.ref f6) = true)
    (a7 : PySem.W.nsIn K mainGlobals "by_key" = some (some (.ref f7))) (l7 : K.lookup f7 = some ⟨oc7, od7, .func (PySem.W.fnOf "by_key" "by_key" (defArgs s_by_key) (defBody s_by_key) (defScope s_by_key) .none kV7 dc7 pm7 an7 cd7 ct7), sl7⟩) (c7 : PySem.W.codeIn K cd7 "by_key" = true) (k7 : PySem.W.keepIn K (.ref f7) = true)
    (a8 : PySem.W.nsIn K mainGlobals "check_lot" = some (some (.ref f8))) (l8 : K.lookup f8 = some ⟨oc8, od8, .func (PySem.W.fnOf "check_lot" "check_lot" (defArgs s_check_lot) (defBody s_check_lot) (defScope s_check_lot) .none kV8 dc8 pm8 an8 cd8 ct8), sl8⟩) (c8 : PySem.W.codeIn K cd8 "check_lot" = true) (k8 : PySem.W.keepIn K (.ref f8) = true)
    (a9 : PySem.W.nsIn K mainGlobals "score" = some (some (.ref f9))) (l9 : K.lookup f9 = some ⟨oc9, od9, .func (PySem.W.fnOf "score" "score" (defArgs s_score) (defBody s_score) (defScope s_score) .none kV9 dc9 pm9 an9 cd9 ct9), sl9⟩) (c9 : PySem.W.codeIn K cd9 "score" = true) (k9 : PySem.W.keepIn K (.ref f9) = true)
    (a10 : PySem.W.nsIn K mainGlobals "_law_deck" = some (some (.ref f10))) (l10 : K.lookup f10 = some ⟨oc10, od10, .func (PySem.W.fnOf "_law_deck" "_law_deck" (defArgs s__law_deck) (defBody s__law_deck) (defScope s__law_deck) .none kV10 dc10 pm10 an10 cd10 ct10), sl10⟩) (c10 : PySem.W.codeIn K cd10 "_law_deck" = true) (k10 : PySem.W.keepIn K (.ref f10) = true)
    (a11 : PySem.W.nsIn K mainGlobals "_law_draw" = some (some (.ref f11))) (l11 : K.lookup f11 = some ⟨oc11, od11, .func (PySem.W.fnOf "_law_draw" "_law_draw" (defArgs s__law_draw) (defBody s__law_draw) (defScope s__law_draw) .none kV11 dc11 pm11 an11 cd11 ct11), sl11⟩) (c11 : PySem.W.codeIn K cd11 "_law_draw" = true) (k11 : PySem.W.keepIn K (.ref f11) = true)
    (a12 : PySem.W.nsIn K mainGlobals "_law_pick" = some (some (.ref f12))) (l12 : K.lookup f12 = some ⟨oc12, od12, .func (PySem.W.fnOf "_law_pick" "_law_pick" (defArgs s__law_pick) (defBody s__law_pick) (defScope s__law_pick) .none kV12 dc12 pm12 an12 cd12 ct12), sl12⟩) (c12 : PySem.W.codeIn K cd12 "_law_pick" = true) (k12 : PySem.W.keepIn K (.ref f12) = true)
    (a13 : PySem.W.nsIn K mainGlobals "_law_score" = some (some (.ref f13))) (l13 : K.lookup f13 = some ⟨oc13, od13, .func (PySem.W.fnOf "_law_score" "_law_score" (defArgs s__law_score) (defBody s__law_score) (defScope s__law_score) .none kV13 dc13 pm13 an13 cd13 ct13), sl13⟩) (c13 : PySem.W.codeIn K cd13 "_law_score" = true) (k13 : PySem.W.keepIn K (.ref f13) = true)
    (a14 : PySem.W.nsIn K mainGlobals "_law_by_key" = some (some (.ref f14))) (l14 : K.lookup f14 = some ⟨oc14, od14, .func (PySem.W.fnOf "_law_by_key" "_law_by_key" (defArgs s__law_by_key) (defBody s__law_by_key) (defScope s__law_by_key) .none kV14 dc14 pm14 an14 cd14 ct14), sl14⟩) (c14 : PySem.W.codeIn K cd14 "_law_by_key" = true) (k14 : PySem.W.keepIn K (.ref f14) = true)
    (a15 : PySem.W.nsIn K mainGlobals "_law_least_busy" = some (some (.ref f15))) (l15 : K.lookup f15 = some ⟨oc15, od15, .func (PySem.W.fnOf "_law_least_busy" "_law_least_busy" (defArgs s__law_least_busy) (defBody s__law_least_busy) (defScope s__law_least_busy) .none kV15 dc15 pm15 an15 cd15 ct15), sl15⟩) (c15 : PySem.W.codeIn K cd15 "_law_least_busy" = true) (k15 : PySem.W.keepIn K (.ref f15) = true)
    (a16 : PySem.W.nsIn K mainGlobals "_law_word" = some (some (.ref f16))) (l16 : K.lookup f16 = some ⟨oc16, od16, .func (PySem.W.fnOf "_law_word" "_law_word" (defArgs s__law_word) (defBody s__law_word) (defScope s__law_word) .none kV16 dc16 pm16 an16 cd16 ct16), sl16⟩) (c16 : PySem.W.codeIn K cd16 "_law_word" = true) (k16 : PySem.W.keepIn K (.ref f16) = true)
    (a17 : PySem.W.nsIn K mainGlobals "_law_words" = some (some (.ref f17))) (l17 : K.lookup f17 = some ⟨oc17, od17, .func (PySem.W.fnOf "_law_words" "_law_words" (defArgs s__law_words) (defBody s__law_words) (defScope s__law_words) .none kV17 dc17 pm17 an17 cd17 ct17), sl17⟩) (c17 : PySem.W.codeIn K cd17 "_law_words" = true) (k17 : PySem.W.keepIn K (.ref f17) = true)
    (a18 : PySem.W.nsIn K mainGlobals "_law_twin_label" = some (some (.ref f18))) (l18 : K.lookup f18 = some ⟨oc18, od18, .func (PySem.W.fnOf "_law_twin_label" "_law_twin_label" (defArgs s__law_twin_label) (defBody s__law_twin_label) (defScope s__law_twin_label) .none kV18 dc18 pm18 an18 cd18 ct18), sl18⟩) (c18 : PySem.W.codeIn K cd18 "_law_twin_label" = true) (k18 : PySem.W.keepIn K (.ref f18) = true)
    (a19 : PySem.W.nsIn K mainGlobals "_law_drawn_pool" = some (some (.ref f19))) (l19 : K.lookup f19 = some ⟨oc19, od19, .func (PySem.W.fnOf "_law_drawn_pool" "_law_drawn_pool" (defArgs s__law_drawn_pool) (defBody s__law_drawn_pool) (defScope s__law_drawn_pool) .none kV19 dc19 pm19 an19 cd19 ct19), sl19⟩) (c19 : PySem.W.codeIn K cd19 "_law_drawn_pool" = true) (k19 : PySem.W.keepIn K (.ref f19) = true)
    (a20 : PySem.W.nsIn K mainGlobals "_law_drawn_lot" = some (some (.ref f20))) (l20 : K.lookup f20 = some ⟨oc20, od20, .func (PySem.W.fnOf "_law_drawn_lot" "_law_drawn_lot" (defArgs s__law_drawn_lot) (defBody s__law_drawn_lot) (defScope s__law_drawn_lot) .none kV20 dc20 pm20 an20 cd20 ct20), sl20⟩) (c20 : PySem.W.codeIn K cd20 "_law_drawn_lot" = true) (k20 : PySem.W.keepIn K (.ref f20) = true)
    (a21 : PySem.W.nsIn K mainGlobals "_law_drawn_busy" = some (some (.ref f21))) (l21 : K.lookup f21 = some ⟨oc21, od21, .func (PySem.W.fnOf "_law_drawn_busy" "_law_drawn_busy" (defArgs s__law_drawn_busy) (defBody s__law_drawn_busy) (defScope s__law_drawn_busy) .none kV21 dc21 pm21 an21 cd21 ct21), sl21⟩) (c21 : PySem.W.codeIn K cd21 "_law_drawn_busy" = true) (k21 : PySem.W.keepIn K (.ref f21) = true)
    (a22 : PySem.W.nsIn K mainGlobals "_law_are_changes_right" = some (some (.ref f22))) (l22 : K.lookup f22 = some ⟨oc22, od22, .func (PySem.W.fnOf "_law_are_changes_right" "_law_are_changes_right" (defArgs s__law_are_changes_right) (defBody s__law_are_changes_right) (defScope s__law_are_changes_right) .none kV22 dc22 pm22 an22 cd22 ct22), sl22⟩) (c22 : PySem.W.codeIn K cd22 "_law_are_changes_right" = true) (k22 : PySem.W.keepIn K (.ref f22) = true)
    (a23 : PySem.W.nsIn K mainGlobals "law" = some (some (.ref f23))) (l23 : K.lookup f23 = some ⟨oc23, od23, .func (PySem.W.fnOf "law" "law" (defArgs s_law) (defBody s_law) (defScope s_law) .none kV23 dc23 pm23 an23 cd23 ct23), sl23⟩) (c23 : PySem.W.codeIn K cd23 "law" = true) (k23 : PySem.W.keepIn K (.ref f23) = true)
    (z0 : PySem.W.nsIn K mainGlobals "len" = some none)
    (z1 : PySem.W.nsIn K mainGlobals "int" = some none)
    (z2 : PySem.W.nsIn K mainGlobals "str" = some none)
    (z3 : PySem.W.nsIn K mainGlobals "isinstance" = some none)
    (z4 : PySem.W.nsIn K mainGlobals "range" = some none)
    (z5 : PySem.W.nsIn K mainGlobals "tuple" = some none)
    (z6 : PySem.W.nsIn K mainGlobals "list" = some none)
    (z7 : PySem.W.nsIn K mainGlobals "max" = some none)
    (z8 : PySem.W.nsIn K mainGlobals "min" = some none)
    (z9 : PySem.W.nsIn K mainGlobals "repr" = some none)
    (z10 : PySem.W.nsIn K mainGlobals "bool" = some none)
    (z11 : PySem.W.nsIn K mainGlobals "all" = some none)
    (z12 : PySem.W.nsIn K mainGlobals "set" = some none)
    (z13 : PySem.W.nsIn K mainGlobals "sorted" = some none)
    (z14 : PySem.W.nsIn K mainGlobals "ord" = some none)
    (x0 : PySem.W.nsIn K mainGlobals "WORD_MOST" = some (some (.int 10 tk0)))
    (x1 : PySem.W.nsIn K mainGlobals "POOL_MOST" = some (some (.int 8 tk1)))
    (x2 : PySem.W.nsIn K mainGlobals "WEIGHT_MOST" = some (some (.int 100 tk2)))
    (x3 : PySem.W.nsIn K mainGlobals "SCORE_START" = some (some (.int 7 tk3)))
    (x4 : PySem.W.nsIn K mainGlobals "SCORE_FACTOR" = some (some (.int 251 tk4)))
    (x5 : PySem.W.nsIn K mainGlobals "SCORE_MODULUS" = some (some (.int 65521 tk5)))
    :
    ∃ fd : FuncData, (∀ (s : Shared) (v : Value), BindsTo s fd ⟨[v], []⟩ [("_law_script", v)]) ∧ ∀ base : Heap, K.In base → base.Ns mainGlobals mg → FnG l.prog w K mg base 7 fa fd ["_law_script"] (spLaw K) := by
  have e := hfa.symm.trans (PySem.W.mg_of X G a23)
  cases e
  have B : Blt mg := ⟨PySem.W.mg_none_of X G z0, PySem.W.mg_none_of X G z1, PySem.W.mg_none_of X G z2, PySem.W.mg_none_of X G z3, PySem.W.mg_none_of X G z4, PySem.W.mg_none_of X G z5, PySem.W.mg_none_of X G z6, PySem.W.mg_none_of X G z7, PySem.W.mg_none_of X G z8, PySem.W.mg_none_of X G z9, PySem.W.mg_none_of X G z10, PySem.W.mg_none_of X G z11, PySem.W.mg_none_of X G z12, PySem.W.mg_none_of X G z13, PySem.W.mg_none_of X G z14⟩
  have Cn : Con mg tk0 tk1 tk2 tk3 tk4 tk5 := ⟨B, PySem.W.mg_of X G x0, PySem.W.mg_of X G x1, PySem.W.mg_of X G x2, PySem.W.mg_of X G x3, PySem.W.mg_of X G x4, PySem.W.mg_of X G x5⟩
  have U0 := fun_mk (st := s_is_integer) l0 c0 k0
  have b0 := U0.binds (ps := ["thing"]) fun _ _ _ _ _ _ us hl => match us, hl with | [_], _ => rfl
  have F0 : Fn K mg "is_integer" s_is_integer ["thing"] _ _ := ⟨U0, b0, PySem.W.mg_of X G a0⟩
  have U1 := fun_mk (st := s_is_word) l1 c1 k1
  have b1 := U1.binds (ps := ["thing"]) fun _ _ _ _ _ _ us hl => match us, hl with | [_], _ => rfl
  have F1 : Fn K mg "is_word" s_is_word ["thing"] _ _ := ⟨U1, b1, PySem.W.mg_of X G a1⟩
  have U2 := fun_mk (st := s_is_pool) l2 c2 k2
  have b2 := U2.binds (ps := ["thing"]) fun _ _ _ _ _ _ us hl => match us, hl with | [_], _ => rfl
  have F2 : Fn K mg "is_pool" s_is_pool ["thing"] _ _ := ⟨U2, b2, PySem.W.mg_of X G a2⟩
  have U3 := fun_mk (st := s_is_share) l3 c3 k3
  have b3 := U3.binds (ps := ["thing"]) fun _ _ _ _ _ _ us hl => match us, hl with | [_], _ => rfl
  have F3 : Fn K mg "is_share" s_is_share ["thing"] _ _ := ⟨U3, b3, PySem.W.mg_of X G a3⟩
  have U4 := fun_mk (st := s_is_lot) l4 c4 k4
  have b4 := U4.binds (ps := ["pool", "thing"]) fun _ _ _ _ _ _ us hl => match us, hl with | [_, _], _ => rfl
  have F4 : Fn K mg "is_lot" s_is_lot ["pool", "thing"] _ _ := ⟨U4, b4, PySem.W.mg_of X G a4⟩
  have U5 := fun_mk (st := s_are_loads) l5 c5 k5
  have b5 := U5.binds (ps := ["pool", "thing"]) fun _ _ _ _ _ _ us hl => match us, hl with | [_, _], _ => rfl
  have F5 : Fn K mg "are_loads" s_are_loads ["pool", "thing"] _ _ := ⟨U5, b5, PySem.W.mg_of X G a5⟩
  have U6 := fun_mk (st := s_least_busy) l6 c6 k6
  have b6 := U6.binds (ps := ["pool", "lot", "busy"]) fun _ _ _ _ _ _ us hl => match us, hl with | [_, _, _], _ => rfl
  have F6 : Fn K mg "least_busy" s_least_busy ["pool", "lot", "busy"] _ _ := ⟨U6, b6, PySem.W.mg_of X G a6⟩
  have U7 := fun_mk (st := s_by_key) l7 c7 k7
  have b7 := U7.binds (ps := ["pool", "lot", "key"]) fun _ _ _ _ _ _ us hl => match us, hl with | [_, _, _], _ => rfl
  have F7 : Fn K mg "by_key" s_by_key ["pool", "lot", "key"] _ _ := ⟨U7, b7, PySem.W.mg_of X G a7⟩
  have U8 := fun_mk (st := s_check_lot) l8 c8 k8
  have b8 := U8.binds (ps := ["pool", "lot"]) fun _ _ _ _ _ _ us hl => match us, hl with | [_, _], _ => rfl
  have F8 : Fn K mg "check_lot" s_check_lot ["pool", "lot"] _ _ := ⟨U8, b8, PySem.W.mg_of X G a8⟩
  have U9 := fun_mk (st := s_score) l9 c9 k9
  have b9 := U9.binds (ps := ["key", "label"]) fun _ _ _ _ _ _ us hl => match us, hl with | [_, _], _ => rfl
  have F9 : Fn K mg "score" s_score ["key", "label"] _ _ := ⟨U9, b9, PySem.W.mg_of X G a9⟩
  have U10 := fun_mk (st := s__law_deck) l10 c10 k10
  have b10 := U10.binds (ps := ["_law_script"]) fun _ _ _ _ _ _ us hl => match us, hl with | [_], _ => rfl
  have F10 : Fn K mg "_law_deck" s__law_deck ["_law_script"] _ _ := ⟨U10, b10, PySem.W.mg_of X G a10⟩
  have U11 := fun_mk (st := s__law_draw) l11 c11 k11
  have b11 := U11.binds (ps := ["_law_deck_here", "_law_many"]) fun _ _ _ _ _ _ us hl => match us, hl with | [_, _], _ => rfl
  have F11 : Fn K mg "_law_draw" s__law_draw ["_law_deck_here", "_law_many"] _ _ := ⟨U11, b11, PySem.W.mg_of X G a11⟩
  have U12 := fun_mk (st := s__law_pick) l12 c12 k12
  have b12 := U12.binds (ps := ["_law_deck_here", "_law_some"]) fun _ _ _ _ _ _ us hl => match us, hl with | [_, _], _ => rfl
  have F12 : Fn K mg "_law_pick" s__law_pick ["_law_deck_here", "_law_some"] _ _ := ⟨U12, b12, PySem.W.mg_of X G a12⟩
  have U13 := fun_mk (st := s__law_score) l13 c13 k13
  have b13 := U13.binds (ps := ["_law_key", "_law_label"]) fun _ _ _ _ _ _ us hl => match us, hl with | [_, _], _ => rfl
  have F13 : Fn K mg "_law_score" s__law_score ["_law_key", "_law_label"] _ _ := ⟨U13, b13, PySem.W.mg_of X G a13⟩
  have U14 := fun_mk (st := s__law_by_key) l14 c14 k14
  have b14 := U14.binds (ps := ["_law_pool", "_law_lot", "_law_key"]) fun _ _ _ _ _ _ us hl => match us, hl with | [_, _, _], _ => rfl
  have F14 : Fn K mg "_law_by_key" s__law_by_key ["_law_pool", "_law_lot", "_law_key"] _ _ := ⟨U14, b14, PySem.W.mg_of X G a14⟩
  have U15 := fun_mk (st := s__law_least_busy) l15 c15 k15
  have b15 := U15.binds (ps := ["_law_pool", "_law_lot", "_law_busy"]) fun _ _ _ _ _ _ us hl => match us, hl with | [_, _, _], _ => rfl
  have F15 : Fn K mg "_law_least_busy" s__law_least_busy ["_law_pool", "_law_lot", "_law_busy"] _ _ := ⟨U15, b15, PySem.W.mg_of X G a15⟩
  have U16 := fun_mk (st := s__law_word) l16 c16 k16
  have b16 := U16.binds (ps := ["_law_deck_here"]) fun _ _ _ _ _ _ us hl => match us, hl with | [_], _ => rfl
  have F16 : Fn K mg "_law_word" s__law_word ["_law_deck_here"] _ _ := ⟨U16, b16, PySem.W.mg_of X G a16⟩
  have U17 := fun_mk (st := s__law_words) l17 c17 k17
  have b17 := U17.binds (ps := ["_law_deck_here", "_law_many"]) fun _ _ _ _ _ _ us hl => match us, hl with | [_, _], _ => rfl
  have F17 : Fn K mg "_law_words" s__law_words ["_law_deck_here", "_law_many"] _ _ := ⟨U17, b17, PySem.W.mg_of X G a17⟩
  have U18 := fun_mk (st := s__law_twin_label) l18 c18 k18
  have b18 := U18.binds (ps := ["_law_deck_here", "_law_label"]) fun _ _ _ _ _ _ us hl => match us, hl with | [_, _], _ => rfl
  have F18 : Fn K mg "_law_twin_label" s__law_twin_label ["_law_deck_here", "_law_label"] _ _ := ⟨U18, b18, PySem.W.mg_of X G a18⟩
  have U19 := fun_mk (st := s__law_drawn_pool) l19 c19 k19
  have b19 := U19.binds (ps := ["_law_deck_here"]) fun _ _ _ _ _ _ us hl => match us, hl with | [_], _ => rfl
  have F19 : Fn K mg "_law_drawn_pool" s__law_drawn_pool ["_law_deck_here"] _ _ := ⟨U19, b19, PySem.W.mg_of X G a19⟩
  have U20 := fun_mk (st := s__law_drawn_lot) l20 c20 k20
  have b20 := U20.binds (ps := ["_law_deck_here", "_law_many"]) fun _ _ _ _ _ _ us hl => match us, hl with | [_, _], _ => rfl
  have F20 : Fn K mg "_law_drawn_lot" s__law_drawn_lot ["_law_deck_here", "_law_many"] _ _ := ⟨U20, b20, PySem.W.mg_of X G a20⟩
  have U21 := fun_mk (st := s__law_drawn_busy) l21 c21 k21
  have b21 := U21.binds (ps := ["_law_deck_here", "_law_pool"]) fun _ _ _ _ _ _ us hl => match us, hl with | [_, _], _ => rfl
  have F21 : Fn K mg "_law_drawn_busy" s__law_drawn_busy ["_law_deck_here", "_law_pool"] _ _ := ⟨U21, b21, PySem.W.mg_of X G a21⟩
  have U22 := fun_mk (st := s__law_are_changes_right) l22 c22 k22
  have b22 := U22.binds (ps := ["_law_pool", "_law_lot", "_law_key", "_law_told"]) fun _ _ _ _ _ _ us hl => match us, hl with | [_, _, _, _], _ => rfl
  have F22 : Fn K mg "_law_are_changes_right" s__law_are_changes_right ["_law_pool", "_law_lot", "_law_key", "_law_told"] _ _ := ⟨U22, b22, PySem.W.mg_of X G a22⟩
  have U23 := fun_mk (st := s_law) l23 c23 k23
  have b23 := U23.binds (ps := ["_law_script"]) fun _ _ _ _ _ _ us hl => match us, hl with | [_], _ => rfl
  have F23 : Fn K mg "law" s_law ["_law_script"] _ _ := ⟨U23, b23, PySem.W.mg_of X G a23⟩
  have Kl : KwB K (PySem.W.fnOf "least_busy" "least_busy" (defArgs s_least_busy) (defBody s_least_busy) (defScope s_least_busy) .none kV6 dc6 pm6 an6 cd6 ct6) ["pool", "lot", "busy"] ["busy", "lot", "pool"] List.reverse List.reverse := ⟨fun s ws hl => match ws, hl with | [y0, y1, y2], _ => .of_eq rfl, fun _ r => vals_rev r⟩
  have Kb : KwB K (PySem.W.fnOf "by_key" "by_key" (defArgs s_by_key) (defBody s_by_key) (defScope s_by_key) .none kV7 dc7 pm7 an7 cd7 ct7) ["pool", "lot", "key"] ["key", "lot", "pool"] List.reverse List.reverse := ⟨fun s ws hl => match ws, hl with | [y0, y1, y2], _ => .of_eq rfl, fun _ r => vals_rev r⟩
  have Ks : KwB K (PySem.W.fnOf "score" "score" (defArgs s_score) (defBody s_score) (defScope s_score) .none kV9 dc9 pm9 an9 cd9 ct9) ["key", "label"] ["label", "key"] List.reverse List.reverse := ⟨fun s ws hl => match ws, hl with | [y0, y1], _ => .of_eq rfl, fun _ r => vals_rev r⟩
  refine ⟨PySem.W.fnOf "law" "law" (defArgs s_law) (defBody s_law) (defScope s_law) .none kV23 dc23 pm23 an23 cd23 ct23, fun s v => .of_eq rfl, fun base _ _ => ?_⟩
  have Gshare : FnOk l.prog w K mg base CX0 _ _ _ _ _ := ok_is_share F3 Cn F1 F0
  have Gpool : FnOk l.prog w K mg base CX0 _ _ _ _ _ := ok_is_pool F2 Cn F3 Gshare
  have Gloads : FnOk l.prog w K mg base CX0 _ _ _ _ _ := ok_loads F5 B F0
  have Glot : FnOk l.prog w K mg base CX0 _ _ _ _ _ := ok_lot F4 B F0
  have Gcheck : FnOk l.prog w K mg base CX0 _ _ _ _ _ := ok_check F8 B F2 Gpool F4 Glot
  have Gscore : FnOk l.prog w K mg base CX0 _ _ _ _ _ := ok_score F9 Cn F1
  have Glb : FnOk l.prog w K mg base CX0 _ _ _ _ _ := ok_lb F6 B F8 Gcheck F5 Gloads
  have Gbk : FnOk l.prog w K mg base CX0 _ _ _ _ _ := ok_bk F7 B F8 Gcheck F9 Gscore
  have Glscore : FnOk l.prog w K mg base CX0 _ _ _ _ _ := ok_lscore F13 B
  have Gllb : FnOk l.prog w K mg base CX0 _ _ _ _ _ := ok_llb F15 B
  have Glbk : FnOk l.prog w K mg base CX0 _ _ _ _ _ := ok_lbk F14 B F13 Glscore
  have Gdeck : FnOk l.prog w K mg base CX0 _ _ _ _ _ := ok_deck F10 B
  have Gdraw : FnOk l.prog w K mg base CX0 _ _ _ _ _ := ok_draw F11 B
  have Gpick : FnOk l.prog w K mg base CX0 _ _ _ _ _ := ok_pick F12 B F11
  have Gmw : FnOk l.prog w K mg base CX0 _ _ _ _ _ := ok_mkword F16 B F12 Gpick
  have Gmws : FnOk l.prog w K mg base CX0 _ _ _ _ _ := ok_mkwords F17 B F16 Gmw
  have Gtwin : FnOk l.prog w K mg base CX0 _ _ _ _ _ := ok_twin F18 B F11 Gdraw
  have Gmk : FnOk l.prog w K mg base CX0 _ _ _ _ _ := ok_mkpool F19 B F12 Gpick F11 Gdraw F17 Gmws F18 Gtwin
  have Gmlot : FnOk l.prog w K mg base CX0 _ _ _ _ _ := ok_mklot F20 B F11 Gdraw
  have Gmbusy : FnOk l.prog w K mg base CX0 _ _ _ _ _ := ok_mkbusy F21 B F11 Gdraw
  have Gch : FnG l.prog w K mg base _ _ _ _ _ := ok_changes F22 B F7 Gbk F14 Glbk
  exact ok_law F23 Cn F10 Gdeck F19 Gmk F2 Gpool F20 Gmlot F21 Gmbusy F16 Gmw F6 Glb Kl F15 Gllb F7 Gbk Kb F14 Glbk F9 Gscore Ks F13 Glscore F22 Gch
end Ag

end
/-! ## Tail -/
open PySem PySem.W PyProof.Rows
set_option maxRecDepth 100000 in
set_option maxHeartbeats 0 in
theorem PySem.Challenge.cw_answergate_k20_whole_least_busy_and_by_k_holds : PySem.Challenge.rw_answergate_k20_whole_least_busy_and_by_k.Holds := by
  w_on; o_law; k_head; (case hw => w_witness2)
  k_fill
  refine Ag.walkG (l := PySem.Challenge.rw_answergate_k20_whole_least_busy_and_by_k) (n := 63) (k := 7) (x := "_law_script") (sp := Ag.spLaw) rfl (by decide) rfl ⟨rfl, by decide, by decide⟩ (fun w h Y => PySem.W.kIn_of Y) ?F (fun K H a ns hl hS => ⟨a, ns, rfl, hS, hl, fun _ => rfl⟩)
  case F =>
    intro w mg fa h KX G hmg
    refine' Ag.all_mk KX G hmg ?ya0 ?yl0 ?yc0 ?yk0 ?ya1 ?yl1 ?yc1 ?yk1 ?ya2 ?yl2 ?yc2 ?yk2 ?ya3 ?yl3 ?yc3 ?yk3 ?ya4 ?yl4 ?yc4 ?yk4 ?ya5 ?yl5 ?yc5 ?yk5 ?ya6 ?yl6 ?yc6 ?yk6 ?ya7 ?yl7 ?yc7 ?yk7 ?ya8 ?yl8 ?yc8 ?yk8 ?ya9 ?yl9 ?yc9 ?yk9 ?ya10 ?yl10 ?yc10 ?yk10 ?ya11 ?yl11 ?yc11 ?yk11 ?ya12 ?yl12 ?yc12 ?yk12 ?ya13 ?yl13 ?yc13 ?yk13 ?ya14 ?yl14 ?yc14 ?yk14 ?ya15 ?yl15 ?yc15 ?yk15 ?ya16 ?yl16 ?yc16 ?yk16 ?ya17 ?yl17 ?yc17 ?yk17 ?ya18 ?yl18 ?yc18 ?yk18 ?ya19 ?yl19 ?yc19 ?yk19 ?ya20 ?yl20 ?yc20 ?yk20 ?ya21 ?yl21 ?yc21 ?yk21 ?ya22 ?yl22 ?yc22 ?yk22 ?ya23 ?yl23 ?yc23 ?yk23 ?yz0 ?yz1 ?yz2 ?yz3 ?yz4 ?yz5 ?yz6 ?yz7 ?yz8 ?yz9 ?yz10 ?yz11 ?yz12 ?yz13 ?yz14 ?yx0 ?yx1 ?yx2 ?yx3 ?yx4 ?yx5
    (case ya0 => k_is); (case yl0 => k_is); (case yc0 => k_is); (case yk0 => k_is)
    (case ya1 => k_is); (case yl1 => k_is); (case yc1 => k_is); (case yk1 => k_is)
    (case ya2 => k_is); (case yl2 => k_is); (case yc2 => k_is); (case yk2 => k_is)
    (case ya3 => k_is); (case yl3 => k_is); (case yc3 => k_is); (case yk3 => k_is)
    (case ya4 => k_is); (case yl4 => k_is); (case yc4 => k_is); (case yk4 => k_is)
    (case ya5 => k_is); (case yl5 => k_is); (case yc5 => k_is); (case yk5 => k_is)
    (case ya6 => k_is); (case yl6 => k_is); (case yc6 => k_is); (case yk6 => k_is)
    (case ya7 => k_is); (case yl7 => k_is); (case yc7 => k_is); (case yk7 => k_is)
    (case ya8 => k_is); (case yl8 => k_is); (case yc8 => k_is); (case yk8 => k_is)
    (case ya9 => k_is); (case yl9 => k_is); (case yc9 => k_is); (case yk9 => k_is)
    (case ya10 => k_is); (case yl10 => k_is); (case yc10 => k_is); (case yk10 => k_is)
    (case ya11 => k_is); (case yl11 => k_is); (case yc11 => k_is); (case yk11 => k_is)
    (case ya12 => k_is); (case yl12 => k_is); (case yc12 => k_is); (case yk12 => k_is)
    (case ya13 => k_is); (case yl13 => k_is); (case yc13 => k_is); (case yk13 => k_is)
    (case ya14 => k_is); (case yl14 => k_is); (case yc14 => k_is); (case yk14 => k_is)
    (case ya15 => k_is); (case yl15 => k_is); (case yc15 => k_is); (case yk15 => k_is)
    (case ya16 => k_is); (case yl16 => k_is); (case yc16 => k_is); (case yk16 => k_is)
    (case ya17 => k_is); (case yl17 => k_is); (case yc17 => k_is); (case yk17 => k_is)
    (case ya18 => k_is); (case yl18 => k_is); (case yc18 => k_is); (case yk18 => k_is)
    (case ya19 => k_is); (case yl19 => k_is); (case yc19 => k_is); (case yk19 => k_is)
    (case ya20 => k_is); (case yl20 => k_is); (case yc20 => k_is); (case yk20 => k_is)
    (case ya21 => k_is); (case yl21 => k_is); (case yc21 => k_is); (case yk21 => k_is)
    (case ya22 => k_is); (case yl22 => k_is); (case yc22 => k_is); (case yk22 => k_is)
    (case ya23 => k_is); (case yl23 => k_is); (case yc23 => k_is); (case yk23 => k_is)
    (case yz0 => k_is); (case yz1 => k_is); (case yz2 => k_is); (case yz3 => k_is); (case yz4 => k_is); (case yz5 => k_is); (case yz6 => k_is); (case yz7 => k_is); (case yz8 => k_is); (case yz9 => k_is); (case yz10 => k_is); (case yz11 => k_is); (case yz12 => k_is); (case yz13 => k_is); (case yz14 => k_is)
    (case yx0 => k_is); (case yx1 => k_is); (case yx2 => k_is); (case yx3 => k_is); (case yx4 => k_is); (case yx5 => k_is)

