import PyProof.Rows.All
import Wide.All
import OpenK.AllK
import Wide.FinOn
import HandS.ForMost
import HandS.IsInst
import HandS.FStr
import HandS.StrMore
import HandS.Style
import HandS.SortInts
import HandS.Wide
import HandS.TupAny
import HandS.TupMul
import PyProof.StrBlock2
import PyProof.ReprRoads
import PyProof.ReprText
import HandS.Codes
import HandS.More
import HandS.Zip
import HandS.Walk
import PyProof.Draws
import PyProof.EnumFor
import PyProof.EnumMake
import PyProof.ListStr
import HandS.Conv
import PyProof.P3In
import PyProof.ReprBulk
import PyProof.EqAt
import PyProof.EqKinds
import PyProof.FactsAll.subtypes_3
import PyProof.FactsAll.subtypes_4
import PyProof.FactsAll.dict_1
import HandS.Steps
import HandS.Dict
import HandS.Flow
import PyProof.Rows.IntBool
import KE.KStrOpen
import HandS.Strs
import HandS.SetFor
import PyProof.SetRoads
import PySem.Challenge.RW_answergate_k06_any_values_as_houses
set_option Elab.async false
/-! ## Base0 -/
section
set_option linter.all false
set_option maxRecDepth 100000
namespace Ag
open PySem PySem.Spec PyProof.Rows L2
/-! ### a def's promise where it is known that no repr runs around the call -/
structure FnG (P : Program) (w : World) (K : PySem.W.Frag) (mg : Str → Option Value) (base : Heap) (k : Nat) (f : Addr) (fd : FuncData) (ps : List Str) (sp : Sp) : Prop where
  len : ∀ vs H Q E, sp vs H Q E → vs.length = ps.length
  run : ∀ (A : Around) (outer : List Env) (s : Shared) (H : Hp) (args : Args) (us : List Value) (vs : List V) (Q : VK) (E : XK), Room k A → A.guards = some [] →
    Env0 P w K mg base A outer s H → BindsTo s fd args (ps.zip us) → Vals vs us → sp vs H Q E → codeAny (model P w) A (.call (.ref f) args) (CR CX0 outer P w H s Q E) s
theorem FnG.of {P : Program} {w : World} {K : PySem.W.Frag} {mg : Str → Option Value} {base : Heap} {k : Nat} {f : Addr} {fd : FuncData} {ps : List Str} {sp : Sp} (F : FnOk P w K mg base CX0 k f fd ps sp) :
    FnG P w K mg base k f fd ps sp := ⟨F.len, fun A outer s H args us vs Q E hr _ => F.run A outer s H args us vs Q E hr⟩
theorem g_deeper {A : Around} {env : Env} (h : A.guards = some []) : (A.deeper env).guards = some [] := by
  first | exact h | (simp [Around.deeper, h])
section
variable {P : Program} {w : World} {K : PySem.W.Frag} {mg : Str → Option Value} {base : Heap}
theorem okG {x qual : Str} {st : Stmt} {f : Addr} {fd : FuncData} {N ps : List Str} {k : Nat} {sp : Sp} (F : Fun K x qual st f fd) (S : FnScope N ps (defScope st))
    (len : ∀ vs H Q E, sp vs H Q E → vs.length = ps.length)
    (hbody : ∀ (cdv : Value) (A : Around) (outer : List Env) (s : Shared) (H : Hp) (vs : List V) (Q : VK) (E : XK), Room k (A.deeper (envOfC qual (defScope st) s.heap.objs.size f cdv)) →
      (A.deeper (envOfC qual (defScope st) s.heap.objs.size f cdv)).guards = some [] → sp vs H Q E →
      ∃ t, PSs (cxOf CX0 P w K mg base N qual (defScope st) f cdv A outer s H E).nox (defBody st) t ∧ t { nx := fun _ H' => Q .non H', rt := Q } (start N vs) H) :
    FnG P w K mg base (k + 1) f fd ps sp := by
  obtain ⟨oc, od, kV, doc, pm, an, cdv, ct, osl, rfl, lk, hcd⟩ := F.ex
  refine ⟨len, ?_⟩
  intro A outer s H args us vs Q E hr hg env0 hb rel hsp
  have hlen := len vs H Q E hsp
  have below : ∀ b o, base.get? b = some o → s.heap.get? b = some o := fun b o e => (env0.bs b o e).1
  have KX : K.In s.heap := env0.mod.kin.keeps below
  have noLim : s.heap.NoLimit := env0.mod.nolimit.keeps below
  have kinds : ∀ y ∈ ps.zip us, (defScope st).names.lookup y.1 = some .local ∨ ((defScope st).names.lookup y.1 = some .cell ∧ ((cellsFrom (s.heap.objs.size + 1) (defScope st).names []).lookup y.1).isSome = true) := by
    rintro ⟨n, v⟩ hy
    exact (S.par n (List.of_mem_zip hy).1).imp id fun q => ⟨q, PySem.W.cellsFrom_some _ _ _ (.inl q)⟩
  refine codeAny_call_function hr.depth (KX f _ lk) rfl S.co S.gen rfl (PySem.W.codeRec_of KX hcd) (hb _ _ _ _ (wpAny_newFunctionEnv_cells S.kind kinds ?_))
  intro env he s1 x
  subst he
  refine ⟨noLim.keeps x.toInCall.keep, codeAny_func ?_⟩
  obtain ⟨t, ht, hq⟩ := hbody cdv A outer s H vs Q E (hr.deeper _) (g_deeper hg) hsp
  have I := inv_start (CX := CX0) (E := E) S hr.hd env0 hlen rel x
  refine wpAny_mono (ht.nox.run [] s1 (start N vs) H _ I hq) (fun fl s' hs => ?_) (fun e s' hs => hs)
  cases fl with
  | brk => exact hs.elim fun _ z => z.elim fun _ z => z.2.elim
  | cont => exact hs.elim fun _ z => z.elim fun _ z => z.2.elim
  | next =>
    obtain ⟨σ', H', J, q⟩ := hs
    exact ⟨.non, H', J.os, J.bare, J.base, J.hok, rfl, q⟩
  | ret u =>
    obtain ⟨v, σ', H', J, rv, q⟩ := hs
    exact ⟨v, H', J.os, J.bare, J.base, J.hok, rv, q⟩
end
section
variable {X : Cx} {k : Nat} {f : Addr} {fd : FuncData} {ps : List Str} {sp : Sp} {x : Str} {p pos : Pos} {e : Expr} {es : List Expr} {t : TA}
theorem run_G {pins : List (Addr × Obj)} {σ : L2.St} {H : Hp} {s : Shared} {Q : VK} {us : List Value} {vs : List V} {args : Args} (F : FnG X.prog X.w X.K X.mg X.base k f fd ps sp) (hr : Room k X.A) (hG : X.A.guards = some [])
    (I : Inv X pins σ H s) (hb : BindsTo s fd args (ps.zip us)) (r : Vals vs us) (h : sp vs H Q E0) : codeAny (model X.prog X.w) X.A (.call (.ref f) args) (fun r s' => ∃ u, r = .ok (.ret u) ∧ EP X pins σ Q u s') s := by
  refine codeAny_mono (F.run X.A X.stack s H args us vs Q E0 hr hG I.env0 hb r h) ?_
  intro r s' hq
  match r, hq with
  | .error e, hq => exact hq.elim
  | .ok (.ret u), hq => exact ⟨u, rfl, I.after hq⟩
/-- f(e, ..) -/
theorem pe_callG (F : FnG X.prog X.w X.K X.mg X.base k f fd ps sp) (hr : Room k X.A) (hG : X.A.guards = some []) (hg : Gl X x) (hm : X.mg x = some (.ref f)) (hk : PySem.W.keepIn X.K (.ref f) = true) (hb : Binds X.K fd ps [])
    (ha : PA X (e :: es) t) (hdb : (x == ("__debug__" : Str)) = false := by decide) (he : starEach (e :: es) X.env = (false, eval e X.env) :: starEach es X.env := by rfl) (hpl : (backTo pos (starEach es X.env)).any (·.1) = false := by rfl) :
    PE X (.Call (.Name x p) (e :: es) [] pos) (tCall sp [] E0 t) := by
  constructor
  intro pins s σ H Q I h
  refine wpAny_Call_Name_kw (ld_glob I hg hm (PySem.W.callWith_K (h₀ := X.base) I.ok.mod.kin hk (thn (ha.run pos pins s σ H _ I h) ?_) he hpl) hdb)
  rintro us s1 ⟨vs, H1, I1, r, q⟩
  rw [List.append_nil] at q
  have hl : us.length = ps.length := by rw [← r.length]; exact F.len _ _ _ _ q
  have z := hb s1 us I1.kIn (by rw [List.append_nil]; exact hl)
  rw [List.append_nil] at z
  refine ⟨I1.kIn, ?_⟩
  show wpAny _ _ (call (.ref f) us) _ _ _
  refine wpAny_call (codeAny_mono (run_G F hr hG I1 z r q) ?_)
  rintro r s' ⟨u, rfl, z⟩
  exact z
/-- f(k = e, ..), keywords alone -/
structure KwB (K : PySem.W.Frag) (fd : FuncData) (ps ks : List Str) (gv : List Value → List Value) (gV : List V → List V) : Prop where
  to : ∀ (s : Shared) (ws : List Value), ws.length = ks.length → BindsTo s fd ⟨[], ks.zip ws⟩ (ps.zip (gv ws))
  rel : ∀ {zs : List V} {ws : List Value}, zs.length = ks.length → Vals zs ws → Vals (gV zs) (gv ws)
def tCallKw (sp : Sp) (n : Nat) (gV : List V → List V) (t : TA) : TE := fun σ H Q => t σ H fun zs H2 => zs.length = n ∧ sp (gV zs) H2 Q E0
variable {ks : List Str} {gv : List Value → List Value} {gV : List V → List V} {kws : List Keyword}
theorem pe_callKwG (F : FnG X.prog X.w X.K X.mg X.base k f fd ps sp) (hr : Room k X.A) (hG : X.A.guards = some []) (hg : Gl X x) (hm : X.mg x = some (.ref f)) (hk : PySem.W.keepIn X.K (.ref f) = true) (hb : KwB X.K fd ps ks gv gV)
    (ha : PK X kws t) (hall : (backToKw pos (keywordEach kws X.env)).all (·.1.isSome) = true := by rfl) (hks : (backToKw pos (keywordEach kws X.env)).filterMap (·.1) = ks := by rfl) (hdb : (x == ("__debug__" : Str)) = false := by decide)
    (hpl : ((backTo pos (starEach [] X.env)).any (·.1) || (backToKw pos (keywordEach kws X.env)).any (·.1.isNone)) = false := by rfl) : PE X (.Call (.Name x p) [] kws pos) (tCallKw sp ks.length gV t) := by
  constructor
  intro pins s σ H Q I h
  refine wpAny_Call_Name_kw (ld_glob I hg hm (PySem.W.callWith_KW0 (h₀ := X.base) I.ok.mod.kin hk hall (thn (ha.run pos pins s σ H _ I h) ?_) hpl) hdb)
  rintro ws s2 ⟨zs, H2, I2, rz, l, q⟩
  refine ⟨I2.kIn, ?_⟩
  rw [hks]
  refine wpAny_call (codeAny_mono (run_G (args := ⟨[], ks.zip ws⟩) F hr hG I2 (hb.to s2 ws (by rw [← rz.length]; exact l)) (hb.rel l rz) q) ?_)
  rintro r s' ⟨u, rfl, z⟩
  exact z
/-! ### repr of data -/
theorem call_repr_data (hu : X.A.units + 66 < cLine) (hG : X.A.guards = some []) : CallR X (.builtin "repr") (fun xs H Q => ∃ x d, xs = [x] ∧ Dp X.K H x d ∧ d.showable = true ∧ d.hasDict = false ∧ d.depth ≤ 64 ∧ d.shown.length ≤ sizeLine ∧ Q (.str d.shown) H) := by
  intro pins s σ H vs us Q I r h
  obtain ⟨x, d, rfl, hd, h1, h2, h3, h4, q⟩ := h
  obtain ⟨u, rfl, ru⟩ := vals1 r
  cases x with
  | ref a =>
    obtain ⟨as, rd⟩ := Dp.reads I d (.ref a) u hd ru
    obtain rfl : u = Value.ref a := ru
    refine repr_of_reads' rd h1 (fun z => by rw [h2] at z; cases z) hG (by omega) (fun _ _ e => e) (fun h' u tk kp => ?_) h4
    exact ⟨.str d.shown, H, I.kept kp, ⟨_, rfl⟩, q⟩
  | non =>
    cases hd
    obtain rfl : u = Value.none := ru
    exact PySem.P.repr_of_none ⟨.str _, H, I.tok _, ⟨_, rfl⟩, by rw [PyData.shown_none] at q; exact q⟩
  | bl b =>
    cases hd
    obtain rfl : u = Value.bool b := ru
    exact PySem.P.repr_of_bool ⟨.str _, H, I.tok _, ⟨_, rfl⟩, by rw [PyData.shown_bool] at q; exact q⟩
  | int i =>
    cases hd
    obtain ⟨t, rfl⟩ := ru
    exact PySem.P.repr_of_int (by simpa [PyData.showable] using h1) ⟨.str _, H, I.tok _, ⟨_, rfl⟩, by rw [PyData.shown_int] at q; exact q⟩
  | str z =>
    cases hd
    obtain ⟨t, rfl⟩ := ru
    rw [PyData.shown_str] at q h4
    exact PySem.P.repr_of_str ⟨.str _, H, I.tok _, ⟨_, rfl⟩, q⟩ h4
  | byt b => cases hd
  | flt b => cases hd
  | ty n => cases hd
end
end Ag

end
/-! ## Math1 -/
section
set_option linter.all false
namespace Ag
open PySem
/-! ### decimal texts -/
abbrev numL := TL.numL
abbrev digitsVal := NumText.digitsVal
def plainC (c : Nat) : Bool := decide (32 ≤ c) && decide (c ≤ 126)
def digC (c : Nat) : Bool := decide (48 ≤ c) && decide (c ≤ 57)
def plainL (l : List Nat) : Bool := l.all plainC
def isDec (l : List Nat) (m : Nat) : Bool := decide (numL (digitsVal l) = l) && decide (digitsVal l ≤ m)
theorem dv_snoc (l : List Nat) (c : Nat) : digitsVal (l ++ [c]) = digitsVal l * 10 + (c - 48) := by
  show List.foldl _ 0 (l ++ [c]) = _
  rw [List.foldl_append]
  rfl
theorem isDec_iff {l : List Nat} {m : Nat} : isDec l m = true ↔ ∃ k, k ≤ m ∧ l = numL k := by
  unfold isDec
  rw [Bool.and_eq_true, decide_eq_true_eq, decide_eq_true_eq]
  constructor
  · rintro ⟨a, b⟩
    exact ⟨_, b, a.symm⟩
  · rintro ⟨k, hk, rfl⟩
    have e : digitsVal (numL k) = k := TL.numL_val k
    rw [e]
    exact ⟨rfl, hk⟩
theorem numL_all (k : Nat) : ∀ c ∈ numL k, 48 ≤ c ∧ c ≤ 57 := TL.numL_digits k
theorem numL_ne (k : Nat) : numL k ≠ [] := TL.numL_ne k
theorem numL_val (k : Nat) : digitsVal (numL k) = k := TL.numL_val k
theorem numL_zero_head : ∀ (k : Nat) (l : List Nat), numL k = 48 :: l → k = 0 := by
  intro k
  induction k using Nat.strongRecOn with
  | ind k ih =>
    intro l h
    by_cases hk : k < 10
    · have e : numL k = [48 + k] := TL.numL_lt hk
      rw [e] at h
      injection h with h1 h2
      omega
    · have e : numL k = numL (k / 10) ++ [48 + k % 10] := TL.numL_step (by omega)
      rw [e] at h
      have hne := numL_ne (k / 10)
      cases hq : numL (k / 10) with
      | nil => exact absurd hq hne
      | cons d r =>
        rw [hq] at h
        injection h with h1 h2
        subst h1
        have z := ih (k / 10) (by omega) r hq
        omega
/-- one more digit -/
theorem isDec_snoc {s : List Nat} {c m : Nat} (hs : s = [] ∨ ∃ k, s = numL k) :
    isDec (s ++ [c]) m = (digC c && decide (s ≠ [48]) && decide (digitsVal (s ++ [c]) ≤ m)) := by
  rw [Bool.eq_iff_iff, isDec_iff]
  simp only [Bool.and_eq_true, decide_eq_true_eq, digC]
  constructor
  · rintro ⟨k, hk, e⟩
    have hc : 48 ≤ c ∧ c ≤ 57 := numL_all k c (by rw [← e]; simp)
    refine ⟨⟨hc, ?_⟩, ?_⟩
    · rintro rfl
      have z := numL_zero_head k [c] e.symm
      subst z
      have e2 : numL 0 = [48] := TL.numL_lt (by decide)
      rw [e2] at e
      simp at e
    · rw [e, numL_val]
      exact hk
  · rintro ⟨⟨hc, hne⟩, hv⟩
    refine ⟨digitsVal (s ++ [c]), hv, ?_⟩
    rw [dv_snoc]
    rcases hs with rfl | ⟨k, rfl⟩
    · show [c] = numL (0 * 10 + (c - 48))
      have e : numL (0 * 10 + (c - 48)) = [48 + (0 * 10 + (c - 48))] := TL.numL_lt (by omega)
      rw [e]
      congr 1
      omega
    · rw [numL_val]
      have hk : k ≠ 0 := by
        rintro rfl
        exact hne (TL.numL_lt (by decide))
      have e : numL (k * 10 + (c - 48)) = numL ((k * 10 + (c - 48)) / 10) ++ [48 + (k * 10 + (c - 48)) % 10] := TL.numL_step (by omega)
      rw [e, show (k * 10 + (c - 48)) / 10 = k by omega, show 48 + (k * 10 + (c - 48)) % 10 = c by omega]
theorem isDec_nil (m : Nat) : isDec [] m = false := by
  cases h : isDec [] m with
  | false => rfl
  | true =>
    obtain ⟨k, _, e⟩ := isDec_iff.mp h
    exact absurd e.symm (numL_ne k)
theorem numL_len3 {k : Nat} (h : k ≤ 200) : (numL k).length ≤ 3 := TL.numL_len (by decide) (by omega)
/-! ### reading, sign by sign -/
inductive Out where
  | read (ts : List (List Nat)) (r : List Nat)
  | wrong (ts : List (List Nat)) (k : Nat)
  deriving DecidableEq
def Out.pre (ts : List (List Nat)) (i : Nat) : Out → Out
  | .read us r => .read (ts ++ us) r
  | .wrong us k => .wrong (ts ++ us) (i + k)
theorem Out.pre_pre (ts us : List (List Nat)) (i j : Nat) (o : Out) : (o.pre us j).pre ts i = o.pre (ts ++ us) (i + j) := by
  cases o <;> simp [Out.pre, Nat.add_assoc]
theorem Out.pre_nil (o : Out) : o.pre [] 0 = o := by cases o <;> simp [Out.pre]
def glue (s : List Nat) : Option (List Nat) → List Nat
  | none => s
  | some t => s ++ 58 :: t
/-- one sign: none if it is wrong; else the text that is complete, if there is one, and the next state -/
def stp (s : List Nat) (t : Option (List Nat)) (c : Nat) : Option (Option (List Nat) × List Nat × Option (List Nat)) :=
  match t with
  | none => if c = 58 ∧ s ≠ [] then some (none, s, some []) else if isDec (s ++ [c]) 200 = true then some (none, s ++ [c], none) else none
  | some t => if t.length < digitsVal s then (if plainC c = true then some (none, s, some (t ++ [c])) else none) else if c = 44 then some (some t, [], none) else none
def lr (s : List Nat) (t : Option (List Nat)) : List Nat → Out
  | [] => .read [] (glue s t)
  | c :: cs => match stp s t c with
    | none => .wrong [] 0
    | some (o, s', t') => (lr s' t' cs).pre o.toList 1
/-- states that can be -/
def Vd (s : List Nat) : Option (List Nat) → Prop
  | none => s = [] ∨ ∃ k, k ≤ 200 ∧ s = numL k
  | some t => (∃ k, k ≤ 200 ∧ s = numL k ∧ t.length ≤ k) ∧ plainL t = true
theorem plainL_snoc {t : List Nat} {c : Nat} : plainL (t ++ [c]) = (plainL t && plainC c) := by
  simp [plainL, List.all_append]
theorem Vd.step {s : List Nat} {t : Option (List Nat)} {c : Nat} (v : Vd s t) {o : Option (List Nat)} {s' : List Nat} {t' : Option (List Nat)} (h : stp s t c = some (o, s', t')) : Vd s' t' := by
  cases t with
  | none =>
    simp only [stp] at h
    split at h
    · rename_i q
      cases h
      rcases v with rfl | ⟨k, hk, e⟩
      · exact absurd rfl q.2
      · exact ⟨⟨k, hk, e, Nat.zero_le _⟩, rfl⟩
    · split at h
      · rename_i q
        cases h
        exact .inr (isDec_iff.mp q)
      · cases h
  | some t =>
    simp only [stp] at h
    obtain ⟨⟨k, hk, e, hl⟩, hp⟩ := v
    split at h
    · rename_i q
      split at h
      · rename_i hc
        cases h
        refine ⟨⟨k, hk, e, ?_⟩, by rw [plainL_snoc, hp, hc]; rfl⟩
        rw [e, numL_val] at q
        simp
        omega
      · cases h
    · split at h
      · cases h
        exact .inl rfl
      · cases h
/-- the state of a rest -/
def spS (r : List Nat) : List Nat := match TL.par [58] [] r with | some (p, _) => p | none => r
def spT (r : List Nat) : Option (List Nat) := match TL.par [58] [] r with | some (_, q) => some q | none => none
theorem colon_free {k : Nat} : 58 ∉ numL k := TL.numL_free (.inr (by decide))
theorem Vd.free {s : List Nat} {t : Option (List Nat)} (v : Vd s t) : 58 ∉ s := by
  cases t with
  | none =>
    rcases v with rfl | ⟨k, _, rfl⟩
    · exact List.not_mem_nil
    · exact colon_free
  | some t =>
    obtain ⟨⟨k, _, rfl, _⟩, _⟩ := v
    exact colon_free
theorem par_glue {s : List Nat} {t : Option (List Nat)} (h : 58 ∉ s) : TL.par [58] [] (glue s t) = t.map fun t => (s, t) := by
  cases t with
  | none => exact SX.par_head_none h
  | some t => exact SX.par_head t h
theorem sp_glue {s : List Nat} {t : Option (List Nat)} (v : Vd s t) : spS (glue s t) = s ∧ spT (glue s t) = t := by
  unfold spS spT
  rw [par_glue v.free]
  cases t <;> exact ⟨rfl, rfl⟩
/-- reading leads to a rest -/
theorem lr_rest : ∀ (l : List Nat) {s : List Nat} {t : Option (List Nat)} {ts : List (List Nat)} {r : List Nat}, Vd s t → lr s t l = .read ts r → ∃ s' t', Vd s' t' ∧ r = glue s' t'
  | [], s, t, ts, r, v, h => by
    simp only [lr] at h
    cases h
    exact ⟨s, t, v, rfl⟩
  | c :: cs, s, t, ts, r, v, h => by
    simp only [lr] at h
    cases hs : stp s t c with
    | none => rw [hs] at h; cases h
    | some p =>
      obtain ⟨o, s', t'⟩ := p
      rw [hs] at h
      simp only at h
      cases hl : lr s' t' cs with
      | wrong us k => rw [hl] at h; cases h
      | read us r' =>
        rw [hl] at h
        cases h
        exact lr_rest cs (v.step hs) hl
/-- two strings, one behind the other -/
def Out.thn (n : Nat) (o : Out) (k : List Nat → Out) : Out := match o with
  | .read ts r => (k r).pre ts n
  | .wrong ts i => .wrong ts i
theorem lr_app : ∀ (a b : List Nat) {s : List Nat} {t : Option (List Nat)}, Vd s t → lr s t (a ++ b) = (lr s t a).thn a.length fun r => lr (spS r) (spT r) b
  | [], b, s, t, v => by
    show lr s t b = (lr (spS (glue s t)) (spT (glue s t)) b).pre [] 0
    rw [(sp_glue v).1, (sp_glue v).2, Out.pre_nil]
  | c :: cs, b, s, t, v => by
    show lr s t (c :: (cs ++ b)) = _
    simp only [lr]
    cases hs : stp s t c with
    | none => rfl
    | some p =>
      obtain ⟨o, s', t'⟩ := p
      simp only
      rw [lr_app cs b (v.step hs)]
      cases lr s' t' cs with
      | wrong us k => rfl
      | read us r' =>
        show Out.pre o.toList 1 (Out.pre us cs.length (lr (spS r') (spT r') b)) = Out.pre (o.toList ++ us) (cs.length + 1) (lr (spS r') (spT r') b)
        rw [Out.pre_pre, Nat.add_comm 1]
/-! ### the program's way: one frame after the other -/
/-- how many of the signs are digits of a length -/
def dgs (s : List Nat) : List Nat → Nat
  | [] => 0
  | c :: cs => if isDec (s ++ [c]) 200 = true then dgs (s ++ [c]) cs + 1 else 0
theorem dgs_le : ∀ (l s : List Nat), dgs s l ≤ l.length
  | [], _ => Nat.le_refl _
  | c :: cs, s => by
    unfold dgs
    split
    · have := dgs_le cs (s ++ [c])
      simp
      exact this
    · exact Nat.zero_le _
theorem lr_dgs : ∀ (l : List Nat) {s : List Nat}, Vd s none → lr s none l = (lr (s ++ l.take (dgs s l)) none (l.drop (dgs s l))).pre [] (dgs s l) ∧ Vd (s ++ l.take (dgs s l)) none ∧
    (∀ c cs, l.drop (dgs s l) = c :: cs → isDec (s ++ l.take (dgs s l) ++ [c]) 200 = false)
  | [], s, v => by
    refine ⟨?_, ?_, fun c cs h => ?_⟩
    · simp [dgs, Out.pre_nil]
    · simpa [dgs] using v
    · simp at h
  | c :: cs, s, v => by
    by_cases h : isDec (s ++ [c]) 200 = true
    · have hd : dgs s (c :: cs) = dgs (s ++ [c]) cs + 1 := by
        show (if isDec (s ++ [c]) 200 = true then _ else _) = _
        rw [if_pos h]
      have hc : c ≠ 58 := by
        obtain ⟨k, _, e⟩ := isDec_iff.mp h
        have := numL_all k c (by rw [← e]; simp)
        omega
      have v' : Vd (s ++ [c]) none := .inr (isDec_iff.mp h)
      obtain ⟨i1, i2, i3⟩ := lr_dgs cs v'
      have es : stp s none c = some (none, s ++ [c], none) := by
        show (if c = 58 ∧ s ≠ [] then _ else if isDec (s ++ [c]) 200 = true then _ else _) = _
        rw [if_neg (fun z => hc z.1), if_pos h]
      have el : lr s none (c :: cs) = (lr (s ++ [c]) none cs).pre [] 1 := by
        simp only [lr, es]
        rfl
      have ea : s ++ [c] ++ cs.take (dgs (s ++ [c]) cs) = s ++ (c :: cs).take (dgs (s ++ [c]) cs + 1) := by simp
      rw [hd, el, i1, Out.pre_pre, ea]
      rw [ea] at i2 i3
      refine ⟨?_, i2, fun d ds hq => i3 d ds (by simpa using hq)⟩
      rw [List.drop_succ_cons, Nat.add_comm]
      rfl
    · have hd : dgs s (c :: cs) = 0 := by
        show (if isDec (s ++ [c]) 200 = true then _ else _) = _
        rw [if_neg h]
      rw [hd]
      refine ⟨by simp [Out.pre_nil], by simpa using v, fun d ds hq => ?_⟩
      simp at hq
      obtain ⟨rfl, rfl⟩ := hq
      simpa using h
/-- how many signs ahead of the first one that no text has -/
def pls : List Nat → Nat
  | [] => 0
  | c :: cs => if plainC c = true then pls cs + 1 else 0
theorem pls_le : ∀ l : List Nat, pls l ≤ l.length
  | [] => Nat.le_refl _
  | c :: cs => by
    unfold pls
    split
    · have := pls_le cs
      simp
      exact this
    · exact Nat.zero_le _
theorem pls_all {l : List Nat} (h : plainL l = true) : pls l = l.length := by
  induction l with
  | nil => rfl
  | cons c cs ih =>
    have h' : plainC c = true ∧ plainL cs = true := by simpa [plainL] using h
    show (if plainC c = true then pls cs + 1 else 0) = _
    rw [if_pos h'.1, ih h'.2]
    rfl
theorem pls_lt {l : List Nat} (h : plainL l = false) : pls l < l.length ∧ ∃ c, l[pls l]? = some c ∧ plainC c = false := by
  induction l with
  | nil => cases h
  | cons c cs ih =>
    by_cases hc : plainC c = true
    · have h' : plainL cs = false := by
        have z : (plainC c && plainL cs) = false := h
        rw [hc] at z
        exact z
      obtain ⟨a, d, b1, b2⟩ := ih h'
      have e : pls (c :: cs) = pls cs + 1 := by
        show (if plainC c = true then pls cs + 1 else 0) = _
        rw [if_pos hc]
      rw [e]
      exact ⟨by simp; exact a, d, by simpa using b1, b2⟩
    · have e : pls (c :: cs) = 0 := by
        show (if plainC c = true then pls cs + 1 else 0) = _
        rw [if_neg hc]
      rw [e]
      exact ⟨by simp, c, by simp, by simpa using hc⟩
theorem pls_plain : ∀ l : List Nat, plainL (l.take (pls l)) = true
  | [] => rfl
  | c :: cs => by
    by_cases hc : plainC c = true
    · have e : pls (c :: cs) = pls cs + 1 := by
        show (if plainC c = true then pls cs + 1 else 0) = _
        rw [if_pos hc]
      rw [e, List.take_succ_cons]
      show (plainC c && plainL (cs.take (pls cs))) = true
      rw [hc, pls_plain cs]
      rfl
    · have e : pls (c :: cs) = 0 := by
        show (if plainC c = true then pls cs + 1 else 0) = _
        rw [if_neg hc]
      rw [e]
      rfl
/-- the signs of a text -/
theorem lr_text : ∀ (a : List Nat) (l : List Nat) {s t : List Nat}, plainL a = true → t.length + a.length ≤ digitsVal s → lr s (some t) (a ++ l) = (lr s (some (t ++ a)) l).pre [] a.length
  | [], l, s, t, _, _ => by simp [Out.pre_nil]
  | c :: cs, l, s, t, hp, hl => by
    have hp' : plainC c = true ∧ plainL cs = true := by simpa [plainL] using hp
    simp only [List.length_cons] at hl
    have es : stp s (some t) c = some (none, s, some (t ++ [c])) := by
      show (if t.length < digitsVal s then _ else _) = _
      rw [if_pos (by omega), if_pos hp'.1]
    have el : lr s (some t) (c :: (cs ++ l)) = (lr s (some (t ++ [c])) (cs ++ l)).pre [] 1 := by
      simp only [lr, es]
      rfl
    show lr s (some t) (c :: (cs ++ l)) = _
    rw [el, lr_text cs l hp'.2 (by simp; omega), Out.pre_pre]
    simp [Nat.add_comm]
/-- what next_frame tells of the signs from its start on -/
inductive Nf where
  | part (at_ : Nat) | wrong (at_ : Nat) | whole (t : List Nat) (at_ : Nat)
def nf (l : List Nat) : Nf :=
  let k := dgs [] l
  if k = l.length then .part k else
  if k = 0 ∨ l[k]? ≠ some 58 then .wrong k else
  let n := digitsVal (l.take k)
  let part := (l.drop (k + 1)).take n
  let e := k + 1 + pls part
  if e = l.length then .part e else
  if l[e]? ≠ some 44 then .wrong e else .whole part (k + 1 + n + 1)
theorem nf_lr (l : List Nat) : match nf l with
    | .part _ => ∃ r, lr [] none l = .read [] r ∧ r = l
    | .wrong k => lr [] none l = .wrong [] k ∧ k < l.length
    | .whole t k => lr [] none l = (lr [] none (l.drop k)).pre [t] k ∧ k ≤ l.length ∧ 0 < k := by
  obtain ⟨h1, h2, h3⟩ := lr_dgs l (s := []) (.inl rfl)
  simp only [List.nil_append] at h1 h2 h3
  have hk := dgs_le l []
  generalize hkk : dgs [] l = k at h1 h2 h3 hk
  unfold nf
  rw [hkk]
  by_cases e1 : k = l.length
  · simp only [e1, if_true]
    rw [h1, e1, List.take_length, List.drop_length]
    exact ⟨l, by simp [lr, glue, Out.pre], rfl⟩
  · simp only [if_neg e1]
    have hlt : k < l.length := by omega
    obtain ⟨c, hc⟩ : ∃ c, l[k]? = some c := ⟨l[k], by simp [hlt]⟩
    have hd : l.drop k = c :: l.drop (k + 1) := by
      rw [List.drop_eq_getElem_cons hlt]
      congr 1
      rw [List.getElem?_eq_getElem hlt] at hc
      exact Option.some.inj hc
    have nd := h3 c _ hd
    by_cases e2 : k = 0 ∨ l[k]? ≠ some 58
    · simp only [if_pos e2]
      refine ⟨?_, hlt⟩
      rw [h1, hd]
      have es : stp (l.take k) none c = none := by
        show (if c = 58 ∧ l.take k ≠ [] then _ else if isDec (l.take k ++ [c]) 200 = true then _ else none) = _
        rw [if_neg, if_neg (by rw [nd]; decide)]
        rintro ⟨rfl, hn⟩
        rcases e2 with rfl | e2
        · exact hn rfl
        · exact e2 hc
      simp only [lr, es]
      simp [Out.pre]
    · simp only [if_neg e2]
      have hk0 : k ≠ 0 := fun z => e2 (.inl z)
      have hc58 : c = 58 := by
        by_cases q : c = 58
        · exact q
        · exact absurd (.inr (by rw [hc]; simpa using q)) e2
      subst hc58
      have hne : l.take k ≠ [] := by
        intro z
        have := congrArg List.length z
        rw [List.length_take, List.length_nil] at this
        omega
      have es : stp (l.take k) none 58 = some (none, l.take k, some []) := by
        show (if 58 = 58 ∧ l.take k ≠ [] then _ else _) = _
        rw [if_pos ⟨rfl, hne⟩]
      have h4 : lr [] none l = (lr (l.take k) (some []) (l.drop (k + 1))).pre [] (k + 1) := by
        rw [h1, hd]
        simp only [lr, es]
        rw [Out.pre_pre]
        rfl
      generalize hn : digitsVal (l.take k) = n
      generalize hm : l.drop (k + 1) = m at h4
      have hml : m.length = l.length - (k + 1) := by rw [← hm, List.length_drop]
      generalize hp : m.take n = part
      have hpm : m = part ++ m.drop n := by rw [← hp, List.take_append_drop]
      have hpl : part.length ≤ n := by rw [← hp, List.length_take]; omega
      have hb := pls_le part
      have hsp : m = part.take (pls part) ++ m.drop (pls part) := by
        have e : part.take (pls part) = m.take (pls part) := by
          rw [← hp, List.take_take, Nat.min_eq_left (by rw [hp]; omega)]
        rw [e, List.take_append_drop]
      have h5 : lr [] none l = (lr (l.take k) (some (part.take (pls part))) (m.drop (pls part))).pre [] (k + 1 + pls part) := by
        rw [h4]
        conv => lhs; rw [hsp]
        rw [lr_text _ _ (pls_plain part) (by rw [hn, List.length_take]; simp; omega), Out.pre_pre, List.length_take, Nat.min_eq_left hb]
        simp
      have hpm2 : part.length ≤ m.length := by rw [← hp, List.length_take]; omega
      by_cases e3 : k + 1 + pls part = l.length
      · simp only [if_pos e3]
        refine ⟨l, ?_, rfl⟩
        have hd0 : m.drop (pls part) = [] := List.drop_eq_nil_of_le (by omega)
        have ht0 : part.take (pls part) = m := by
          rw [hd0, List.append_nil] at hsp
          exact hsp.symm
        rw [h5, hd0, ht0]
        simp only [lr, glue, Out.pre, List.append_nil]
        rw [← hm]
        congr 1
        rw [← hd, List.take_append_drop]
      · simp only [if_neg e3]
        have hlt3 : k + 1 + pls part < l.length := by omega
        have hget : l[k + 1 + pls part]? = m[pls part]? := by rw [← hm, List.getElem?_drop]
        obtain ⟨d, hdd⟩ : ∃ d, m[pls part]? = some d := ⟨m[pls part]'(by omega), by rw [List.getElem?_eq_getElem (by omega)]⟩
        have hmd : m.drop (pls part) = d :: m.drop (pls part + 1) := by
          rw [List.drop_eq_getElem_cons (by omega)]
          congr 1
          rw [List.getElem?_eq_getElem (by omega)] at hdd
          exact Option.some.inj hdd
        rw [hget, hdd]
        have hcase : (pls part = n ∧ part.length = n) ∨ (pls part < n ∧ plainC d = false) := by
          cases hpp : plainL part with
          | true =>
            have e := pls_all hpp
            left
            have : part.length = n := by
              rw [e] at hlt3
              rw [← hp, List.length_take] at hlt3 ⊢
              omega
            omega
          | false =>
            obtain ⟨a, c', b1, b2⟩ := pls_lt hpp
            right
            refine ⟨by omega, ?_⟩
            have : part[pls part]? = m[pls part]? := by
              conv => rhs; rw [hpm]
              rw [List.getElem?_append_left a]
            rw [this, hdd] at b1
            rw [Option.some.inj b1]
            exact b2
        have htl : (part.take (pls part)).length = pls part := by rw [List.length_take, Nat.min_eq_left hb]
        by_cases e4 : d = 44
        · subst e4
          rw [if_neg (by simp)]
          rcases hcase with ⟨q1, q2⟩ | ⟨q1, q2⟩
          · refine ⟨?_, by omega, by omega⟩
            have et : part.take (pls part) = part := List.take_of_length_le (by omega)
            have es2 : stp (l.take k) (some part) 44 = some (some part, [], none) := by
              show (if part.length < digitsVal (l.take k) then _ else _) = _
              rw [if_neg (by rw [hn]; omega)]
              rfl
            have ed : m.drop (pls part + 1) = l.drop (k + 1 + n + 1) := by
              rw [← hm, List.drop_drop]
              congr 1
              omega
            rw [h5, et, hmd]
            simp only [lr, es2]
            rw [Out.pre_pre, ed]
            simp only [Option.toList, List.nil_append]
            congr 1
            omega
          · exact absurd q2 (by decide)
        · rw [if_pos (by simpa using e4)]
          refine ⟨?_, hlt3⟩
          have es2 : stp (l.take k) (some (part.take (pls part))) d = none := by
            show (if (part.take (pls part)).length < digitsVal (l.take k) then _ else if d = 44 then _ else none) = _
            rcases hcase with ⟨q1, q2⟩ | ⟨q1, q2⟩
            · rw [if_neg (by rw [hn, htl]; omega), if_neg e4]
            · rw [if_pos (by rw [hn, htl]; omega), if_neg (by rw [q2]; decide)]
          rw [h5, hmd]
          simp only [lr, es2]
          simp [Out.pre]
end Ag

end
/-! ## Prog -/
section
set_option linter.all false
set_option maxRecDepth 100000
namespace Ag
open PySem PySem.Spec PyProof.Rows L2
open SX (S S_len S_cat S_inj)
/-! ### the text by places -/
def top (i : Nat) : Stmt := PySem.Challenge.pw_answergate_k06_any_values_as_houses.main.body.getD i (.Pass ⟨0, 0, 0, 0⟩)
abbrev s__wall : Stmt := top 0
abbrev N__wall : List Str := ["k"]
theorem sc__wall : FnScope N__wall ["k"] (defScope s__wall) := ⟨rfl, rfl, rfl, by decide +kernel, rfl, by decide +kernel, by decide +kernel⟩
abbrev s_is_integer : Stmt := top 4
abbrev N_is_integer : List Str := ["thing"]
theorem sc_is_integer : FnScope N_is_integer ["thing"] (defScope s_is_integer) := ⟨rfl, rfl, rfl, by decide +kernel, rfl, by decide +kernel, by decide +kernel⟩
abbrev s_is_between : Stmt := top 5
abbrev N_is_between : List Str := ["thing", "least", "most"]
theorem sc_is_between : FnScope N_is_between ["thing", "least", "most"] (defScope s_is_between) := ⟨rfl, rfl, rfl, by decide +kernel, rfl, by decide +kernel, by decide +kernel⟩
abbrev s_is_number : Stmt := top 6
abbrev N_is_number : List Str := ["thing"]
theorem sc_is_number : FnScope N_is_number ["thing"] (defScope s_is_number) := ⟨rfl, rfl, rfl, by decide +kernel, rfl, by decide +kernel, by decide +kernel⟩
abbrev s_is_plain : Stmt := top 7
abbrev N_is_plain : List Str := ["string"]
theorem sc_is_plain : FnScope N_is_plain ["string"] (defScope s_is_plain) := ⟨rfl, rfl, rfl, by decide +kernel, rfl, by decide +kernel, by decide +kernel⟩
abbrev s_is_decimal : Stmt := top 8
abbrev N_is_decimal : List Str := ["string", "most"]
theorem sc_is_decimal : FnScope N_is_decimal ["string", "most"] (defScope s_is_decimal) := ⟨rfl, rfl, rfl, by decide +kernel, rfl, by decide +kernel, by decide +kernel⟩
abbrev s_is_word : Stmt := top 9
abbrev N_is_word : List Str := ["thing"]
theorem sc_is_word : FnScope N_is_word ["thing"] (defScope s_is_word) := ⟨rfl, rfl, rfl, by decide +kernel, rfl, by decide +kernel, by decide +kernel⟩
abbrev s_are_counted : Stmt := top 10
abbrev N_are_counted : List Str := ["thing", "most", "number"]
theorem sc_are_counted : FnScope N_are_counted ["thing", "most"] (defScope s_are_counted) := ⟨rfl, rfl, rfl, by decide +kernel, rfl, by decide +kernel, by decide +kernel⟩
abbrev s_is_rest : Stmt := top 18
abbrev N_is_rest : List Str := ["thing", "digits", "_", "begun"]
theorem sc_is_rest : FnScope N_is_rest ["thing"] (defScope s_is_rest) := ⟨rfl, rfl, rfl, by decide +kernel, rfl, by decide +kernel, by decide +kernel⟩
abbrev s_is_body : Stmt := top 21
abbrev N_is_body : List Str := ["thing"]
theorem sc_is_body : FnScope N_is_body ["thing"] (defScope s_is_body) := ⟨rfl, rfl, rfl, by decide +kernel, rfl, by decide +kernel, by decide +kernel⟩
abbrev s_is_row : Stmt := top 23
abbrev N_is_row : List Str := ["thing", "label", "rest", "came", "begun", "done", "state", "body"]
theorem sc_is_row : FnScope N_is_row ["thing"] (defScope s_is_row) := ⟨rfl, rfl, rfl, by decide +kernel, rfl, by decide +kernel, by decide +kernel⟩
abbrev s_is_house : Stmt := top 24
abbrev N_is_house : List Str := ["thing", "name", "boot", "up", "leaving", "rows", "labels", "row"]
theorem sc_is_house : FnScope N_is_house ["thing"] (defScope s_is_house) := ⟨rfl, rfl, rfl, by decide +kernel, rfl, by decide +kernel, by decide +kernel⟩
abbrev s_house_new : Stmt := top 25
abbrev N_house_new : List Str := ["name"]
theorem sc_house_new : FnScope N_house_new ["name"] (defScope s_house_new) := ⟨rfl, rfl, rfl, by decide +kernel, rfl, by decide +kernel, by decide +kernel⟩
abbrev s_is_health_rule : Stmt := top 28
abbrev N_is_health_rule : List Str := ["thing", "_", "first", "most", "number"]
theorem sc_is_health_rule : FnScope N_is_health_rule ["thing"] (defScope s_is_health_rule) := ⟨rfl, rfl, rfl, by decide +kernel, rfl, by decide +kernel, by decide +kernel⟩
abbrev s_new_mark : Stmt := top 29
abbrev N_new_mark : List Str := ["rule", "_", "first"]
theorem sc_new_mark : FnScope N_new_mark ["rule"] (defScope s_new_mark) := ⟨rfl, rfl, rfl, by decide +kernel, rfl, by decide +kernel, by decide +kernel⟩
abbrev s_is_pool : Stmt := top 33
abbrev N_is_pool : List Str := ["thing", "pair"]
theorem sc_is_pool : FnScope N_is_pool ["thing"] (defScope s_is_pool) := ⟨rfl, rfl, rfl, by decide +kernel, rfl, by decide +kernel, by decide +kernel⟩
abbrev s_is_share : Stmt := top 34
abbrev N_is_share : List Str := ["thing", "label", "weight"]
theorem sc_is_share : FnScope N_is_share ["thing"] (defScope s_is_share) := ⟨rfl, rfl, rfl, by decide +kernel, rfl, by decide +kernel, by decide +kernel⟩
abbrev s_is_settings : Stmt := top 37
abbrev N_is_settings : List Str := ["thing", "pool", "way", "rule", "tries", "patience", "room", "window"]
theorem sc_is_settings : FnScope N_is_settings ["thing"] (defScope s_is_settings) := ⟨rfl, rfl, rfl, by decide +kernel, rfl, by decide +kernel, by decide +kernel⟩
abbrev s_new_proxy : Stmt := top 38
abbrev N_new_proxy : List Str := ["settings", "house"]
theorem sc_new_proxy : FnScope N_new_proxy ["settings"] (defScope s_new_proxy) := ⟨rfl, rfl, rfl, by decide +kernel, rfl, by decide +kernel, by decide +kernel⟩
abbrev s_world_new : Stmt := top 40
abbrev N_world_new : List Str := ["settings", "proxy", "name", "_"]
theorem sc_world_new : FnScope N_world_new ["settings"] (defScope s_world_new) := ⟨rfl, rfl, rfl, by decide +kernel, rfl, by decide +kernel, by decide +kernel⟩
abbrev s__law_deck : Stmt := top 44
abbrev N__law_deck : List Str := ["_law_script", "_law_mixed", "_law_cell"]
theorem sc__law_deck : FnScope N__law_deck ["_law_script"] (defScope s__law_deck) := ⟨rfl, rfl, rfl, by decide +kernel, rfl, by decide +kernel, by decide +kernel⟩
abbrev s__law_draw : Stmt := top 45
abbrev N__law_draw : List Str := ["_law_deck_here", "_law_below", "_law_figure", "_law_cell"]
theorem sc__law_draw : FnScope N__law_draw ["_law_deck_here", "_law_below"] (defScope s__law_draw) := ⟨rfl, rfl, rfl, by decide +kernel, rfl, by decide +kernel, by decide +kernel⟩
abbrev s__law_pick : Stmt := top 46
abbrev N__law_pick : List Str := ["_law_deck_here", "_law_some"]
theorem sc__law_pick : FnScope N__law_pick ["_law_deck_here", "_law_some"] (defScope s__law_pick) := ⟨rfl, rfl, rfl, by decide +kernel, rfl, by decide +kernel, by decide +kernel⟩
abbrev s__law_signs : Stmt := top 47
abbrev N__law_signs : List Str := []
theorem sc__law_signs : FnScope N__law_signs [] (defScope s__law_signs) := ⟨rfl, rfl, rfl, by decide +kernel, rfl, by decide +kernel, by decide +kernel⟩
abbrev s__law_text : Stmt := top 48
abbrev N__law_text : List Str := ["_law_deck_here", "_law_size", "_law_way", "_law_signs_here", "_law_first", "_law_step", "_law_some", "_law_text_here", "_law_turn", "_law_at"]
theorem sc__law_text : FnScope N__law_text ["_law_deck_here", "_law_size"] (defScope s__law_text) := ⟨rfl, rfl, rfl, by decide +kernel, rfl, by decide +kernel, by decide +kernel⟩
abbrev s__law_read : Stmt := top 49
abbrev N__law_read : List Str := ["_law_rest", "_law_piece", "_law_texts", "_law_size", "_law_text_here", "_law_at", "_law_sign"]
theorem sc__law_read : FnScope N__law_read ["_law_rest", "_law_piece"] (defScope s__law_read) := ⟨rfl, rfl, rfl, by decide +kernel, rfl, by decide +kernel, by decide +kernel⟩
abbrev s__law_is_rest : Stmt := top 50
abbrev N__law_is_rest : List Str := ["_law_thing"]
theorem sc__law_is_rest : FnScope N__law_is_rest ["_law_thing"] (defScope s__law_is_rest) := ⟨rfl, rfl, rfl, by decide +kernel, rfl, by decide +kernel, by decide +kernel⟩
abbrev s__law_is_number : Stmt := top 51
abbrev N__law_is_number : List Str := ["_law_thing", "_law_low"]
theorem sc__law_is_number : FnScope N__law_is_number ["_law_thing", "_law_low"] (defScope s__law_is_number) := ⟨rfl, rfl, rfl, by decide +kernel, rfl, by decide +kernel, by decide +kernel⟩
abbrev s__law_is_body : Stmt := top 52
abbrev N__law_is_body : List Str := ["_law_thing", "_law_sign"]
theorem sc__law_is_body : FnScope N__law_is_body ["_law_thing"] (defScope s__law_is_body) := ⟨rfl, rfl, rfl, by decide +kernel, rfl, by decide +kernel, by decide +kernel⟩
abbrev s__law_body : Stmt := top 53
abbrev N__law_body : List Str := ["_law_deck_here"]
theorem sc__law_body : FnScope N__law_body ["_law_deck_here"] (defScope s__law_body) := ⟨rfl, rfl, rfl, by decide +kernel, rfl, by decide +kernel, by decide +kernel⟩
abbrev s__law_is_word : Stmt := top 54
abbrev N__law_is_word : List Str := ["_law_thing", "_law_letter"]
theorem sc__law_is_word : FnScope N__law_is_word ["_law_thing"] (defScope s__law_is_word) := ⟨rfl, rfl, rfl, by decide +kernel, rfl, by decide +kernel, by decide +kernel⟩
abbrev s__law_name : Stmt := top 55
abbrev N__law_name : List Str := ["_law_deck_here", "_law_letters", "_law_many", "_law_at"]
theorem sc__law_name : FnScope N__law_name ["_law_deck_here"] (defScope s__law_name) := ⟨rfl, rfl, rfl, by decide +kernel, rfl, by decide +kernel, by decide +kernel⟩
abbrev s__law_is_row : Stmt := top 56
abbrev N__law_is_row : List Str := ["_law_row_here", "_law_body_here", "_law_one"]
theorem sc__law_is_row : FnScope N__law_is_row ["_law_row_here"] (defScope s__law_is_row) := ⟨rfl, rfl, rfl, by decide +kernel, rfl, by decide +kernel, by decide +kernel⟩
abbrev s__law_is_house : Stmt := top 57
abbrev N__law_is_house : List Str := ["_law_thing", "_law_labels", "_law_row_here"]
theorem sc__law_is_house : FnScope N__law_is_house ["_law_thing"] (defScope s__law_is_house) := ⟨rfl, rfl, rfl, by decide +kernel, rfl, by decide +kernel, by decide +kernel⟩
abbrev s__law_row : Stmt := top 58
abbrev N__law_row : List Str := ["_law_deck_here", "_law_label", "_law_state", "_law_came", "_law_begun", "_law_done", "_law_text_here", "_law_rest", "_law_go", "_law_n"]
theorem sc__law_row : FnScope N__law_row ["_law_deck_here", "_law_label", "_law_state"] (defScope s__law_row) := ⟨rfl, rfl, rfl, by decide +kernel, rfl, by decide +kernel, by decide +kernel⟩
abbrev s__law_house : Stmt := top 59
abbrev N__law_house : List Str := ["_law_deck_here", "_law_name_here", "_law_boot", "_law_way", "_law_labels", "_law_states", "_law_rows", "_law_go", "_law_label"]
theorem sc__law_house : FnScope N__law_house ["_law_deck_here"] (defScope s__law_house) := ⟨rfl, rfl, rfl, by decide +kernel, rfl, by decide +kernel, by decide +kernel⟩
abbrev s__law_any : Stmt := top 60
abbrev N__law_any : List Str := ["_law_deck_here", "_law_deep", "_law_way", "_law_some", "_law_turn"]
theorem sc__law_any : FnScope N__law_any ["_law_deck_here", "_law_deep"] (defScope s__law_any) := ⟨rfl, rfl, rfl, by decide +kernel, rfl, by decide +kernel, by decide +kernel⟩
abbrev s__law_bent : Stmt := top 61
abbrev N__law_bent : List Str := ["_law_deck_here", "_law_value", "_law_deep", "_law_way", "_law_at", "_law_other", "_law_some", "_law_sign"]
theorem sc__law_bent : FnScope N__law_bent ["_law_deck_here", "_law_value", "_law_deep"] (defScope s__law_bent) := ⟨rfl, rfl, rfl, by decide +kernel, rfl, by decide +kernel, by decide +kernel⟩
abbrev s__law_is_told : Stmt := top 62
abbrev N__law_is_told : List Str := ["_law_thing", "_law_due"]
theorem sc__law_is_told : FnScope N__law_is_told ["_law_thing"] (defScope s__law_is_told) := ⟨rfl, rfl, rfl, by decide +kernel, rfl, by decide +kernel, by decide +kernel⟩
abbrev s__law_near : Stmt := top 63
abbrev N__law_near : List Str := ["_law_deck_here", "_law_house_here", "_law_way", "_law_rows", "_law_at", "_law_row_here", "_law_state", "_law_done"]
theorem sc__law_near : FnScope N__law_near ["_law_deck_here", "_law_house_here"] (defScope s__law_near) := ⟨rfl, rfl, rfl, by decide +kernel, rfl, by decide +kernel, by decide +kernel⟩
abbrev s_law : Stmt := top 64
abbrev N_law : List Str := ["_law_script", "_law_deck_here", "_law_bench", "_law_name_here", "_law_houses", "_law_rows", "_law_house_here", "_law_go", "_law_near_here", "_law_is_good", "_law_some", "_law_things", "_law_thing", "_law_label"]
theorem sc_law : FnScope N_law ["_law_script"] (defScope s_law) := ⟨rfl, rfl, rfl, by decide +kernel, rfl, by decide +kernel, by decide +kernel⟩
structure Fn (K : PySem.W.Frag) (mg : Str → Option Value) (x : Str) (st : Stmt) (ps : List Str) (f : Addr) (fd : FuncData) : Prop where
  F : Fun K x x st f fd
  b : Binds K fd ps []
  g : mg x = some (.ref f)
structure Blt (mg : Str → Option Value) : Prop where
  n_len : mg "len" = none
  n_str : mg "str" = none
  n_int : mg "int" = none
  n_isinstance : mg "isinstance" = none
  n_range : mg "range" = none
  n_enumerate : mg "enumerate" = none
  n_tuple : mg "tuple" = none
  n_list : mg "list" = none
  n_max : mg "max" = none
  n_min : mg "min" = none
  n_sorted : mg "sorted" = none
  n_repr : mg "repr" = none
  n_bool : mg "bool" = none
  n_all : mg "all" = none
  n_zip : mg "zip" = none
structure Con (mg : Str → Option Value) (tm tn tb : Tok) : Prop extends Blt mg where
  g_NUMBER_MOST : mg "NUMBER_MOST" = some (.int 1000000000 tn)
  g_BODY_MOST : mg "BODY_MOST" = some (.int 150 tb)
  g_TEXT_MOST : mg "TEXT_MOST" = some (.int 200 tm)
end Ag

end
/-! ## P1 -/
section
set_option linter.all false
set_option maxRecDepth 100000
namespace Ag
open PySem PySem.Spec PyProof.Rows L2
open SX (S S_len S_cat S_inj)
/-! ### texts -/
theorem sz {n : Nat} (h : n ≤ 16000000) : n ≤ sizeLine := by rw [sizeLine_eq]; omega
theorem same_new {H : Hp} {p : Addr} {o : HO} (h : H p = none) : Same H (upd H p o) := fun b x e => by
  rw [upd_ne (ne_of_none e h)]
  exact e
theorem ascii_S (l : List Nat) : Txt.isascii (S l) = l.all (· < 128) := by
  show (S l).cps.all _ = _
  rw [← Array.all_toList]
theorem printable_S (l : List Nat) : Txt.isprintable (S l) = l.all Unicode.isPrintable := by
  show (S l).cps.all _ = _
  rw [← Array.all_toList]
theorem isdigit_S (l : List Nat) : Txt.isdigit (S l) = (decide (l ≠ []) && l.all Unicode.isDigit) := by
  show (decide ((S l).length > 0) && (S l).cps.all _) = _
  rw [← Array.all_toList, S_len]
  cases l <;> simp
theorem print128 : ∀ c < 128, Unicode.isPrintable c = plainC c := by decide +kernel
theorem digit128 : ∀ c < 128, Unicode.isDigit c = digC c := by decide +kernel
theorem plain_of (l : List Nat) : (l.all (· < 128) && l.all Unicode.isPrintable) = plainL l := by
  induction l with
  | nil => rfl
  | cons c cs ih =>
    show ((decide (c < 128) && cs.all _) && (Unicode.isPrintable c && cs.all _)) = (plainC c && plainL cs)
    rw [← ih]
    by_cases h : c < 128
    · rw [print128 c h]
      simp only [h, decide_true, Bool.true_and]
      cases plainC c <;> simp
    · have e : plainC c = false := by
        unfold plainC
        simp
        omega
      rw [e]
      simp [h]
theorem dig_all {l : List Nat} (h : l.all (· < 128) = true) : l.all Unicode.isDigit = l.all digC := by
  induction l with
  | nil => rfl
  | cons c cs ih =>
    have h' : c < 128 ∧ cs.all (· < 128) = true := by simpa using h
    show (Unicode.isDigit c && cs.all _) = (digC c && cs.all _)
    rw [digit128 c h'.1, ih h'.2]
theorem toStr (n : Nat) : (Str.ofString (toString ((n : Nat) : Int))) = S (numL n) := SX.num_S n
theorem log_small {n : Nat} (h : n < 2 ^ 200) : ((n : Nat) : Int).natAbs.log2 < 1920 := by
  rw [Int.natAbs_natCast]
  by_cases z : n = 0
  · subst z; decide
  · have h2 : n < 2 ^ 1920 := Nat.lt_of_lt_of_le h (Nat.pow_le_pow_right (by decide) (by decide))
    exact (Nat.log2_lt z).mpr h2
theorem int_S {l : List Nat} (h : l.all digC = true) (hne : l ≠ []) (hl : l.length ≤ 640) : PySem.intText? (S l) = some ((digitsVal l : Nat) : Int) := by
  refine SX.int_S ?_ hne (by omega)
  rw [← h]
  rfl
theorem numL_mono {m n : Nat} (h : m ≤ n) : (numL m).length ≤ (numL n).length := by
  induction n using Nat.strongRecOn generalizing m with
  | ind n ih =>
    by_cases hn : n < 10
    · have e : numL m = [48 + m] := TL.numL_lt (by omega)
      have e2 : numL n = [48 + n] := TL.numL_lt hn
      rw [e, e2]
      exact Nat.le_refl _
    · have e2 : numL n = numL (n / 10) ++ [48 + n % 10] := TL.numL_step (by omega)
      by_cases hm : m < 10
      · have e : numL m = [48 + m] := TL.numL_lt hm
        rw [e, e2]
        simp
      · have e : numL m = numL (m / 10) ++ [48 + m % 10] := TL.numL_step (by omega)
        rw [e, e2]
        simp only [List.length_append, List.length_singleton]
        have := @ih (n / 10) (by omega) (m / 10) (by omega)
        omega
theorem digs_go : ∀ (l : List Nat) (acc : Nat), l.all digC = true → l.foldl (fun acc c => acc * 10 + (c - 48)) acc < (acc + 1) * 10 ^ l.length
  | [], acc, _ => by simp
  | c :: cs, acc, h => by
    have h' : digC c = true ∧ cs.all digC = true := by simpa using h
    have hc : c - 48 < 10 := by
      have z := h'.1
      simp [digC] at z
      omega
    have := digs_go cs (acc * 10 + (c - 48)) h'.2
    show List.foldl _ (acc * 10 + (c - 48)) cs < _
    rw [List.length_cons, Nat.pow_succ]
    refine Nat.lt_of_lt_of_le this ?_
    rw [Nat.mul_comm (10 ^ cs.length) 10, ← Nat.mul_assoc]
    exact Nat.mul_le_mul_right _ (by omega)
theorem digs_lt (l : List Nat) (h : l.all digC = true) : digitsVal l < 10 ^ l.length := by
  have := digs_go l 0 h
  rw [Nat.zero_add, Nat.one_mul] at this
  exact this
section
variable {P : Program} {w : World} {K : PySem.W.Frag} {mg : Str → Option Value} {base : Heap} {tm : Tok}
def spPlain : Sp := fun vs H Q _ => ∃ l : List Nat, vs = [.str (S l)] ∧ Q (.bl (plainL l)) H
theorem ok_is_plain {f : Addr} {fd : FuncData} (F : Fn K mg "is_plain" s_is_plain ["string"] f fd) : FnOk P w K mg base CX0 1 f fd ["string"] spPlain := by
  refine F.F.ok sc_is_plain (fun vs H Q E h => ?_) (fun cdv A outer s H vs Q E hr h => ?_)
  · obtain ⟨l, rfl, _⟩ := h
    rfl
  · obtain ⟨l, rfl, q⟩ := h
    refine ⟨_, (pss_one (ps_ret (pe_and (pe_m0 PySem.F.slot_str_isascii PySem.F.type_str_isascii mt_isascii (pv 0)) (pe_one (pe_m0 PySem.F.slot_str_isprintable PySem.F.type_str_isprintable mt_isprintable (pv 0)))))), ?_⟩
    refine ⟨.str (S l), rfl, ⟨_, rfl⟩, S l, rfl, rfl, trivial, _, rfl, ?_⟩
    rw [← plain_of] at q
    rw [ascii_S]
    cases h : l.all (· < 128) with
    | false =>
      rw [h] at q
      exact q
    | true =>
      refine iteT ?_
      refine ⟨.str (S l), rfl, ⟨_, rfl⟩, S l, rfl, rfl, trivial, ?_⟩
      rw [printable_S]
      rw [h] at q
      exact q
def spDec : Sp := fun vs H Q _ => ∃ (l : List Nat) (m : Nat), vs = [.str (S l), .int (m : Int)] ∧ l.length ≤ 1000000 ∧ m < 2 ^ 100 ∧ Q (.bl (isDec l m)) H
theorem ok_is_decimal {f : Addr} {fd : FuncData} (F : Fn K mg "is_decimal" s_is_decimal ["string", "most"] f fd) (B : Blt mg) : FnOk P w K mg base CX0 1 f fd ["string", "most"] spDec := by
  refine F.F.ok sc_is_decimal (fun vs H Q E h => ?_) (fun cdv A outer s H vs Q E hr h => ?_)
  · obtain ⟨l, m, rfl, _⟩ := h
    rfl
  · obtain ⟨l, m, rfl, hl, hm, q⟩ := h
    refine ⟨_, (pss_cons (ps_if (PW.pt (pw_or (pt_not (pt_val (pe_m0 PySem.F.slot_str_isascii PySem.F.type_str_isascii mt_isascii (pv 0)))) (pw_or (pt_not (pt_val (pe_m0 PySem.F.slot_str_isdigit PySem.F.type_str_isdigit mt_isdigit (pv 0)))) (pw_or1 (pt_cmpR op_gt (pe_callB call_len_str (by rfl) B.n_len PySem.boot_len (pa_cons (pv 0) pa_nil)) (pe_callB call_len_str (by rfl) B.n_len PySem.boot_len (pa_cons (pe_callTy call_str_int (by rfl) B.n_str (by decide +kernel) (pa_cons (pv 1) pa_nil)) pa_nil)) (nomark _))))))
      (pss_one (ps_ret pe_bl))
      pss_nil)
      (pss_one (ps_ret (pe_and (pe_cmpR op_eq (pe_callTy call_str_int (by rfl) B.n_str (by decide +kernel) (pa_cons (pe_callTy call_int_str (by rfl) B.n_int (by decide +kernel) (pa_cons (pv 0) pa_nil)) pa_nil)) (pv 0) (nomark _)) (pe_one (pe_cmpR op_le (pe_callTy call_int_str (by rfl) B.n_int (by decide +kernel) (pa_cons (pv 0) pa_nil)) (pv 1) (nomark _))))))), ?_⟩
    have no : isDec l m = false → Q (.bl false) H := fun e => by rw [e] at q; exact q
    -- not ascii
    refine ⟨.str (S l), rfl, ⟨_, rfl⟩, S l, rfl, rfl, trivial, _, rfl, ?_⟩
    rw [ascii_S]
    cases h1 : l.all (· < 128) with
    | false =>
      refine iteT (iteT ?_)
      refine no ?_
      cases hd : isDec l m with
      | false => rfl
      | true =>
        obtain ⟨k, _, rfl⟩ := isDec_iff.mp hd
        have z : (numL k).all (· < 128) = true := by
          rw [List.all_eq_true]
          intro c hc
          have := numL_all k c hc
          simp
          omega
        rw [z] at h1
        cases h1
    | true =>
      refine iteF ?_
      refine ⟨.str (S l), rfl, ⟨_, rfl⟩, S l, rfl, rfl, trivial, _, rfl, ?_⟩
      rw [isdigit_S, dig_all h1]
      cases h2 : (decide (l ≠ []) && l.all digC) with
      | false =>
        refine iteT (iteT ?_)
        refine no ?_
        cases hd : isDec l m with
        | false => rfl
        | true =>
          obtain ⟨k, _, rfl⟩ := isDec_iff.mp hd
          have z : (numL k).all digC = true := by
            rw [List.all_eq_true]
            intro c hc
            have := numL_all k c hc
            simp [digC]
            omega
          rw [z, decide_eq_true (numL_ne k)] at h2
          cases h2
      | true =>
        refine iteF ?_
        rw [Bool.and_eq_true, decide_eq_true_eq] at h2
        obtain ⟨hne, hdg⟩ := h2
        refine ⟨.str (S l), rfl, S l, rfl, sz (by rw [S_len]; omega), ?_⟩
        refine ⟨.int (m : Int), rfl, (m : Int), rfl, log_small (Nat.lt_of_lt_of_le hm (Nat.pow_le_pow_right (by decide) (by decide))), ?_⟩
        rw [toStr]
        refine ⟨S (numL m), rfl, sz ?_, ?_⟩
        · rw [S_len]
          have : (numL m).length ≤ 31 := TL.numL_len (by decide) (Nat.lt_of_lt_of_le hm (by decide))
          omega
        refine ⟨_, _, rfl, rfl, _, rfl, ?_⟩
        rw [S_len, S_len]
        refine ite2 (fun h3 => ?_) (fun h3 => ?_)
        · have h3 := of_decide_eq_true h3
          refine no ?_
          cases hd : isDec l m with
          | false => rfl
          | true =>
            obtain ⟨k, hk, rfl⟩ := isDec_iff.mp hd
            have := numL_mono hk
            omega
        · have h3 : ¬ ((numL m).length : Int) < (l.length : Int) := fun z => h3 (decide_eq_true z)
          have hl2 : l.length ≤ 31 := by
            have : (numL m).length ≤ 31 := TL.numL_len (by decide) (Nat.lt_of_lt_of_le hm (by decide))
            omega
          have hI : PySem.intText? (S l) = some ((digitsVal l : Nat) : Int) := int_S hdg hne (by omega)
          refine ⟨.str (S l), rfl, S l, _, rfl, hI, by rw [S_len]; omega, ?_⟩
          have hv : digitsVal l < 2 ^ 200 := Nat.lt_of_lt_of_le (digs_lt l hdg) (Nat.le_trans (Nat.pow_le_pow_right (by decide) hl2) (by decide +kernel))
          refine ⟨_, rfl, log_small hv, ?_⟩
          rw [toStr]
          refine ⟨.str (S l), rfl, rfl, _, rfl, ?_⟩
          have hdd : decide (V.str (S (numL (digitsVal l))) = V.str (S l)) = decide (numL (digitsVal l) = l) := by
            rw [Bool.eq_iff_iff, decide_eq_true_eq, decide_eq_true_eq]
            constructor
            · intro z
              injection z with z
              exact S_inj z
            · intro z
              rw [z]
          rw [hdd]
          refine ite2 (fun h4 => ?_) (fun h4 => ?_)
          · refine ⟨.str (S l), rfl, S l, _, rfl, hI, by rw [S_len]; omega, ?_⟩
            refine ⟨.int (m : Int), rfl, _, _, rfl, rfl, ?_⟩
            have e : isDec l m = decide (((digitsVal l : Nat) : Int) ≤ (m : Int)) := by
              show (decide (numL (digitsVal l) = l) && decide (digitsVal l ≤ m)) = _
              rw [h4, Bool.true_and, Bool.eq_iff_iff, decide_eq_true_eq, decide_eq_true_eq]
              omega
            rw [e] at q
            exact q
          · refine no ?_
            show (decide (numL (digitsVal l) = l) && decide (digitsVal l ≤ m)) = _
            rw [Bool.eq_false_iff.mpr h4, Bool.false_and]
end
end Ag

end
/-! ## Q1 -/
section
set_option linter.all false
set_option maxRecDepth 100000
namespace Ag
open PySem PySem.Spec PyProof.Rows L2
open SX (S S_len S_cat S_inj)
/-! ### items of messages -/
inductive Itm where
  | s (l : List Nat)
  | i (k : Int)
  | n
  deriving DecidableEq
def Itm.v : Itm → V
  | .s l => .str (S l)
  | .i k => .int k
  | .n => .non
def Itm.ty : Itm → String
  | .s _ => "str"
  | .i _ => "int"
  | .n => "NoneType"
theorem Itm.tyx {K : PySem.W.Frag} {H : Hp} (x : Itm) : TyX K H x.v (.type x.ty) := by
  cases x
  · exact .base (.str _)
  · exact .base (.int _)
  · exact .base .non
def numB : Itm → Bool
  | .i k => decide (0 ≤ k) && decide (k ≤ 1000000000)
  | _ => false
def bodyB : Itm → Bool
  | .s l => decide (l.length ≤ 150) && plainL l
  | _ => false
/-- kinds: 0 body, 1 number, 2 count -/
def itmB (kind : Nat) (x : Itm) : Bool := if kind = 0 then bodyB x else numB x && (decide (kind = 1) || match x with | .i k => decide (k ≥ 1) | _ => false)
def kindS : Nat → Str
  | 0 => Str.ofString "body"
  | 1 => Str.ofString "number"
  | _ => Str.ofString "count"
theorem isi_kit {K : PySem.W.Frag} (x : Itm) {T : String} (hT : T = "int" ∨ T = "bool" ∨ T = "str") : PySem.W.kitOne K (.type x.ty) (.type T) = some (x.ty == T) := by
  have h : x.ty = "str" ∨ x.ty = "int" ∨ x.ty = "NoneType" := by cases x <;> simp [Itm.ty]
  generalize x.ty = U at h
  rcases hT with rfl | rfl | rfl <;> rcases h with rfl | rfl | rfl <;> exact kit_ty (by decide +kernel)
section
variable {P : Program} {w : World} {K : PySem.W.Frag} {mg : Str → Option Value} {base : Heap} {tm tn tb : Tok}
def spInteger : Sp := fun vs H Q _ => ∃ x : Itm, vs = [x.v] ∧ Q (.bl (x.ty == "int")) H
theorem ok_is_integer {f : Addr} {fd : FuncData} (F : Fn K mg "is_integer" s_is_integer ["thing"] f fd) (B : Con mg tm tn tb) : FnOk P w K mg base CX0 1 f fd ["thing"] spInteger := by
  refine F.F.ok sc_is_integer (fun vs H Q E h => ?_) (fun cdv A outer s H vs Q E hr h => ?_)
  · obtain ⟨x, rfl, _⟩ := h
    rfl
  · obtain ⟨x, rfl, q⟩ := h
    refine ⟨_, (pss_one (ps_ret (pe_and (pe_callB call_isi (by rfl) B.n_isinstance (by decide +kernel) (pa_cons (pv 0) (pa_cons (pe_bltn (v := .ty "int") (by rfl) B.n_int (by decide +kernel) rfl) pa_nil))) (pe_one (pe_not (pe_callB call_isi (by rfl) B.n_isinstance (by decide +kernel) (pa_cons (pv 0) (pa_cons (pe_bltn (v := .ty "bool") (by rfl) B.n_bool (by decide +kernel) rfl) pa_nil)))))))), ?_⟩
    refine ⟨x.v, rfl, x.v, .ty "int", _, _, _, rfl, .ty "int", x.tyx, isi_kit x (.inl rfl), _, rfl, ite2 (fun h => ?_) (fun h => ?_)⟩
    · refine ⟨_, rfl, x.v, .ty "bool", _, _, _, rfl, .ty "bool", x.tyx, isi_kit x (.inr (.inl rfl)), _, rfl, ?_⟩
      rw [h] at q
      cases x with
      | i k => exact q
      | s l => cases h
      | n => cases h
    · rw [Bool.eq_false_iff.mpr h] at q
      exact q
def rngB (lo hi : Int) : Itm → Bool
  | .i k => decide (lo ≤ k) && decide (k ≤ hi)
  | _ => false
def spBetween : Sp := fun vs H Q _ => ∃ (x : Itm) (lo hi : Int), vs = [x.v, .int lo, .int hi] ∧ Q (.bl (rngB lo hi x)) H
theorem ok_is_between {f f1 : Addr} {fd fd1 : FuncData} (F : Fn K mg "is_between" s_is_between ["thing", "least", "most"] f fd) (B : Con mg tm tn tb) (F_is_integer : Fn K mg "is_integer" s_is_integer ["thing"] f1 fd1) : FnOk P w K mg base CX0 2 f fd ["thing", "least", "most"] spBetween := by
  have G_is_integer : FnOk P w K mg base CX0 1 f1 fd1 ["thing"] spInteger := ok_is_integer F_is_integer B
  refine F.F.ok sc_is_between (fun vs H Q E h => ?_) (fun cdv A outer s H vs Q E hr h => ?_)
  · obtain ⟨x, lo, hi, rfl, _⟩ := h
    rfl
  · obtain ⟨x, lo, hi, rfl, q⟩ := h
    refine ⟨_, (pss_one (ps_ret (pe_and (pe_call G_is_integer (hr.mono (by decide)) (by rfl) F_is_integer.g F_is_integer.F.kp F_is_integer.b .nil pass0 (pa_cons (pv 0) pa_nil)) (pe_one (pe_chain op_le op_le (pv 1) (pv 0) (pv 2)))))), ?_⟩
    refine ⟨_, rfl, x, rfl, _, rfl, ite2 (fun h => ?_) (fun h => ?_)⟩
    · cases x with
      | i k =>
        refine ⟨_, rfl, _, rfl, _, _, rfl, rfl, _, rfl, ?_⟩
        simp only [rngB] at q
        refine ite2 (fun h1 => ?_) (fun h1 => ?_)
        · rw [h1, Bool.true_and] at q
          exact ⟨_, rfl, _, _, rfl, rfl, q⟩
        · rw [Bool.eq_false_iff.mpr h1, Bool.false_and] at q
          exact q
      | s l => cases h
      | n => cases h
    · cases x with
      | i k => exact absurd rfl h
      | s l => exact q
      | n => exact q
def spNumber : Sp := fun vs H Q _ => ∃ x : Itm, vs = [x.v] ∧ Q (.bl (numB x)) H
theorem ok_is_number {f f1 f2 : Addr} {fd fd1 fd2 : FuncData} (F : Fn K mg "is_number" s_is_number ["thing"] f fd) (B : Con mg tm tn tb) (F_is_integer : Fn K mg "is_integer" s_is_integer ["thing"] f1 fd1) (F_is_between : Fn K mg "is_between" s_is_between ["thing", "least", "most"] f2 fd2) : FnOk P w K mg base CX0 3 f fd ["thing"] spNumber := by
  have G_is_between : FnOk P w K mg base CX0 2 f2 fd2 ["thing", "least", "most"] spBetween := ok_is_between F_is_between B F_is_integer
  refine F.F.ok sc_is_number (fun vs H Q E h => ?_) (fun cdv A outer s H vs Q E hr h => ?_)
  · obtain ⟨x, rfl, _⟩ := h
    rfl
  · obtain ⟨x, rfl, q⟩ := h
    refine ⟨_, (pss_one (ps_ret (pe_call G_is_between (hr.mono (by decide)) (by rfl) F_is_between.g F_is_between.F.kp F_is_between.b .nil pass0 (pa_cons (pv 0) (pa_cons pe_int (pa_cons (pe_glob (v := .int 1000000000) rfl B.g_NUMBER_MOST ⟨_, rfl⟩) pa_nil)))))), ?_⟩
    refine ⟨_, rfl, x, 0, 1000000000, rfl, ?_⟩
    cases x <;> exact q
def spBody : Sp := fun vs H Q _ => ∃ x : Itm, vs = [x.v] ∧ (∀ l, x = .s l → l.length ≤ 100000) ∧ Q (.bl (bodyB x)) H
theorem ok_is_body {f f1 : Addr} {fd fd1 : FuncData} (F : Fn K mg "is_body" s_is_body ["thing"] f fd) (B : Con mg tm tn tb) (F_is_plain : Fn K mg "is_plain" s_is_plain ["string"] f1 fd1) : FnOk P w K mg base CX0 2 f fd ["thing"] spBody := by
  have G_is_plain : FnOk P w K mg base CX0 1 f1 fd1 ["string"] spPlain := ok_is_plain F_is_plain
  refine F.F.ok sc_is_body (fun vs H Q E h => ?_) (fun cdv A outer s H vs Q E hr h => ?_)
  · obtain ⟨x, rfl, _⟩ := h
    rfl
  · obtain ⟨x, rfl, hb, q⟩ := h
    refine ⟨_, (pss_one (ps_ret (pe_and (pe_callB call_isi (by rfl) B.n_isinstance (by decide +kernel) (pa_cons (pv 0) (pa_cons (pe_bltn (v := .ty "str") (by rfl) B.n_str (by decide +kernel) rfl) pa_nil))) (pe_and (pe_cmpR op_le (pe_callB call_len (by rfl) B.n_len PySem.boot_len (pa_cons (pv 0) pa_nil)) (pe_glob (v := .int 150) rfl B.g_BODY_MOST ⟨_, rfl⟩) (nomark _)) (pe_one (pe_call G_is_plain (hr.mono (by decide)) (by rfl) F_is_plain.g F_is_plain.F.kp F_is_plain.b .nil pass0 (pa_cons (pv 0) pa_nil))))))), ?_⟩
    refine ⟨x.v, rfl, x.v, .ty "str", _, _, _, rfl, .ty "str", x.tyx, isi_kit x (.inr (.inr rfl)), _, rfl, ite2 (fun h => ?_) (fun h => ?_)⟩
    · cases x with
      | s l =>
        have hl := hb l rfl
        refine ⟨_, rfl, .str (S l), _, rfl, ⟨sz (by rw [S_len]; omega), rfl⟩, _, _, rfl, rfl, _, rfl, ?_⟩
        simp only [bodyB] at q
        rw [S_len]
        have e : decide ((l.length : Int) ≤ 150) = decide (l.length ≤ 150) := by
          rw [Bool.eq_iff_iff, decide_eq_true_eq, decide_eq_true_eq]
          omega
        rw [e]
        refine ite2 (fun h1 => ?_) (fun h1 => ?_)
        · rw [h1, Bool.true_and] at q
          exact ⟨_, rfl, l, rfl, q⟩
        · rw [Bool.eq_false_iff.mpr h1, Bool.false_and] at q
          exact q
      | i k => cases h
      | n => cases h
    · cases x with
      | s l => exact absurd rfl h
      | i k => exact q
      | n => exact q
def spItem : Sp := fun vs H Q _ => ∃ (k : Nat) (x : Itm), k ≤ 2 ∧ vs = [.str (kindS k), x.v] ∧ (∀ l, x = .s l → l.length ≤ 100000) ∧ Q (.bl (itmB k x)) H
end
end Ag

end
/-! ## Kit -/
section
set_option linter.all false
set_option maxRecDepth 100000
namespace Ag
open PySem PySem.Spec PyProof.Rows L2
open SX (S S_len S_cat S_inj)
section
variable {J : It} {n : Nat} {G : Hp → Prop} {Y : Nat → Hp → V → Hp → Prop}
/-- a comprehension without tests: R stays, each item is as v says of its place -/
theorem lc_all (w : Walk J n G Y) {g : TG} {te : TE} {vs : List Nat} {σ : L2.St} {H1 : Hp} {D : Addr} {Qd : Hp → Prop} (R : Hp → Prop) (v : Nat → V → Prop) (hn : n ≤ 16000000) (r0 : R H1) (rD : ∀ H o, R H → R (upd H D o)) (hG : ∀ H, R H → G H)
    (hs : ∀ i x H H' xs (k : VK), i < n → R H → H D = some (.lst xs) → Y i H x H' → (∀ y H4, v i y → R H4 → H4 D = some (.lst xs) → k y H4) → g x (wipe σ vs) H' fun σ2 H2 => wipe σ2 vs = wipe σ vs ∧ te σ2 H2 k)
    (hd : ∀ H xs, xs.length = n → (∀ i y, xs[i]? = some y → v i y) → R H → H D = some (.lst xs) → Qd H) :
    ∃ W : Nat → Nat → Hp → Prop, (∃ m, W 0 m (upd H1 D (.lst []))) ∧ ∀ i m H, W i m H →
      (J.stop i H ∧ Qd H) ∨ (J.go i H ∧ ∃ Nx : Hp → Prop, (∀ H', Nx H' → ∃ m', m' < m ∧ W (i + 1) m' H') ∧ ∀ x H', J.yld i H x H' → g x (wipe σ vs) H' fun σ2 H2 => wipe σ2 vs = wipe σ vs ∧ tYes σ2 H2 fun b H3 =>
        if b = true then te σ2 H3 fun y H4 => ∃ acc, H4 D = some (.lst acc) ∧ acc.length < sizeLine ∧ Nx (upd H4 D (.lst (acc ++ [y]))) else Nx H3) := by
  refine lc_it (g := g) (tt := tYes) (te := te) (vs := vs) (σ := σ) w (fun i H => ∃ xs : List V, xs.length = i ∧ (∀ j y, xs[j]? = some y → v j y) ∧ R H ∧ H D = some (.lst xs)) ⟨[], rfl, fun j y h => by simp at h, rD _ _ r0, upd_same⟩ (fun i H hi p => ?_) (fun i x H H' hi p hy => ?_) (fun H p => ?_)
  · obtain ⟨xs, _, _, r, _⟩ := p
    exact hG H r
  · obtain ⟨xs, hl, hv, r, hD⟩ := p
    refine hs i x H H' xs _ hi r hD hy ?_
    rintro y H4 hvy r4 h4
    refine ⟨xs, h4, ?_, xs ++ [y], by simp [hl], fun j z hz => ?_, rD _ _ r4, upd_same⟩
    · rw [sizeLine_eq]; omega
    · rw [List.getElem?_append] at hz
      split at hz
      · exact hv j z hz
      · rename_i hj
        have e : j - xs.length = 0 := by
          cases hq : j - xs.length with
          | zero => rfl
          | succ k => rw [hq] at hz; simp at hz
        rw [e] at hz
        simp at hz
        subst hz
        have : j = i := by omega
        subst this
        exact hvy
  · obtain ⟨xs, hl, hv, r, hD⟩ := p
    exact hd H xs hl hv r hD
end
/-! ### cuts of texts -/
theorem sIx_at {n d a : Nat} (h : a ≤ n) : HT.sIx n d (some (a : Int)) = a := by rw [HT.sIx_nat, Nat.min_eq_left h]
theorem cut_S {l : List Nat} {a b : Nat} (ha : a ≤ l.length) : cutS (S l) (some (a : Int)) (some (b : Int)) = S ((l.drop a).take (b - a)) := by
  unfold cutS
  rw [S_len, sIx_at ha, HT.sIx_nat]
  congr 1
  congr 1
  by_cases hb : b ≤ l.length
  · rw [Nat.min_eq_left hb]
  · rw [Nat.min_eq_right (by omega), List.take_of_length_le (by rw [List.length_drop]; exact Nat.le_refl _), List.take_of_length_le (by rw [List.length_drop]; omega)]
theorem cut_from {l : List Nat} {a : Nat} (ha : a ≤ l.length) : cutS (S l) (some (a : Int)) none = S (l.drop a) := by
  unfold cutS
  rw [S_len, sIx_at ha, HT.sIx_none]
  congr 1
  congr 1
  rw [List.take_of_length_le (by rw [List.length_drop]; exact Nat.le_refl _)]
theorem cut_to {l : List Nat} {b : Nat} : cutS (S l) none (some (b : Int)) = S (l.take b) := by
  unfold cutS
  rw [S_len, HT.sIx_none, HT.sIx_nat, List.drop_zero, Nat.sub_zero]
  congr 1
  congr 1
  by_cases hb : b ≤ l.length
  · rw [Nat.min_eq_left hb]
  · rw [Nat.min_eq_right (by omega), List.take_of_length_le (Nat.le_refl _), List.take_of_length_le (by omega)]
end Ag

end
/-! ## Kit2 -/
section
set_option linter.all false
set_option maxRecDepth 100000
namespace Ag
open PySem PySem.Spec PyProof.Rows L2
open SX (S S_len S_cat S_inj)
/-! ### str * int -/
theorem foldl_cps (z : List Nat) (n : Nat) : (List.replicate n (S z).cps).foldl (· ++ ·) #[] = (List.replicate n z).flatten.toArray := by
  have key : ∀ (n : Nat) (acc : Array Nat), (List.replicate n (S z).cps).foldl (· ++ ·) acc = acc ++ (List.replicate n z).flatten.toArray := by
    intro n
    induction n with
    | zero => intro acc; simp
    | succ n ih =>
      intro acc
      rw [List.replicate_succ, List.foldl_cons, ih, List.replicate_succ, List.flatten_cons]
      apply Array.ext'
      simp
  rw [key n #[]]
  simp
theorem mul_S (z : List Nat) (n : Nat) : Txt.mul (S z) (n : Int) = S (List.replicate n z).flatten := by
  unfold Txt.mul
  by_cases h0 : n = 0
  · subst h0
    rfl
  · rw [if_neg (by omega)]
    split
    · rename_i h
      simp only [Bool.or_eq_true, beq_iff_eq] at h
      rcases h with h | h
      · have : n = 1 := by omega
        subst this
        simp
      · rw [S_len] at h
        have : z = [] := List.length_eq_zero_iff.mp h
        subst this
        simp
    · rw [show ((n : Int)).toNat = n by simp, foldl_cps]
theorem op_rep_str {X : Cx} : OpR X (binaryOp .Mult) (fun x y H Q => ∃ (z : List Nat) (n : Nat), x = .str (S z) ∧ y = .int (n : Int) ∧ z.length * n ≤ 16000000 ∧ n ≤ 16000000 ∧ z.length ≤ 16000000 ∧ Q (.str (S (List.replicate n z).flatten)) H) := by
  intro pins s σ H x y v u Q I rx ry h
  obtain ⟨z, n, rfl, rfl, h1, h2, h3, q⟩ := h
  obtain ⟨t, rfl⟩ := rx
  obtain ⟨t', rfl⟩ := ry
  refine SB.mul ⟨?_, fun _ _ => ?_, fun _ _ => ?_⟩ (fun a k => ?_)
  · rw [Bool.or_eq_false_iff, decide_eq_false_iff_not, decide_eq_false_iff_not]
    omega
  · rename_i a b
    have hn : (1 : Int) ≤ (n : Int) := by omega
    have : (2 ^ 63 - 1) / (n : Int) ≥ (2 ^ 63 - 1) / 16000000 := by
      rw [ge_iff_le, Int.le_ediv_iff_mul_le (by omega)]
      have e : ((2 ^ 63 - 1 : Int) / 16000000) = 576460752303 := by decide
      rw [e]
      omega
    have e : ((2 ^ 63 - 1 : Int) / 16000000) = 576460752303 := by decide
    rw [S_len]
    omega
  · rw [S_len]
    show decide (z.length * (n : Int).toNat > sizeLine) = false
    rw [decide_eq_false_iff_not, sizeLine_eq, show ((n : Int)).toNat = n by simp]
    omega
  · rw [mul_S]
    exact ⟨.str _, H, I.tok _, ⟨_, rfl⟩, q⟩
/-! ### for i, c in enumerate(text) -/
def Ites (x : Str) : It :=
  ⟨fun i _ => i < x.cps.size, fun i H v H' => ∃ T c, v = .ref T ∧ H T = none ∧ H' = upd H T (.tup [.int (i : Nat), .str ⟨#[c]⟩]) ∧ x.cps[i]? = some c, fun i _ => i = x.cps.size⟩
theorem walk_enumS {x : Str} : Walk (Ites x) x.cps.size (fun _ => True) (fun i H v H' => ∃ T c, v = .ref T ∧ H T = none ∧ H' = upd H T (.tup [.int (i : Nat), .str ⟨#[c]⟩]) ∧ x.cps[i]? = some c) :=
  ⟨fun _ _ h _ => h, fun _ _ => rfl, fun _ _ _ _ _ _ z => z⟩
theorem draws_str {P : Program} {w : World} {A : Around} (hh : A.handled = none) (it : Addr) (x : Str) (t : Tok) {ty : String} (hty : ty = "str_ascii_iterator" ∨ ty = "str_iterator") :
    Draws P w A it [it] x.cps.size (fun i v => ∃ c u, x.cps[i]? = some c ∧ v = .str ⟨#[c]⟩ u) (fun i h => h.IsStrIter it ty x t i) := by
  rcases hty with rfl | rfl
  · exact Draws.strAscii hh it x t
  · exact Draws.strWide hh it x t
theorem turn_enumS {P : Program} {w : World} {K : PySem.W.Frag} {elts : List Expr} {kk : Nat} {tpos : Pos} (x : Str) (t : Tok) (ty : String) (hty : ty = "str_ascii_iterator" ∨ ty = "str_iterator") (e it : Addr) :
    Turn P w K (.Tuple elts kk tpos) (Ites x) [e, it] e (fun i h => (∃ old, IsEnum h e it ((i : Nat) : Int) old) ∧ h.IsStrIter it ty x t i ∧ e ≠ it) where
  mem := List.mem_cons_self
  obj := by
    rintro i h ⟨⟨old, he⟩, ⟨o, ho, hc, hd⟩, _⟩ b hb
    rcases List.mem_cons.mp hb with rfl | hb
    · exact ⟨_, he, fun v q => by cases q⟩
    · obtain rfl := List.mem_singleton.mp hb
      exact ⟨o, ho, fun v q => by rw [hd] at q; cases q⟩
  keep := by
    rintro i h h' ⟨⟨old, he⟩, ⟨o, ho, r⟩, hne⟩ k
    exact ⟨⟨old, k e List.mem_cons_self _ he⟩, ⟨o, k it (List.mem_cons_of_mem _ List.mem_cons_self) o ho, r⟩, hne⟩
  item := by
    intro X hP hw hK hc i pins s σ H E I hf st hg
    subst hP hw hK
    obtain ⟨⟨old, he⟩, hit, hne⟩ := st
    have hel : e < s.heap.objs.size := Heap.lt_size he
    have hil : it < s.heap.objs.size := by obtain ⟨_, q, _⟩ := hit; exact Heap.lt_size q
    have D := draws_str (P := X.prog) (w := X.w) (A := X.A.in1) (I.ok.hd hc) it x t hty
    refine wpAny_pyNext_enum_itemD D he hit hg hne (fun z => hne (List.mem_singleton.mp z)) ?_
    rintro v h' tk ⟨c, u, hcx, rfl⟩ ho hit' hT hsz hk
    refine ⟨_, rfl, wpAny_letOwnedTupleGo_enum (s := { s with heap := h', toks := tk + 1 }) ho ?_⟩
    intro h'' he' sb
    have hT2 : h''.get? s.heap.objs.size = some { cls := .type "tuple", data := .seq #[.int i tk, .str ⟨#[c]⟩ u] } := (sb.2 _ (Nat.ne_of_gt hel)).trans hT
    have ok : ObjOk X.prog X.w (upd H s.heap.objs.size (.tup [.int (i : Nat), .str ⟨#[c]⟩])) h'' s.heap.objs.size (.tup [.int (i : Nat), .str ⟨#[c]⟩]) :=
      ⟨by show 2 ≤ sizeLine; decide, [.int i tk, .str ⟨#[c]⟩ u], .cons ⟨_, rfl⟩ (.cons ⟨_, rfl⟩ .nil), ⟨_, hT2, rfl, _, rfl⟩⟩
    have I1 : Inv X pins σ (upd H s.heap.objs.size (.tup [.int (i : Nat), .str ⟨#[c]⟩])) { s with heap := h'', toks := tk + 1 } :=
      I.turnedNew (ch := [e, it]) (fun b ob hb q => (sb.2 b (fun z => hb (by rw [z]; exact List.mem_cons_self))).trans (hk b ob (fun z => hb (by rw [z]; exact List.mem_cons_self)) (fun z => hb (by rw [z]; exact List.mem_cons_of_mem _ List.mem_cons_self)) q)) hf (Nat.le_refl _) ok
    have e1 : ((i + 1 : Nat) : Int) = (i : Int) + 1 := by omega
    have hit2 : h''.IsStrIter it ty x t (i + 1) := by
      obtain ⟨o, q1, q2⟩ := hit'
      exact ⟨o, (sb.2 it hne.symm).trans q1, q2⟩
    refine ⟨.ref s.heap.objs.size, _, I1, rfl, ⟨_, c, rfl, I.hok.fresh (Nat.le_refl _), rfl, hcx⟩, ⟨⟨_, by rw [e1]; exact he'⟩, hit2, hne⟩, fun b hb => ?_⟩
    have hb' : b < s.heap.objs.size := by
      rcases List.mem_cons.mp hb with rfl | z
      · exact hel
      · rw [List.mem_singleton.mp z]
        exact hil
    rw [upd_ne (Nat.ne_of_lt hb')]
    exact (hf b hb).1
  done := by
    intro X hP hw hK hc i pins s σ H E I hf st hg
    subst hP hw hK
    obtain ⟨⟨old, he⟩, hit, hne⟩ := st
    obtain ⟨f0, f1, f2, f3, f4, f5⟩ := hf it (List.mem_cons_of_mem _ List.mem_cons_self)
    obtain rfl : i = x.cps.size := hg
    have D := draws_str (P := X.prog) (w := X.w) (A := X.A.in1) (I.ok.hd hc) it x t hty
    exact wpAny_pyNext_enum_endD D he hit fun h' eb => ⟨rfl, I.turned (t' := s.toks) (fun b o hb q => eb b o hb q) f0 f1 f3 f4 f5⟩
  self := fun A i s Q E st h => st.1.elim fun _ z => wpAny_pyIter_enum z h
def iEnumS (ta : TA) : TI := fun σ H R => ta σ H fun vs H1 => ∃ x, vs = [.str x] ∧ R (Ites x) H1
theorem pi_enumS {X : Cx} {e : Expr} {ta : TA} {p pos tpos : Pos} {elts : List Expr} {kk : Nat} (hg : Gl X "enumerate") (hm : X.mg "enumerate" = none) (ha : PA X [e] ta) (hs : starEach [e] X.env = [(false, eval e X.env)] := by rfl) :
    PI X (.Tuple elts kk tpos) (.Call (.Name "enumerate" p) [e] [] pos) (iEnumS ta) := by
  constructor
  intro pins s σ H R I h
  refine Call_ (ld_blt I hg hm boot_enumerate (PyProof.Rows.callWith_type1 (thn (ha.run pos pins s σ H _ I h) ?_) hs rfl))
  rintro us s1 ⟨vs, H1, I1, r1, x, rfl, q⟩
  obtain ⟨u, rfl, t, rfl⟩ := vals1 r1
  refine call_enumerate_str fun h' he hit hsz hk => wpAny_pyIter_enum he ?_
  have I2 : Inv X pins σ H1 { s1 with heap := h' } := I1.kept (t' := s1.toks) hk
  have hty : strIterType x = "str_ascii_iterator" ∨ strIterType x = "str_iterator" := by
    unfold strIterType
    split
    · exact .inl rfl
    · exact .inr rfl
  refine ⟨s1.heap.objs.size + 1, [s1.heap.objs.size + 1, s1.heap.objs.size], _, _, H1, rfl, I2, turn_enumS x t _ hty (s1.heap.objs.size + 1) s1.heap.objs.size, ⟨⟨.none, he⟩, hit, Nat.succ_ne_self _⟩, ?_, q⟩
  intro b hb
  have hle : s1.heap.objs.size ≤ b := by
    rcases List.mem_cons.mp hb with rfl | z
    · exact Nat.le_succ _
    · rw [List.mem_singleton.mp z]
      exact Nat.le_refl _
  exact I1.fpOk hle (I1.hok.fresh hle)
/-- a target of two names, where a comprehension's block runs -/
theorem pg_two {X : Cx} (K : PySem.W.Frag) {i j : Nat} {x y : Str} {px py pt : Pos} {k : Nat} (hc : X.calm = true) (hN : X.N.Nodup) (hi : X.N[i]? = some x) (hj : X.N[j]? = some y) (hx : X.env.scope.names.lookup x = some .local) (hy : X.env.scope.names.lookup y = some .local) (hK : X.K = K) :
    PG X (.Tuple [.Name x px, .Name y py] k pt) (gTup K 2 (gCons (gName i) (gCons (gName j) gNil))) := by
  subst hK
  exact pg_tup hc (pgs_cons (pg_name hN hi (.inl hx) (.inr hx)) (pgs_cons (pg_name hN hj (.inl hy) (.inr hy)) pgs_nil))
end Ag

end
/-! ## Kit3 -/
section
set_option linter.all false
set_option maxRecDepth 100000
namespace Ag
open PySem PySem.Spec PyProof.Rows L2
open SX (S S_len S_cat S_inj)
def chars (z : List Nat) : List V := z.map fun c => V.str (S [c])
theorem call_list_S {X : Cx} (hc : X.calm = true) : CallR X (.type "list") (fun xs H Q => ∃ z : List Nat, xs = [.str (S z)] ∧ z.length ≤ 16000000 ∧ ∀ l, H l = none → Q (.ref l) (upd H l (.lst (chars z)))) := by
  intro pins s σ H xs us Q I r h
  obtain ⟨z, rfl, hz, q⟩ := h
  obtain ⟨u, rfl, t, rfl⟩ := vals1 r
  have hsz : (S z).cps.size = z.length := by simp
  refine PySem.call_list_str (I.ok.hd hc) (S z) t (fun h' tk acc c' kp e ha => ?_) (by rw [hsz, sizeLine_eq]; omega)
  have rv : Vals (chars z) acc.toList := by
    refine L2.vals_of_at ?_ ?_
    · have e1 := ha.1
      rw [hsz] at e1
      unfold chars
      rw [List.length_map, Array.length_toList]
      exact e1.symm
    · intro j x u hx hu
      obtain ⟨c, tk', hc', rfl⟩ := ha.2 j u (by simpa using hu)
      unfold chars at hx
      rw [List.getElem?_map] at hx
      have : z[j]? = some c := by simpa using hc'
      rw [this] at hx
      cases hx
      exact ⟨_, rfl⟩
  refine ⟨.ref s.heap.objs.size, upd H s.heap.objs.size (.lst (chars z)), I.laid kp (Nat.le_refl _) ⟨?_, acc.toList, c', rv, ?_⟩, rfl, q _ (I.hok.fresh (Nat.le_refl _))⟩
  · unfold chars
    rw [List.length_map, sizeLine_eq]
    omega
  · simpa using e
end Ag

end
/-! ## P2 -/
section
set_option linter.all false
set_option maxRecDepth 100000
namespace Ag
open PySem PySem.Spec PyProof.Rows L2
open SX (S S_len S_cat S_inj)
section
variable {P : Program} {w : World} {K : PySem.W.Frag} {mg : Str → Option Value} {base : Heap} {tm tn tb : Tok}
def isTextB (l : List Nat) : Bool := decide (l.length ≤ 200) && plainL l
def spIsText : Sp := fun vs H Q _ => ∃ l : List Nat, vs = [.str (S l)] ∧ l.length ≤ 1000000 ∧ Q (.bl (isTextB l)) H
/-- what is_rest tells -/
def isRestB (l : List Nat) : Bool := if isDec (spS l) 200 = true then decide (((spT l).getD []).length ≤ digitsVal (spS l)) && plainL ((spT l).getD []) else decide (l = [])
theorem colonS : (Str.ofString ":") = S [58] := by decide +kernel
theorem par_len {l p q : List Nat} (h : TL.par [58] [] l = some (p, q)) : p.length ≤ l.length ∧ q.length ≤ l.length := by
  have key : ∀ (l acc p q : List Nat), TL.par [58] acc l = some (p, q) → p.length ≤ acc.length + l.length ∧ q.length ≤ l.length := by
    intro l
    induction l with
    | nil => intro acc p q h; simp [TL.par] at h
    | cons c cs ih =>
      intro acc p q h
      by_cases hc : TL.pre [58] (c :: cs) = true
      · simp only [TL.par, hc, if_true] at h
        cases h
        simp
      · simp only [TL.par, hc] at h
        have := ih _ _ _ h
        simp at this ⊢
        omega
  have := key l [] p q h
  simpa using this
theorem sp_len (l : List Nat) : (spS l).length ≤ l.length ∧ ((spT l).getD []).length ≤ l.length := by
  unfold spS spT
  cases h : TL.par [58] [] l with
  | none => simp
  | some pq =>
    obtain ⟨p, q⟩ := pq
    exact par_len h
theorem part_S (l : List Nat) : ∃ m, Txt.partition (S l) (S [58]) = (S (spS l), m, S ((spT l).getD [])) := by
  unfold spS spT
  cases h : TL.par [58] [] l with
  | none => exact ⟨_, SX.partition_none (by simp) h⟩
  | some pq =>
    obtain ⟨p, q⟩ := pq
    exact ⟨_, SX.partition_some (by simp) h⟩
def spIsRest : Sp := fun vs H Q _ => ∃ l : List Nat, vs = [.str (S l)] ∧ l.length ≤ 1000000 ∧ ∀ H', Same H H' → Q (.bl (isRestB l)) H'
theorem isDec_digs {l : List Nat} {m : Nat} (h : isDec l m = true) : l.all digC = true ∧ l ≠ [] := by
  obtain ⟨k, _, rfl⟩ := isDec_iff.mp h
  refine ⟨?_, numL_ne k⟩
  rw [List.all_eq_true]
  intro c hc
  have := numL_all k c hc
  simp [digC]
  omega
theorem isDec_len {l : List Nat} (h : isDec l 200 = true) : l.length ≤ 3 ∧ digitsVal l ≤ 200 := by
  obtain ⟨k, hk, rfl⟩ := isDec_iff.mp h
  exact ⟨numL_len3 hk, by rw [numL_val]; exact hk⟩
theorem ok_is_rest {f f1 f2 : Addr} {fd fd1 fd2 : FuncData} (F : Fn K mg "is_rest" s_is_rest ["thing"] f fd) (B : Con mg tm tn tb) (F_is_plain : Fn K mg "is_plain" s_is_plain ["string"] f1 fd1)
    (F_is_decimal : Fn K mg "is_decimal" s_is_decimal ["string", "most"] f2 fd2) : FnOk P w K mg base CX0 2 f fd ["thing"] spIsRest := by
  have G_is_plain : FnOk P w K mg base CX0 1 f1 fd1 ["string"] spPlain := ok_is_plain F_is_plain
  have G_is_decimal : FnOk P w K mg base CX0 1 f2 fd2 ["string", "most"] spDec := ok_is_decimal F_is_decimal B.toBlt
  refine F.F.ok sc_is_rest (fun vs H Q E h => ?_) (fun cdv A outer s H vs Q E hr h => ?_)
  · obtain ⟨l, rfl, _⟩ := h
    rfl
  · obtain ⟨l, rfl, hl, q⟩ := h
    refine ⟨_, (pss_cons (ps_if (pt_not (pt_val (pe_callB call_isi (by rfl) B.n_isinstance (by decide +kernel) (pa_cons (pv 0) (pa_cons (pe_bltn (v := .ty "str") (by rfl) B.n_str (by decide +kernel) rfl) pa_nil)))))
      (pss_one (ps_ret pe_bl))
      pss_nil)
      (pss_cons (ps_asg (pe_partition (pv 0) pe_str) (pg_tup rfl (pgs_cons (pg_name (i := 1) sc_is_rest.nd rfl (Or.inl rfl)) (pgs_cons (pg_name (i := 2) sc_is_rest.nd rfl (Or.inl rfl)) (pgs_cons (pg_name (i := 3) sc_is_rest.nd rfl (Or.inl rfl)) pgs_nil)))))
      (pss_cons (ps_if (pt_not (pt_val (pe_call G_is_decimal (hr.mono (by decide)) (by rfl) F_is_decimal.g F_is_decimal.F.kp F_is_decimal.b .nil pass0 (pa_cons (pv 1) (pa_cons (pe_glob (v := .int 200) rfl B.g_TEXT_MOST ⟨_, rfl⟩) pa_nil)))))
      (pss_one (ps_ret (pe_cmpR op_eq (pv 0) pe_str (nomark _))))
      pss_nil)
      (pss_one (ps_ret (pe_and (pe_cmpR op_le (pe_callB call_len_str (by rfl) B.n_len PySem.boot_len (pa_cons (pv 3) pa_nil)) (pe_callTy call_int_str (by rfl) B.n_int (by decide +kernel) (pa_cons (pv 1) pa_nil)) (nomark _)) (pe_one (pe_call G_is_plain (hr.mono (by decide)) (by rfl) F_is_plain.g F_is_plain.F.kp F_is_plain.b .nil pass0 (pa_cons (pv 3) pa_nil))))))))), ?_⟩
    refine ⟨.str (S l), rfl, .str (S l), .ty "str", _, _, true, rfl, .ty "str", .base (.str _), kit_ty (by decide +kernel), true, rfl, ?_⟩
    refine iteF ?_
    -- the three parts
    obtain ⟨m, em⟩ := part_S l
    have hs := sp_len l
    refine ⟨.str (S l), rfl, ⟨_, rfl⟩, S l, Str.ofString ":", rfl, rfl, by decide +kernel, sz (by rw [S_len]; omega), fun p hp => ?_⟩
    rw [colonS, em]
    refine ⟨p, _, rfl, SqT.of upd_same, rfl, _, _, rfl, _, _, rfl, _, _, rfl, rfl, ?_⟩
    refine ⟨_, rfl, spS l, 200, rfl, by omega, by decide, ?_⟩
    refine ⟨_, rfl, ?_⟩
    have sm : Same H (upd H p (.tup [.str (S (spS l)), .str m, .str (S ((spT l).getD []))])) := same_new hp
    unfold isRestB at q
    cases h1 : isDec (spS l) 200 with
    | false =>
      refine iteT ?_
      rw [h1, if_neg (by decide)] at q
      refine ⟨_, rfl, rfl, ?_⟩
      have e : decide (V.str (S l) = V.str (Str.ofString "")) = decide (l = []) := by
        have e0 : Str.ofString "" = S [] := by decide +kernel
        rw [e0, Bool.eq_iff_iff, decide_eq_true_eq, decide_eq_true_eq]
        constructor
        · intro z
          injection z with z
          exact S_inj z
        · rintro rfl
          rfl
      rw [e]
      exact q _ sm
    | true =>
      refine iteF ?_
      rw [h1, if_pos rfl] at q
      obtain ⟨d1, d2⟩ := isDec_digs h1
      obtain ⟨d3, d4⟩ := isDec_len h1
      refine ⟨_, rfl, S ((spT l).getD []), rfl, sz (by rw [S_len]; omega), ?_⟩
      refine ⟨_, rfl, S (spS l), _, rfl, int_S d1 d2 (by omega), by rw [S_len]; omega, _, _, rfl, rfl, _, rfl, ?_⟩
      rw [S_len]
      have e : decide ((((spT l).getD []).length : Int) ≤ ((digitsVal (spS l) : Nat) : Int)) = decide (((spT l).getD []).length ≤ digitsVal (spS l)) := by
        rw [Bool.eq_iff_iff, decide_eq_true_eq, decide_eq_true_eq]
        omega
      rw [e]
      refine ite2 (fun h2 => ?_) (fun h2 => ?_)
      · refine ⟨_, rfl, _, rfl, ?_⟩
        rw [h2, Bool.true_and] at q
        exact q _ sm
      · rw [Bool.eq_false_iff.mpr h2, Bool.false_and] at q
        exact q _ sm
def frm (t : List Nat) : List Nat := numL t.length ++ 58 :: (t ++ [44])
end
end Ag

end
/-! ## D0 -/
section
set_option linter.all false
set_option maxRecDepth 100000
namespace Ag
open PySem PySem.Spec PyProof.Rows L2
open SX (S S_len S_cat S_inj)
/-! ### data of any depth, dicts too, away from the deck -/
def At (p c : Addr) (H : Hp) (a : Addr) (o : HO) : Prop := a ≠ p ∧ a ≠ c ∧ H a = some o
def kD : Key → PyData
  | .inl i => .int i
  | .inr x => .str x
mutual
inductive Dg (p c : Addr) (H : Hp) : V → PyData → Prop
  | non : Dg p c H .non .none
  | bl (b : Bool) : Dg p c H (.bl b) (.bool b)
  | int (i : Int) : Dg p c H (.int i) (.int i)
  | str (x : Str) : Dg p c H (.str x) (.str x)
  | lst {a : Addr} {xs : List V} {ds : List PyData} : At p c H a (.lst xs) → DgA p c H xs ds → Dg p c H (.ref a) (.list ds)
  | tup {a : Addr} {xs : List V} {ds : List PyData} : At p c H a (.tup xs) → DgA p c H xs ds → Dg p c H (.ref a) (.tuple ds)
  | dic {a : Addr} {kvs : List (Key × V)} {ds : List (PyData × PyData)} : At p c H a (.dK kvs) → DgK p c H kvs ds → Dg p c H (.ref a) (.dict ds)
inductive DgA (p c : Addr) (H : Hp) : List V → List PyData → Prop
  | nil : DgA p c H [] []
  | cons {v : V} {vs : List V} {d : PyData} {ds : List PyData} : Dg p c H v d → DgA p c H vs ds → DgA p c H (v :: vs) (d :: ds)
inductive DgK (p c : Addr) (H : Hp) : List (Key × V) → List (PyData × PyData) → Prop
  | nil : DgK p c H [] []
  | cons {k : Key} {v : V} {kvs : List (Key × V)} {d : PyData} {ds : List (PyData × PyData)} : Dg p c H v d → DgK p c H kvs ds → DgK p c H ((k, v) :: kvs) ((kD k, d) :: ds)
end
/-- what data leans on stays -/
def Kp (p c : Addr) (H H' : Hp) : Prop := ∀ b o, b ≠ p → b ≠ c → H b = some o → H' b = some o
theorem Kp.refl {p c : Addr} {H : Hp} : Kp p c H H := fun _ _ _ _ e => e
theorem Kp.trans {p c : Addr} {H H1 H2 : Hp} (a : Kp p c H H1) (b : Kp p c H1 H2) : Kp p c H H2 := fun x o h1 h2 e => b x o h1 h2 (a x o h1 h2 e)
theorem Kp.same {p c : Addr} {H H' : Hp} (s : Same H H') : Kp p c H H' := fun b o _ _ e => s b o e
theorem At.kp {p c a : Addr} {H H' : Hp} {o : HO} (h : At p c H a o) (g : Kp p c H H') : At p c H' a o := ⟨h.1, h.2.1, g a o h.1 h.2.1 h.2.2⟩
mutual
theorem Dg.kp {p c : Addr} {H H' : Hp} (g : Kp p c H H') : ∀ (d : PyData) (v : V), Dg p c H v d → Dg p c H' v d
  | .none, _, h => by cases h; exact .non
  | .bool _, _, h => by cases h; exact .bl _
  | .int _, _, h => by cases h; exact .int _
  | .str _, _, h => by cases h; exact .str _
  | .list ds, _, h => by
    cases h with
    | lst a b => exact .lst (a.kp g) (DgA.kp g ds _ b)
  | .tuple ds, _, h => by
    cases h with
    | tup a b => exact .tup (a.kp g) (DgA.kp g ds _ b)
  | .dict ds, _, h => by
    cases h with
    | dic a b => exact .dic (a.kp g) (DgK.kp g ds _ b)
theorem DgA.kp {p c : Addr} {H H' : Hp} (g : Kp p c H H') : ∀ (ds : List PyData) (vs : List V), DgA p c H vs ds → DgA p c H' vs ds
  | [], _, h => by cases h; exact .nil
  | d :: ds, _, h => by
    cases h with
    | cons a b => exact .cons (Dg.kp g d _ a) (DgA.kp g ds _ b)
theorem DgK.kp {p c : Addr} {H H' : Hp} (g : Kp p c H H') : ∀ (ds : List (PyData × PyData)) (vs : List (Key × V)), DgK p c H vs ds → DgK p c H' vs ds
  | [], _, h => by cases h; exact .nil
  | (_, d) :: ds, _, h => by
    cases h with
    | cons a b => exact .cons (Dg.kp g d _ a) (DgK.kp g ds _ b)
end
theorem Dg.to {p c : Addr} {H H' : Hp} {v : V} {d : PyData} (h : Dg p c H v d) (g : Kp p c H H') : Dg p c H' v d := Dg.kp g d v h
theorem DgA.to {p c : Addr} {H H' : Hp} {v : List V} {d : List PyData} (h : DgA p c H v d) (g : Kp p c H H') : DgA p c H' v d := DgA.kp g d v h
theorem DgA.len {p c : Addr} {H : Hp} : ∀ {vs : List V} {ds : List PyData}, DgA p c H vs ds → vs.length = ds.length
  | [], [], _ => rfl
  | _ :: _, _ :: _, .cons _ t => by rw [List.length_cons, List.length_cons, DgA.len t]
theorem DgA.at_ {p c : Addr} {H : Hp} : ∀ {vs : List V} {ds : List PyData} {i : Nat} {v : V}, DgA p c H vs ds → vs[i]? = some v → ∃ d, ds[i]? = some d ∧ Dg p c H v d
  | _ :: _, _ :: _, 0, _, .cons h _, e => by
    simp at e
    subst e
    exact ⟨_, rfl, h⟩
  | _ :: _, _ :: _, i + 1, _, .cons _ t, e => DgA.at_ (i := i) t (by simpa using e)
  | [], [], _, _, _, e => by simp at e
theorem DgA.app {p c : Addr} {H : Hp} : ∀ {vs ws : List V} {ds es : List PyData}, DgA p c H vs ds → DgA p c H ws es → DgA p c H (vs ++ ws) (ds ++ es)
  | [], _, [], _, _, h => h
  | _ :: _, _, _ :: _, _, .cons a b, h => .cons a (DgA.app b h)
theorem DgA.take {p c : Addr} {H : Hp} : ∀ {vs : List V} {ds : List PyData} (n : Nat), DgA p c H vs ds → DgA p c H (vs.take n) (ds.take n)
  | [], [], _, _ => by simpa using DgA.nil
  | _ :: _, _ :: _, 0, _ => by simpa using DgA.nil
  | _ :: _, _ :: _, n + 1, .cons a b => .cons a (DgA.take n b)
theorem DgA.drop {p c : Addr} {H : Hp} : ∀ {vs : List V} {ds : List PyData} (n : Nat), DgA p c H vs ds → DgA p c H (vs.drop n) (ds.drop n)
  | [], [], _, _ => by simpa using DgA.nil
  | _ :: _, _ :: _, 0, h => h
  | _ :: _, _ :: _, n + 1, .cons _ b => DgA.drop n b
theorem DgA.rev {p c : Addr} {H : Hp} : ∀ {vs : List V} {ds : List PyData}, DgA p c H vs ds → DgA p c H vs.reverse ds.reverse
  | [], [], _ => .nil
  | _ :: _, _ :: _, .cons a b => by
    rw [List.reverse_cons, List.reverse_cons]
    exact (DgA.rev b).app (.cons a .nil)
/-! ### the machine reads it -/
mutual
/-- no list at any depth -/
def noL : PyData → Bool
  | .none => true
  | .bool _ => true
  | .int _ => true
  | .str _ => true
  | .list _ => false
  | .tuple xs => noLA xs
  | .dict kvs => noLK kvs
def noLA : List PyData → Bool
  | [] => true
  | x :: xs => noL x && noLA xs
def noLK : List (PyData × PyData) → Bool
  | [] => true
  | (_, v) :: r => noL v && noLK r
end
section
variable {X : Cx} {pins : List (Addr × Obj)} {σ : L2.St} {H : Hp} {s : Shared} {p c : Addr}
theorem key_reads {P : Program} {w : World} {h : Heap} {k : Key} {v : Value} (e : (mixKind P w).is k v = true) : Reads h v (kD k) [] := by
  rcases keyIs_shape e with ⟨i, t, rfl, rfl⟩ | ⟨x, t, rfl, rfl⟩
  · exact .int i t
  · exact .str x t
mutual
theorem Dg.reads (I : Inv X pins σ H s) : ∀ (d : PyData) (v : V) (u : Value), Dg p c H v d → RelV v u → ∃ as, Reads s.heap u d as ∧ (noL d = true → sysModules ∉ as)
  | .none, _, _, h, r => by
    cases h
    cases r
    exact ⟨_, .none, by simp⟩
  | .bool b, _, _, h, r => by
    cases h
    cases r
    exact ⟨_, .bool b, by simp⟩
  | .int i, _, _, h, r => by
    cases h
    obtain ⟨t, rfl⟩ := r
    exact ⟨_, .int i t, by simp⟩
  | .str x, _, _, h, r => by
    cases h
    obtain ⟨t, rfl⟩ := r
    exact ⟨_, .str x t, by simp⟩
  | .list ds, _, _, h, r => by
    cases h with
    | lst ha hd =>
      cases r
      obtain ⟨its, rv, ⟨o, n, ho, hc, _, hdt⟩, _⟩ := I.list (SqL.of ha.2.2)
      obtain ⟨as, hr, hn⟩ := DgA.reads I ds _ its hd rv
      exact ⟨_, .list ho hc hdt hr, fun z => by simp [noL] at z⟩
  | .tuple ds, _, _, h, r => by
    cases h with
    | tup ha hd =>
      cases r
      obtain ⟨its, rv, ⟨o, ho, hc, n, hdt⟩, _⟩ := I.tuple (SqT.of ha.2.2)
      obtain ⟨as, hr, hn⟩ := DgA.reads I ds _ its hd rv
      exact ⟨_, .tuple ho hc hdt hr, fun z => hn (by simpa [noL] using z)⟩
  | .dict ds, _, _, h, r => by
    cases h with
    | dic ha hd =>
      cases r
      obtain ⟨_, hsys, vs, kv, o, es, ep, ho, hex, hdt, _, hps, _⟩ := I.hok _ _ ha.2.2
      obtain ⟨as, bs, r1, r2, n1, n2⟩ := DgK.reads I ds _ vs es.toList hd kv hps
      refine ⟨_, .dict ho hex.1 hdt r1 r2, ?_⟩
      intro hl z
      rcases List.mem_append.mp z with z | z
      · rcases List.mem_cons.mp z with z | z
        · rw [← z] at hsys
          simp at hsys
        · exact n1 z
      · exact n2 (by simpa [noL] using hl) z
theorem DgA.reads (I : Inv X pins σ H s) : ∀ (ds : List PyData) (vs : List V) (us : List Value), DgA p c H vs ds → Vals vs us → ∃ as, ReadsAll s.heap us ds as ∧ (noLA ds = true → sysModules ∉ as)
  | [], _, _, h, r => by
    cases h
    cases r
    exact ⟨_, .nil, by simp⟩
  | d :: ds, _, _, h, r => by
    cases h with
    | cons h1 h2 =>
      cases r with
      | cons r1 r2 =>
        obtain ⟨as, q1, n1⟩ := Dg.reads I d _ _ h1 r1
        obtain ⟨bs, q2, n2⟩ := DgA.reads I ds _ _ h2 r2
        have hh : ∀ z : noLA (d :: ds) = true, noL d = true ∧ noLA ds = true := fun z => by simpa [noLA] using z
        exact ⟨_, .cons q1 q2, fun z y => (List.mem_append.mp y).elim (n1 (hh z).1) (n2 (hh z).2)⟩
theorem DgK.reads (I : Inv X pins σ H s) : ∀ (ds : List (PyData × PyData)) (kvs : List (Key × V)) (vs : List (Key × Value)) (es : List DictEntry), DgK p c H kvs ds → KV kvs vs → Pairs (mixKind X.prog X.w) es vs →
    ∃ as bs, ReadsAll s.heap (es.map (·.key)) (ds.map (·.1)) as ∧ ReadsAll s.heap (es.map (·.val)) (ds.map (·.2)) bs ∧ sysModules ∉ as ∧ (noLK ds = true → sysModules ∉ bs)
  | [], _, _, _, h, r, q => by
    cases h
    cases r
    cases q
    exact ⟨_, _, .nil, .nil, by simp, by simp⟩
  | (k, d) :: ds, _, _, _, h, r, q => by
    cases h with
    | cons h1 h2 =>
      cases r with
      | cons r1 r2 =>
        cases q with
        | cons q1 q2 q3 =>
          obtain ⟨e1, e2⟩ := r1
          obtain ⟨as, bs, a1, a2, n1, n2⟩ := DgK.reads I ds _ _ _ h2 r2 q3
          obtain ⟨cs, b1, n3⟩ := Dg.reads I d _ _ h1 e2
          rw [← e1] at q1
          rw [← q2] at b1
          exact ⟨_, _, .cons (key_reads q1) a1, .cons b1 a2, by simpa using n1, fun z y => (List.mem_append.mp y).elim (n3 (by simp [noLK] at z; exact z.1)) (n2 (by simp [noLK] at z; exact z.2))⟩
end
/-- repr of data -/
theorem call_repr_any (hu : X.A.units + 66 < cLine) (hG : X.A.guards = some []) : CallR X (.builtin "repr") (fun xs H Q => ∃ x d p c, xs = [x] ∧ Dg p c H x d ∧ d.showable = true ∧ (d.hasDict = true → noL d = true) ∧ d.depth ≤ 64 ∧ d.shown.length ≤ sizeLine ∧ Q (.str d.shown) H) := by
  intro pins s σ H vs us Q I r h
  obtain ⟨x, d, p, c, rfl, hd, h1, hk, h3, h4, q⟩ := h
  obtain ⟨u, rfl, ru⟩ := vals1 r
  cases x with
  | ref a =>
    obtain ⟨as, rd, na⟩ := Dg.reads I d (.ref a) u hd ru
    obtain rfl : u = Value.ref a := ru
    exact repr_of_reads' rd h1 (fun z => na (hk z)) hG (by omega) (fun _ _ e => e) (fun h' u tk kp => ⟨.str d.shown, H, I.kept kp, ⟨_, rfl⟩, q⟩) h4
  | non =>
    cases hd
    obtain rfl : u = Value.none := ru
    exact PySem.P.repr_of_none ⟨.str _, H, I.tok _, ⟨_, rfl⟩, by rw [PyData.shown_none] at q; exact q⟩
  | bl b =>
    cases hd
    obtain rfl : u = Value.bool b := ru
    exact PySem.P.repr_of_bool ⟨.str _, H, I.tok _, ⟨_, rfl⟩, by rw [PyData.shown_bool] at q; exact q⟩
  | int i =>
    cases hd
    obtain ⟨t, rfl⟩ := ru
    exact PySem.P.repr_of_int (by simpa [PyData.showable] using h1) ⟨.str _, H, I.tok _, ⟨_, rfl⟩, by rw [PyData.shown_int] at q; exact q⟩
  | str z =>
    cases hd
    obtain ⟨t, rfl⟩ := ru
    rw [PyData.shown_str] at q h4
    exact PySem.P.repr_of_str ⟨.str _, H, I.tok _, ⟨_, rfl⟩, q⟩ h4
  | byt b => cases hd
  | flt b => cases hd
  | ty n => cases hd
/-- the type of data -/
def tyD : PyData → String
  | .none => "NoneType"
  | .bool _ => "bool"
  | .int _ => "int"
  | .str _ => "str"
  | .list _ => "list"
  | .tuple _ => "tuple"
  | .dict _ => "dict"
theorem Dg.tyx {K : PySem.W.Frag} {v : V} {d : PyData} (h : Dg p c H v d) : TyX K H v (.type (tyD d)) := by
  cases h with
  | non => exact .base .non
  | bl b => exact .base (.bl b)
  | int i => exact .base (.int i)
  | str x => exact .base (.str x)
  | lst a _ => exact .base (.lst a.2.2)
  | tup a _ => exact .base (.tup a.2.2)
  | dic a _ => exact .base (.dK a.2.2)
def isI : PyData → Bool
  | .int _ => true
  | .bool _ => true
  | _ => false
def isB : PyData → Bool
  | .bool _ => true
  | _ => false
def isS : PyData → Bool
  | .str _ => true
  | _ => false
def isT : PyData → Bool
  | .tuple _ => true
  | _ => false
section
variable {K : PySem.W.Frag}
theorem isi_I (d : PyData) : PySem.W.kitOne K (.type (tyD d)) (.type "int") = some (isI d) := by
  cases d <;> exact kit_ty (by simp only [tyD, isI]; decide +kernel)
theorem isi_B (d : PyData) : PySem.W.kitOne K (.type (tyD d)) (.type "bool") = some (isB d) := by
  cases d <;> exact kit_ty (by simp only [tyD, isB]; decide +kernel)
theorem isi_S (d : PyData) : PySem.W.kitOne K (.type (tyD d)) (.type "str") = some (isS d) := by
  cases d <;> exact kit_ty (by simp only [tyD, isS]; decide +kernel)
theorem isi_T (d : PyData) : PySem.W.kitOne K (.type (tyD d)) (.type "tuple") = some (isT d) := by
  cases d <;> exact kit_ty (by simp only [tyD, isT]; decide +kernel)
end
end
end Ag

end
/-! ## D1 -/
section
set_option linter.all false
set_option maxRecDepth 100000
namespace Ag
open PySem PySem.Spec PyProof.Rows L2
open AutoSeq1 (wpAny_loadPart')
open MeetsSeq SeqAt
/-! ### a dict is no text and no tuple -/
theorem dctS (z : Addr) (es : Array DictEntry) (e1 : Nat) (q : Option Addr) (sl : Array (Option Value)) (b : Str) (k : Tok) :
    Meets (Builtin.«dict.__eq__» ⟨[.ref z, .str b k], []⟩) (fun _ R s => s.heap.get? z = some { cls := .type "dict", dict := q, data := .dict es e1, slots := sl } ∧ R (.ok (.ret .notImplemented)) s) :=
  .of_wp fun pr w A R s y => by
    obtain ⟨hp, g, dr, tk, os⟩ := s
    obtain ⟨hz, y⟩ := y
    have f1 := F.sub_str_dict
    wp_walk using wpAny_loadPart' hz, wpAny_load hz
    exact ⟨_, rfl, y⟩
theorem strD (b : Str) (k : Tok) (z : Addr) (es : Array DictEntry) (e1 : Nat) (q : Option Addr) (sl : Array (Option Value)) :
    Meets (Builtin.«str.__eq__» ⟨[.str b k, .ref z], []⟩) (fun _ R s => s.heap.get? z = some { cls := .type "dict", dict := q, data := .dict es e1, slots := sl } ∧ R (.ok (.ret .notImplemented)) s) :=
  .of_wp fun pr w A R s y => by
    obtain ⟨hp, g, dr, tk, os⟩ := s
    obtain ⟨hz, y⟩ := y
    wp_walk using wpAny_loadPart' hz, wpAny_load hz
    exact ⟨_, rfl, y⟩
theorem dctT (z t : Addr) (es : Array DictEntry) (e1 : Nat) (q q2 : Option Addr) (sl sl2 : Array (Option Value)) (its : Array Value) (n : Nat) :
    Meets (Builtin.«dict.__eq__» ⟨[.ref z, .ref t], []⟩) (fun _ R s => s.heap.get? z = some { cls := .type "dict", dict := q, data := .dict es e1, slots := sl } ∧ s.heap.get? t = some { cls := .type "tuple", dict := q2, data := .seq its n, slots := sl2 } ∧ R (.ok (.ret .notImplemented)) s) :=
  .of_wp fun pr w A R s y => by
    obtain ⟨hp, g, dr, tk, os⟩ := s
    obtain ⟨hz, ht, y⟩ := y
    have f1 := F.sub_tuple_dict
    wp_walk using wpAny_loadPart' hz, wpAny_load hz, wpAny_loadPart' ht, wpAny_load ht
    exact ⟨_, rfl, y⟩
theorem tupD (t z : Addr) (es : Array DictEntry) (e1 : Nat) (q q2 : Option Addr) (sl sl2 : Array (Option Value)) (its : Array Value) (n : Nat) :
    Meets (Builtin.«tuple.__eq__» ⟨[.ref t, .ref z], []⟩) (fun _ R s => s.heap.get? z = some { cls := .type "dict", dict := q, data := .dict es e1, slots := sl } ∧ s.heap.get? t = some { cls := .type "tuple", dict := q2, data := .seq its n, slots := sl2 } ∧ R (.ok (.ret .notImplemented)) s) :=
  .of_wp fun pr w A R s y => by
    obtain ⟨hp, g, dr, tk, os⟩ := s
    obtain ⟨hz, ht, y⟩ := y
    have f1 := F.sub_dict_tuple
    wp_walk using wpAny_loadPart' hz, wpAny_load hz, wpAny_loadPart' ht, wpAny_load ht
    exact ⟨_, rfl, y⟩
section
variable {A : Around} {s : Shared}
theorem eq_strD {z : Addr} {o : Obj} {es : Array DictEntry} {e1 : Nat} (b : Str) (k : Tok) (ho : s.heap.get? z = some o) (hc : o.cls = .type "dict") (hd : o.data = .dict es e1) (hu : A.units < cLine) : EqAt A s (.str b k) (.ref z) false := by
  intro pr w E Q y
  obtain ⟨cls, q, data, sl⟩ := o
  simp only at hc hd
  subst hc hd
  unfold eqBool
  refine wpAny_holding (wpAny_ite_split (fun hab => absurd (eq_of_beq hab) nofun) fun _ => ?_)
  refine wpAny_bind ?_
  refine rc_eq_decline_or (k := false) (typeIs_str s b k) ⟨_, ho, rfl⟩ (by decide) F.sub_dict_str F.slot_str_eq F.slot_dict_eq_refl ?_ ?_ ?_ (.inr hu) (wpAny_truthy_bool y)
  · exact fun _ hq => call_meets F.slot_str_eq (typeIs_str s b k) F.entry_str_eq (F.args_str_eq_2 _ _) (strD b k z es e1 q sl) ⟨ho, hq⟩
  · exact fun _ hq => call_meets F.slot_dict_eq_refl ⟨_, ho, rfl⟩ F.entry_dict_eq (F.args_dict_eq_2 _ _) (dctS z es e1 q sl b k) ⟨ho, hq⟩
  · exact fun _ hq => wpAny_of_eq (rfl : isSame (.str b k) (.ref z) = pure false) hq
theorem ne_dt {z t : Addr} {o u : Obj} (ho : s.heap.get? z = some o) (hc : o.cls = .type "dict") (hu : s.heap.get? t = some u) (hc2 : u.cls = .type "tuple") : z ≠ t := by
  rintro rfl
  rw [ho] at hu
  cases hu
  rw [hc] at hc2
  exact absurd (Value.type.inj hc2) (by decide)
theorem rc_dictT {z t : Addr} {o : Obj} {es : Array DictEntry} {e1 : Nat} {its : Array Value} (ho : s.heap.get? z = some o) (hc : o.cls = .type "dict") (hd : o.data = .dict es e1) (ht : s.heap.IsTuple t its) (hu : A.units < cLine) :
    RcAt A s (.ref z) (.ref t) false := by
  intro pr w E Q y
  obtain ⟨u, hu1, hc2, n, hd2⟩ := ht
  have ne := ne_dt ho hc hu1 hc2
  obtain ⟨cls, q, data, sl⟩ := o
  obtain ⟨cls2, q2, data2, sl2⟩ := u
  simp only at hc hd hc2 hd2
  subst hc hd hc2 hd2
  refine rc_eq_decline_or (k := false) ⟨_, ho, rfl⟩ ⟨_, hu1, rfl⟩ (by decide) F.sub_tuple_dict F.slot_dict_eq F.slot_tuple_eq_refl ?_ ?_ ?_ (.inr hu) y
  · exact fun _ hq => call_meets F.slot_dict_eq ⟨_, ho, rfl⟩ F.entry_dict_eq (F.args_dict_eq_2 _ _) (dctT z t es e1 q q2 sl sl2 its n) ⟨ho, hu1, hq⟩
  · exact fun _ hq => call_meets F.slot_tuple_eq_refl ⟨_, hu1, rfl⟩ F.entry_tuple_eq (F.args_tuple_eq_2 _ _) (tupD t z es e1 q q2 sl sl2 its n) ⟨ho, hu1, hq⟩
  · intro Q' hq
    show wpAny _ _ (if (z == t) = true then pure true else _) _ _ _
    rw [if_neg (by simpa using ne)]
    refine wpAny_bind (wpAny_load ho (wpAny_bind (wpAny_load hu1 ?_)))
    split
    · rename_i h1 h2 _ _
      simp at h1
    · exact wpAny_pure hq
end
end Ag

end
/-! ## D2 -/
section
set_option linter.all false
set_option maxRecDepth 100000
namespace Ag
open PySem PySem.Spec PyProof.Rows L2
open SX (S S_len S_cat S_inj)
open SeqAt
/-! ### comparisons of data -/
section
variable {X : Cx}
def rEqG : R2 := fun x y H Q => ∃ p c d e, Dg p c H x d ∧ Dg p c H y e ∧ SeqAt.shaped d = true ∧ SeqAt.shaped e = true ∧ Q (.bl (PyData.eqv d e)) H
def rNeG : R2 := fun x y H Q => ∃ p c d e, Dg p c H x d ∧ Dg p c H y e ∧ SeqAt.shaped d = true ∧ SeqAt.shaped e = true ∧ Q (.bl (!PyData.eqv d e)) H
theorem op_eqG (hu : X.A.units + 64 < cLine) : OpR X (compareOp .Eq) rEqG := by
  intro pins s σ H x y v u Q I rx ry h
  obtain ⟨p, c, d, e, hd, he, sd, se, q⟩ := h
  obtain ⟨as, r1, _⟩ := Dg.reads I d x v hd rx
  obtain ⟨bs, r2, _⟩ := Dg.reads I e y u he ry
  exact SeqAt.compareEq_shaped r1 r2 sd se hu ⟨.bl _, H, I, rfl, q⟩
theorem op_neG (hu : X.A.units + 64 < cLine) : OpR X (compareOp .NotEq) rNeG := by
  intro pins s σ H x y v u Q I rx ry h
  obtain ⟨p, c, d, e, hd, he, sd, se, q⟩ := h
  obtain ⟨as, r1, _⟩ := Dg.reads I d x v hd rx
  obtain ⟨bs, r2, _⟩ := Dg.reads I e y u he ry
  exact SeqAt.compareNe_shaped r1 r2 sd se hu ⟨.bl _, H, I, rfl, q⟩
/-- any data against the empty tuple -/
def isT0 : PyData → Bool
  | .tuple [] => true
  | _ => false
def ascS : PyData → Bool
  | .str x => PyData.strOk x
  | _ => true
def rEqT0 : R2 := fun x y H Q => ∃ p c d t, Dg p c H x d ∧ ascS d = true ∧ y = .ref t ∧ H t = some (.tup []) ∧ Q (.bl (isT0 d)) H
theorem op_eqT0 (hu : X.A.units + 64 < cLine) : OpR X (compareOp .Eq) rEqT0 := by
  intro pins s σ H x y v u Q I rx ry h
  obtain ⟨p, c, d, t, hd, ha, rfl, ht, q⟩ := h
  cases ry
  obtain ⟨its, rv, hT, _⟩ := I.tuple (SqT.of ht)
  cases rv
  have hz : Reads s.heap (.ref t) (.tuple []) [] := by
    obtain ⟨o, ho, hc, n, hdt⟩ := hT
    exact .tuple ho hc hdt .nil
  have flat : ∀ (d : PyData), Dg p c H x d → d.canLay0 = true → d.depth = 0 → PyData.eqv d (.tuple []) = false → Q (.bl false) H → wpAny (model X.prog X.w) X.A (compareOp .Eq v (.ref t)) (EP X pins σ Q) X.xe s := by
    intro d hd hl h0 he q
    obtain ⟨as, r1, _⟩ := Dg.reads I d x v hd rx
    refine SeqAt.compareEq_reads r1 hz hl rfl (by rw [h0, Nat.zero_min]; omega) ?_
    rw [he]
    exact ⟨.bl _, H, I, rfl, q⟩
  have hu0 : X.A.units < cLine := by omega
  cases d with
  | none => exact flat _ hd rfl rfl rfl q
  | bool b => exact flat _ hd rfl rfl rfl q
  | int i => exact flat _ hd rfl rfl rfl q
  | str z => exact flat _ hd ha rfl rfl q
  | list ds =>
    cases hd with
    | lst a b =>
      cases rx
      obtain ⟨its2, rv2, hL, _⟩ := I.list (SqL.of a.2.2)
      exact RcAt.list_tuple hL.isList hT hu0 _ _ _ _ ⟨.bl _, H, I, rfl, q⟩
  | dict ds =>
    cases hd with
    | dic a b =>
      cases rx
      obtain ⟨_, _, vs, _, o, es, ep, ho, hex, hdt, _⟩ := I.hok _ _ a.2.2
      exact rc_dictT ho hex.1 hdt hT hu0 _ _ _ _ ⟨.bl _, H, I, rfl, q⟩
  | tuple ds =>
    cases hd with
    | tup a b =>
      cases rx
      obtain ⟨its2, rv2, hT2, _⟩ := I.tuple (SqT.of a.2.2)
      refine RcAt.tuples (e := fun _ => false) hT2 hT hu0 (fun j _ h2 => by simp at h2) _ _ _ _ ?_
      have hl : its2.length = ds.length := by rw [← rv2.length]; exact b.len
      have e : (((List.range (min its2.toArray.size (#[] : Array Value).size)).all fun _ => false) && its2.toArray.size == (#[] : Array Value).size) = isT0 (.tuple ds) := by
        cases ds with
        | nil =>
          cases its2 with
          | nil => rfl
          | cons _ _ => simp at hl
        | cons _ _ =>
          cases its2 with
          | nil => simp at hl
          | cons _ _ => simp [isT0]
      refine ⟨.bl _, H, I, rfl, ?_⟩
      rw [e]
      exact q
/-- any data in a tuple of two texts -/
def eqSD (a : Str) : PyData → Bool
  | .str x => a == x
  | _ => false
def is2 (a b : Str) (d : PyData) : Bool := eqSD a d || eqSD b d
def eqVD (d : PyData) : Value → Bool
  | .str a _ => eqSD a d
  | _ => false
def rNotIn2 : R2 := fun x y H Q => ∃ p c d t a b, Dg p c H x d ∧ y = .ref t ∧ H t = some (.tup [.str a, .str b]) ∧ Q (.bl (!is2 a b d)) H
theorem eq_str_any {pins : List (Addr × Obj)} {σ : L2.St} {H : Hp} {s : Shared} {p c : Addr} (hu : X.A.units + 64 < cLine) (I : Inv X pins σ H s) {x : V} {v : Value} {d : PyData} (hd : Dg p c H x d) (rx : RelV x v) (a : Str) (k : Tok) :
    EqAt X.A.in1 s (.str a k) v (eqSD a d) := by
  have hu0 : X.A.in1.units < cLine := by show X.A.units + 1 < cLine; omega
  cases hd with
  | non => cases rx; exact EqAt.str_none a k
  | bl b => cases rx; exact EqAt.str_bool a k b
  | int i => obtain ⟨t, rfl⟩ := rx; exact EqAt.str_int a k i t
  | str z => obtain ⟨t, rfl⟩ := rx; exact EqAt.str_str a k z t
  | lst e _ =>
    cases rx
    obtain ⟨its2, rv2, hL, _⟩ := I.list (SqL.of e.2.2)
    exact EqAt.str_list a k hL.isList hu0
  | tup e _ =>
    cases rx
    obtain ⟨its2, rv2, hL, _⟩ := I.tuple (SqT.of e.2.2)
    exact EqAt.str_tuple a k hL hu0
  | dic e _ =>
    cases rx
    obtain ⟨_, _, vs, _, o, es, ep, ho, hex, hdt, _⟩ := I.hok _ _ e.2.2
    exact eq_strD a k ho hex.1 hdt hu0
theorem op_notIn2 (hu : X.A.units + 64 < cLine) : OpR X (compareOp .NotIn) rNotIn2 := by
  intro pins s σ H x y v u Q I rx ry h
  obtain ⟨p, c, d, t, a, b, hd, rfl, ht, q⟩ := h
  cases ry
  obtain ⟨its, rv, hT, _⟩ := I.tuple (SqT.of ht)
  cases rv with
  | cons ra rt =>
    cases rt with
    | cons rb rt =>
      cases rt
      obtain ⟨ta, rfl⟩ := ra
      obtain ⟨tb, rfl⟩ := rb
      refine notIn_tupleAt (eqVD d) hT (fun y hy => ?_) ⟨.bl _, H, I, rfl, ?_⟩
      · have hy : y = .str a ta ∨ y = .str b tb := by simpa using hy
        rcases hy with rfl | rfl
        · exact eq_str_any hu I hd rx a ta
        · exact eq_str_any hu I hd rx b tb
      · have e : ([Value.str a ta, Value.str b tb] : List Value).toArray.any (eqVD d) = is2 a b d := by
          rw [← Array.any_toList]
          simp [is2, eqVD]
        show Q (.bl (!Array.any _ _)) H
        rw [e]
        exact q
end
end Ag

end
/-! ## DO -/
section
set_option linter.all false
set_option maxRecDepth 100000
namespace Ag
open PySem PySem.Spec PyProof.Rows L2
open SX (S S_len S_cat S_inj)
open SeqAt
/-! ### things as a look by isinstance sees them: what is no int, bool, text or tuple is one other thing -/
mutual
inductive Do (K : PySem.W.Frag) (p c : Addr) (H : Hp) : V → PyData → Prop
  | non : Do K p c H .non .none
  | bl (b : Bool) : Do K p c H (.bl b) (.bool b)
  | int (i : Int) : Do K p c H (.int i) (.int i)
  | str (x : Str) : Do K p c H (.str x) (.str x)
  | tup {a : Addr} {xs : List V} {ds : List PyData} : At p c H a (.tup xs) → DoA K p c H xs ds → Do K p c H (.ref a) (.tuple ds)
  | oth {v : V} {t : Value} : (∀ H', Kp p c H H' → TyX K H' v t) → PySem.W.kitOne K t (.type "int") = some false → PySem.W.kitOne K t (.type "bool") = some false → PySem.W.kitOne K t (.type "str") = some false → PySem.W.kitOne K t (.type "tuple") = some false → Do K p c H v (.dict [])
inductive DoA (K : PySem.W.Frag) (p c : Addr) (H : Hp) : List V → List PyData → Prop
  | nil : DoA K p c H [] []
  | cons {v : V} {vs : List V} {d : PyData} {ds : List PyData} : Do K p c H v d → DoA K p c H vs ds → DoA K p c H (v :: vs) (d :: ds)
end
variable {K : PySem.W.Frag} {p c : Addr} {H H' : Hp}
mutual
theorem Do.kp (g : Kp p c H H') : ∀ (d : PyData) (v : V), Do K p c H v d → Do K p c H' v d
  | .none, _, h => by cases h; exact .non
  | .bool _, _, h => by cases h; exact .bl _
  | .int _, _, h => by cases h; exact .int _
  | .str _, _, h => by cases h; exact .str _
  | .list _, _, h => by cases h
  | .dict _, _, h => by
    cases h with
    | oth h1 h2 h3 h4 h5 => exact .oth (fun H2 k => h1 H2 (g.trans k)) h2 h3 h4 h5
  | .tuple ds, _, h => by
    cases h with
    | tup a b => exact .tup (a.kp g) (DoA.kp g ds _ b)
theorem DoA.kp (g : Kp p c H H') : ∀ (ds : List PyData) (vs : List V), DoA K p c H vs ds → DoA K p c H' vs ds
  | [], _, h => by cases h; exact .nil
  | d :: ds, _, h => by
    cases h with
    | cons a b => exact .cons (Do.kp g d _ a) (DoA.kp g ds _ b)
end
theorem Do.to {v : V} {d : PyData} (h : Do K p c H v d) (g : Kp p c H H') : Do K p c H' v d := Do.kp g d v h
theorem DoA.to {v : List V} {d : List PyData} (h : DoA K p c H v d) (g : Kp p c H H') : DoA K p c H' v d := DoA.kp g d v h
theorem DoA.len : ∀ {vs : List V} {ds : List PyData}, DoA K p c H vs ds → vs.length = ds.length
  | _, _, .nil => rfl
  | _, _, .cons _ t => congrArg (· + 1) t.len
theorem DoA.at_ : ∀ {vs : List V} {ds : List PyData} {i : Nat} {v : V}, DoA K p c H vs ds → vs[i]? = some v → ∃ d, ds[i]? = some d ∧ Do K p c H v d
  | _, _, 0, _, .cons h _, e => by
    cases e
    exact ⟨_, rfl, h⟩
  | _, _, i + 1, _, .cons _ t, e => t.at_ (i := i) e
  | _, _, i, _, .nil, e => by simp at e
theorem Do.see {v : V} {d : PyData} (h : Do K p c H v d) : ∃ t, TyX K H v t ∧ PySem.W.kitOne K t (.type "int") = some (isI d) ∧ PySem.W.kitOne K t (.type "bool") = some (isB d) ∧ PySem.W.kitOne K t (.type "str") = some (isS d) ∧ PySem.W.kitOne K t (.type "tuple") = some (isT d) := by
  cases h with
  | non => exact ⟨_, (Dg.non (p := p) (c := c)).tyx, isi_I _, isi_B _, isi_S _, isi_T _⟩
  | bl b => exact ⟨_, (Dg.bl (p := p) (c := c) b).tyx, isi_I _, isi_B _, isi_S _, isi_T _⟩
  | int i => exact ⟨_, (Dg.int (p := p) (c := c) i).tyx, isi_I _, isi_B _, isi_S _, isi_T _⟩
  | str x => exact ⟨_, (Dg.str (p := p) (c := c) x).tyx, isi_I _, isi_B _, isi_S _, isi_T _⟩
  | @tup a xs ds ha b => exact ⟨_, .base (.tup ha.2.2), isi_I (.tuple ds), isi_B (.tuple ds), isi_S (.tuple ds), isi_T (.tuple ds)⟩
  | oth h1 h2 h3 h4 h5 => exact ⟨_, h1 _ .refl, h2, h3, h4, h5⟩
noncomputable def Do.ty {v : V} {d : PyData} (h : Do K p c H v d) : Value := Classical.choose h.see
theorem Do.tyx {v : V} {d : PyData} (h : Do K p c H v d) : TyX K H v h.ty := (Classical.choose_spec h.see).1
theorem Do.kI {v : V} {d : PyData} (h : Do K p c H v d) : PySem.W.kitOne K h.ty (.type "int") = some (isI d) := (Classical.choose_spec h.see).2.1
theorem Do.kB {v : V} {d : PyData} (h : Do K p c H v d) : PySem.W.kitOne K h.ty (.type "bool") = some (isB d) := (Classical.choose_spec h.see).2.2.1
theorem Do.kS {v : V} {d : PyData} (h : Do K p c H v d) : PySem.W.kitOne K h.ty (.type "str") = some (isS d) := (Classical.choose_spec h.see).2.2.2.1
theorem Do.kT {v : V} {d : PyData} (h : Do K p c H v d) : PySem.W.kitOne K h.ty (.type "tuple") = some (isT d) := (Classical.choose_spec h.see).2.2.2.2
/-! ### data is seen so -/
mutual
def skD : PyData → PyData
  | .list _ => .dict []
  | .dict _ => .dict []
  | .tuple ds => .tuple (skA ds)
  | d => d
def skA : List PyData → List PyData
  | [] => []
  | d :: ds => skD d :: skA ds
end
mutual
theorem Dg.seen : ∀ (d : PyData) (v : V), Dg p c H v d → Do K p c H v (skD d)
  | .none, _, h => by cases h; simp only [skD]; exact .non
  | .bool _, _, h => by cases h; simp only [skD]; exact .bl _
  | .int _, _, h => by cases h; simp only [skD]; exact .int _
  | .str _, _, h => by cases h; simp only [skD]; exact .str _
  | .list ds, _, h => by simp only [skD]; exact .oth (fun H' g => (h.to g).tyx) (isi_I (.list ds)) (isi_B (.list ds)) (isi_S (.list ds)) (isi_T (.list ds))
  | .dict ds, _, h => by simp only [skD]; exact .oth (fun H' g => (h.to g).tyx) (isi_I (.dict ds)) (isi_B (.dict ds)) (isi_S (.dict ds)) (isi_T (.dict ds))
  | .tuple ds, _, h => by
    cases h with
    | tup a b => simp only [skD]; exact .tup a (DgA.seen ds _ b)
theorem DgA.seen : ∀ (ds : List PyData) (vs : List V), DgA p c H vs ds → DoA K p c H vs (skA ds)
  | [], _, h => by cases h; simp only [skA]; exact .nil
  | d :: ds, _, h => by
    cases h with
    | cons a b => simp only [skA]; exact .cons (Dg.seen d _ a) (DgA.seen ds _ b)
end
theorem skA_len : ∀ ds : List PyData, (skA ds).length = ds.length
  | [] => by simp [skA]
  | _ :: ds => by simp [skA, skA_len ds]
theorem skA_mem : ∀ {ds : List PyData} {e : PyData}, e ∈ skA ds → ∃ d ∈ ds, e = skD d
  | [], e, h => by simp [skA] at h
  | d :: ds, e, h => by
    simp only [skA, List.mem_cons] at h
    rcases h with rfl | h
    · exact ⟨d, List.mem_cons_self, rfl⟩
    · obtain ⟨x, hx, e⟩ := skA_mem h
      exact ⟨x, List.mem_cons_of_mem _ hx, e⟩
/-! ### a tuple == () -/
def rEqTT : R2 := fun x y H Q => ∃ a xs t, x = .ref a ∧ H a = some (.tup xs) ∧ y = .ref t ∧ H t = some (.tup []) ∧ Q (.bl (decide (xs = []))) H
theorem op_eqTT {X : Cx} (hu : X.A.units + 64 < cLine) : OpR X (compareOp .Eq) rEqTT := by
  intro pins s σ H x y v u Q I rx ry h
  obtain ⟨a, xs, t, rfl, ha, rfl, ht, q⟩ := h
  cases rx
  cases ry
  obtain ⟨its, rv, hT, _⟩ := I.tuple (SqT.of ht)
  cases rv
  obtain ⟨its2, rv2, hT2, _⟩ := I.tuple (SqT.of ha)
  refine RcAt.tuples (e := fun _ => false) hT2 hT (by omega) (fun j _ h2 => by simp at h2) _ _ _ _ ?_
  refine ⟨.bl _, H, I, rfl, ?_⟩
  cases rv2 with
  | nil => exact q
  | cons h1 h2 => exact q
end Ag

end
/-! ## ZA -/
section
set_option linter.all false
set_option maxRecDepth 100000
set_option maxHeartbeats 4000000
namespace Ag
open PySem PySem.Spec PyProof.Rows L2
open SX (S S_len S_cat S_inj)
/-! ### the program's looks at any data -/
/-- a text among data is of plain signs, and not too long -/
def sOk (d : PyData) : Prop := ∀ x, d = .str x → x.cps.toList.all (· < 128) = true ∧ x.cps.toList.length ≤ 100000
def tOk (d : PyData) : Prop := sOk d ∧ ∀ ds, d = .tuple ds → ds.length ≤ 10000 ∧ ∀ e ∈ ds, sOk e
def isIntB : PyData → Bool
  | .int _ => true
  | _ => false
def wholeB (lo hi : Int) : PyData → Bool
  | .int i => decide (lo ≤ i) && decide (i ≤ hi)
  | _ => false
def asInt : PyData → Int
  | .int i => i
  | _ => 0
def txtB (m : Nat) : PyData → Bool
  | .str x => decide (x.cps.toList.length ≤ m) && plainL x.cps.toList
  | _ => false
def rstB : PyData → Bool
  | .str x => isRestB x.cps.toList
  | _ => false
section
variable {P : Program} {w : World} {K : PySem.W.Frag} {mg : Str → Option Value} {base : Heap} {tm tn tb : Tok}
def spIntD (K : PySem.W.Frag) : Sp := fun vs H Q _ => ∃ p c v d, vs = [v] ∧ Do K p c H v d ∧ Q (.bl (isIntB d)) H
theorem ok_int_D {f : Addr} {fd : FuncData} (F : Fn K mg "is_integer" s_is_integer ["thing"] f fd) (B : Con mg tm tn tb) : FnOk P w K mg base CX0 1 f fd ["thing"] (spIntD K) := by
  refine F.F.ok sc_is_integer (fun vs H Q E h => ?_) (fun cdv A outer s H vs Q E hr h => ?_)
  · obtain ⟨p, c, x, d, rfl, _⟩ := h
    rfl
  · obtain ⟨p, c, x, d, rfl, hd, q⟩ := h
    refine ⟨_, (pss_one (ps_ret (pe_and (pe_callB call_isi (by rfl) B.n_isinstance (by decide +kernel) (pa_cons (pv 0) (pa_cons (pe_bltn (v := .ty "int") (by rfl) B.n_int (by decide +kernel) rfl) pa_nil))) (pe_one (pe_not (pe_callB call_isi (by rfl) B.n_isinstance (by decide +kernel) (pa_cons (pv 0) (pa_cons (pe_bltn (v := .ty "bool") (by rfl) B.n_bool (by decide +kernel) rfl) pa_nil)))))))), ?_⟩
    refine ⟨x, rfl, x, .ty "int", _, _, _, rfl, .ty "int", hd.tyx, hd.kI, _, rfl, ite2 (fun h => ?_) (fun h => ?_)⟩
    · refine ⟨_, rfl, x, .ty "bool", _, _, _, rfl, .ty "bool", hd.tyx, hd.kB, _, rfl, ?_⟩
      cases d <;> first | exact q | exact absurd h (by simp [isI])
    · cases d <;> first | exact q | exact absurd rfl h
def spBtwD (K : PySem.W.Frag) : Sp := fun vs H Q _ => ∃ (p c : Addr) (v : V) (d : PyData) (lo hi : Int), vs = [v, .int lo, .int hi] ∧ Do K p c H v d ∧ Q (.bl (wholeB lo hi d)) H
theorem ok_btw_D {f f1 : Addr} {fd fd1 : FuncData} (F : Fn K mg "is_between" s_is_between ["thing", "least", "most"] f fd) (B : Con mg tm tn tb) (F_is_integer : Fn K mg "is_integer" s_is_integer ["thing"] f1 fd1) : FnOk P w K mg base CX0 2 f fd ["thing", "least", "most"] (spBtwD K) := by
  have G_is_integer : FnOk P w K mg base CX0 1 f1 fd1 ["thing"] (spIntD K) := ok_int_D F_is_integer B
  refine F.F.ok sc_is_between (fun vs H Q E h => ?_) (fun cdv A outer s H vs Q E hr h => ?_)
  · obtain ⟨p, c, x, d, lo, hi, rfl, _⟩ := h
    rfl
  · obtain ⟨p, c, x, d, lo, hi, rfl, hd, q⟩ := h
    refine ⟨_, (pss_one (ps_ret (pe_and (pe_call G_is_integer (hr.mono (by decide)) (by rfl) F_is_integer.g F_is_integer.F.kp F_is_integer.b .nil pass0 (pa_cons (pv 0) pa_nil)) (pe_one (pe_chain op_le op_le (pv 1) (pv 0) (pv 2)))))), ?_⟩
    refine ⟨_, rfl, p, c, x, d, rfl, hd, _, rfl, ite2 (fun h => ?_) (fun h => ?_)⟩
    · cases hd with
      | int i =>
        refine ⟨_, rfl, _, rfl, _, _, rfl, rfl, _, rfl, ?_⟩
        simp only [wholeB] at q
        refine ite2 (fun h1 => ?_) (fun h1 => ?_)
        · rw [h1, Bool.true_and] at q
          exact ⟨_, rfl, _, _, rfl, rfl, q⟩
        · rw [Bool.eq_false_iff.mpr h1, Bool.false_and] at q
          exact q
      | _ => exact absurd h (by simp [isIntB])
    · cases d <;> first | exact q | exact absurd rfl h
def spNumD (K : PySem.W.Frag) : Sp := fun vs H Q _ => ∃ p c v d, vs = [v] ∧ Do K p c H v d ∧ Q (.bl (wholeB 0 1000000000 d)) H
theorem ok_num_D {f f1 f2 : Addr} {fd fd1 fd2 : FuncData} (F : Fn K mg "is_number" s_is_number ["thing"] f fd) (B : Con mg tm tn tb) (F_is_integer : Fn K mg "is_integer" s_is_integer ["thing"] f1 fd1) (F_is_between : Fn K mg "is_between" s_is_between ["thing", "least", "most"] f2 fd2) : FnOk P w K mg base CX0 3 f fd ["thing"] (spNumD K) := by
  have G_is_between : FnOk P w K mg base CX0 2 f2 fd2 ["thing", "least", "most"] (spBtwD K) := ok_btw_D F_is_between B F_is_integer
  refine F.F.ok sc_is_number (fun vs H Q E h => ?_) (fun cdv A outer s H vs Q E hr h => ?_)
  · obtain ⟨p, c, x, d, rfl, _⟩ := h
    rfl
  · obtain ⟨p, c, x, d, rfl, hd, q⟩ := h
    refine ⟨_, (pss_one (ps_ret (pe_call G_is_between (hr.mono (by decide)) (by rfl) F_is_between.g F_is_between.F.kp F_is_between.b .nil pass0 (pa_cons (pv 0) (pa_cons pe_int (pa_cons (pe_glob (v := .int 1000000000) rfl B.g_NUMBER_MOST ⟨_, rfl⟩) pa_nil)))))), ?_⟩
    exact ⟨_, rfl, p, c, x, d, _, _, rfl, hd, q⟩
def spTxtD (K : PySem.W.Frag) (m : Nat) : Sp := fun vs H Q _ => ∃ p c v d, vs = [v] ∧ Do K p c H v d ∧ sOk d ∧ Q (.bl (txtB m d)) H
theorem ok_body_D {f f1 : Addr} {fd fd1 : FuncData} (F : Fn K mg "is_body" s_is_body ["thing"] f fd) (B : Con mg tm tn tb) (F_is_plain : Fn K mg "is_plain" s_is_plain ["string"] f1 fd1) : FnOk P w K mg base CX0 2 f fd ["thing"] (spTxtD K 150) := by
  have G_is_plain : FnOk P w K mg base CX0 1 f1 fd1 ["string"] spPlain := ok_is_plain F_is_plain
  refine F.F.ok sc_is_body (fun vs H Q E h => ?_) (fun cdv A outer s H vs Q E hr h => ?_)
  · obtain ⟨p, c, x, d, rfl, _⟩ := h
    rfl
  · obtain ⟨p, c, x, d, rfl, hd, hs, q⟩ := h
    refine ⟨_, (pss_one (ps_ret (pe_and (pe_callB call_isi (by rfl) B.n_isinstance (by decide +kernel) (pa_cons (pv 0) (pa_cons (pe_bltn (v := .ty "str") (by rfl) B.n_str (by decide +kernel) rfl) pa_nil))) (pe_and (pe_cmpR op_le (pe_callB call_len (by rfl) B.n_len PySem.boot_len (pa_cons (pv 0) pa_nil)) (pe_glob (v := .int 150) rfl B.g_BODY_MOST ⟨_, rfl⟩) (nomark _)) (pe_one (pe_call G_is_plain (hr.mono (by decide)) (by rfl) F_is_plain.g F_is_plain.F.kp F_is_plain.b .nil pass0 (pa_cons (pv 0) pa_nil))))))), ?_⟩
    refine ⟨x, rfl, x, .ty "str", _, _, _, rfl, .ty "str", hd.tyx, hd.kS, _, rfl, ?_⟩
    cases hd with
    | str x =>
      obtain ⟨h1, h2⟩ := hs x rfl
      have hx : x = S x.cps.toList := rfl
      simp only [txtB] at q
      clear hs
      generalize x.cps.toList = l at h1 h2 hx q
      subst hx
      refine iteT ?_
      refine ⟨_, rfl, .str (S l), _, rfl, ⟨sz (by rw [S_len]; omega), rfl⟩, _, _, rfl, rfl, _, rfl, ?_⟩
      rw [S_len]
      have e : decide ((l.length : Int) ≤ 150) = decide (l.length ≤ 150) := by
        rw [Bool.eq_iff_iff, decide_eq_true_eq, decide_eq_true_eq]
        omega
      rw [e]
      refine ite2 (fun h1 => ?_) (fun h1 => ?_)
      · rw [h1, Bool.true_and] at q
        exact ⟨_, rfl, l, rfl, q⟩
      · rw [Bool.eq_false_iff.mpr h1, Bool.false_and] at q
        exact q
    | _ => exact q
def spRstD (K : PySem.W.Frag) : Sp := fun vs H Q _ => ∃ p c v d, vs = [v] ∧ Do K p c H v d ∧ sOk d ∧ ∀ H', Same H H' → Q (.bl (rstB d)) H'
end
end Ag

end
/-! ## ZB -/
section
set_option linter.all false
set_option maxRecDepth 100000
set_option maxHeartbeats 4000000
namespace Ag
open PySem PySem.Spec PyProof.Rows L2
open SX (S S_len S_cat S_inj)
section
variable {P : Program} {w : World} {K : PySem.W.Frag} {mg : Str → Option Value} {base : Heap} {tm tn tb : Tok}
theorem ok_rest_D {f f1 f2 : Addr} {fd fd1 fd2 : FuncData} (F : Fn K mg "is_rest" s_is_rest ["thing"] f fd) (B : Con mg tm tn tb) (F_is_plain : Fn K mg "is_plain" s_is_plain ["string"] f1 fd1)
    (F_is_decimal : Fn K mg "is_decimal" s_is_decimal ["string", "most"] f2 fd2) : FnOk P w K mg base CX0 2 f fd ["thing"] (spRstD K) := by
  have G_is_plain : FnOk P w K mg base CX0 1 f1 fd1 ["string"] spPlain := ok_is_plain F_is_plain
  have G_is_decimal : FnOk P w K mg base CX0 1 f2 fd2 ["string", "most"] spDec := ok_is_decimal F_is_decimal B.toBlt
  refine F.F.ok sc_is_rest (fun vs H Q E h => ?_) (fun cdv A outer s H vs Q E hr h => ?_)
  · obtain ⟨p, c, x, d, rfl, _⟩ := h
    rfl
  · obtain ⟨p0, c0, v, d, rfl, hd, hs, q⟩ := h
    refine ⟨_, (pss_cons (ps_if (pt_not (pt_val (pe_callB call_isi (by rfl) B.n_isinstance (by decide +kernel) (pa_cons (pv 0) (pa_cons (pe_bltn (v := .ty "str") (by rfl) B.n_str (by decide +kernel) rfl) pa_nil)))))
      (pss_one (ps_ret pe_bl))
      pss_nil)
      (pss_cons (ps_asg (pe_partition (pv 0) pe_str) (pg_tup rfl (pgs_cons (pg_name (i := 1) sc_is_rest.nd rfl (Or.inl rfl)) (pgs_cons (pg_name (i := 2) sc_is_rest.nd rfl (Or.inl rfl)) (pgs_cons (pg_name (i := 3) sc_is_rest.nd rfl (Or.inl rfl)) pgs_nil)))))
      (pss_cons (ps_if (pt_not (pt_val (pe_call G_is_decimal (hr.mono (by decide)) (by rfl) F_is_decimal.g F_is_decimal.F.kp F_is_decimal.b .nil pass0 (pa_cons (pv 1) (pa_cons (pe_glob (v := .int 200) rfl B.g_TEXT_MOST ⟨_, rfl⟩) pa_nil)))))
      (pss_one (ps_ret (pe_cmpR op_eq (pv 0) pe_str (nomark _))))
      pss_nil)
      (pss_one (ps_ret (pe_and (pe_cmpR op_le (pe_callB call_len_str (by rfl) B.n_len PySem.boot_len (pa_cons (pv 3) pa_nil)) (pe_callTy call_int_str (by rfl) B.n_int (by decide +kernel) (pa_cons (pv 1) pa_nil)) (nomark _)) (pe_one (pe_call G_is_plain (hr.mono (by decide)) (by rfl) F_is_plain.g F_is_plain.F.kp F_is_plain.b .nil pass0 (pa_cons (pv 3) pa_nil))))))))), ?_⟩
    refine ⟨v, rfl, v, .ty "str", _, _, _, rfl, .ty "str", hd.tyx, hd.kS, _, rfl, ?_⟩
    cases hd with
    | str x =>
      obtain ⟨h1, hl⟩ := hs x rfl
      have hx : x = S x.cps.toList := rfl
      simp only [rstB] at q
      clear hs
      generalize x.cps.toList = l at h1 hl hx q
      subst hx
      refine iteF ?_
      -- the three parts
      obtain ⟨m, em⟩ := part_S l
      have hs := sp_len l
      refine ⟨.str (S l), rfl, ⟨_, rfl⟩, S l, Str.ofString ":", rfl, rfl, by decide +kernel, sz (by rw [S_len]; omega), fun p hp => ?_⟩
      rw [colonS, em]
      refine ⟨p, _, rfl, SqT.of upd_same, rfl, _, _, rfl, _, _, rfl, _, _, rfl, rfl, ?_⟩
      refine ⟨_, rfl, spS l, 200, rfl, by omega, by decide, ?_⟩
      refine ⟨_, rfl, ?_⟩
      have sm : Same H (upd H p (.tup [.str (S (spS l)), .str m, .str (S ((spT l).getD []))])) := same_new hp
      unfold isRestB at q
      cases h1 : isDec (spS l) 200 with
      | false =>
        refine iteT ?_
        rw [h1, if_neg (by decide)] at q
        refine ⟨_, rfl, rfl, ?_⟩
        have e : decide (V.str (S l) = V.str (Str.ofString "")) = decide (l = []) := by
          have e0 : Str.ofString "" = S [] := by decide +kernel
          rw [e0, Bool.eq_iff_iff, decide_eq_true_eq, decide_eq_true_eq]
          constructor
          · intro z
            injection z with z
            exact S_inj z
          · rintro rfl
            rfl
        rw [e]
        exact q _ sm
      | true =>
        refine iteF ?_
        rw [h1, if_pos rfl] at q
        obtain ⟨d1, d2⟩ := isDec_digs h1
        obtain ⟨d3, d4⟩ := isDec_len h1
        refine ⟨_, rfl, S ((spT l).getD []), rfl, sz (by rw [S_len]; omega), ?_⟩
        refine ⟨_, rfl, S (spS l), _, rfl, int_S d1 d2 (by omega), by rw [S_len]; omega, _, _, rfl, rfl, _, rfl, ?_⟩
        rw [S_len]
        have e : decide ((((spT l).getD []).length : Int) ≤ ((digitsVal (spS l) : Nat) : Int)) = decide (((spT l).getD []).length ≤ digitsVal (spS l)) := by
          rw [Bool.eq_iff_iff, decide_eq_true_eq, decide_eq_true_eq]
          omega
        rw [e]
        refine ite2 (fun h2 => ?_) (fun h2 => ?_)
        · refine ⟨_, rfl, _, rfl, ?_⟩
          rw [h2, Bool.true_and] at q
          exact q _ sm
        · rw [Bool.eq_false_iff.mpr h2, Bool.false_and] at q
          exact q _ sm
    | _ => exact iteT (q _ (Same.refl _))
end
end Ag

end
/-! ## ZO -/
section
set_option linter.all false
set_option maxRecDepth 100000
namespace Ag
open PySem PySem.Spec PyProof.Rows L2
open SX (S S_len S_cat S_inj)
def txs (ts : List (List Nat)) : List V := ts.map fun x => V.str (S x)
/-- a result of read stands at p -/
def OutAt (sub : Nat) (o : Out) (H : Hp) (p : Addr) : Prop := match o with
  | .read ts r => ∃ t, H t = some (.tup (txs ts)) ∧ H p = some (.tup [.str (Str.ofString "read"), .ref t, .str (S r)])
  | .wrong ts k => ∃ t, H t = some (.tup (txs ts)) ∧ H p = some (.tup [.str (Str.ofString "wrong"), .ref t, .int ((k : Int) - (sub : Int))])
theorem pw : decide (V.str (Str.ofString "part") = V.str (Str.ofString "wrong")) = false := by decide +kernel
theorem ww : decide (V.str (Str.ofString "wrong") = V.str (Str.ofString "wrong")) = true := by decide +kernel
theorem hw : decide (V.str (Str.ofString "whole") = V.str (Str.ofString "wrong")) = false := by decide +kernel
theorem pp : decide (V.str (Str.ofString "part") = V.str (Str.ofString "part")) = true := by decide +kernel
theorem hp' : decide (V.str (Str.ofString "whole") = V.str (Str.ofString "part")) = false := by decide +kernel
theorem commaS : Str.ofString "," = S [44] := by decide +kernel
end Ag

end
/-! ## L1 -/
section
set_option linter.all false
set_option maxRecDepth 100000
namespace Ag
open PySem PySem.Spec PyProof.Rows L2
open SX (S S_len S_cat S_inj)
/-! ### the deck of draws -/
def kC : Key := Sum.inr (Str.ofString "cells")
def kM : Key := Sum.inr (Str.ofString "mixed")
def kT : Key := Sum.inr (Str.ofString "turn")
def dkL (c : Addr) (m t : Int) : List (Key × V) := [(kC, .ref c), (kM, .int m), (kT, .int t)]
theorem nCM : ¬ kC = kM := by decide +kernel
theorem nCT : ¬ kC = kT := by decide +kernel
theorem nMT : ¬ kM = kT := by decide +kernel
section
variable {c : Addr} {m t u : Int}
theorem v_C : valV (dkL c m t) kC = some (.ref c) := valV_pos rfl
theorem v_M : valV (dkL c m t) kM = some (.int m) := (valV_neg nCM).trans (valV_pos rfl)
theorem v_T : valV (dkL c m t) kT = some (.int t) := (valV_neg nCT).trans ((valV_neg nMT).trans (valV_pos rfl))
theorem put_T : putK (dkL c m t) kT (.int u) = dkL c m u := by
  unfold putK dkL
  simp [nCT, nMT]
theorem merge_d : mergeK [] (dkL c m t) = dkL c m t := by
  unfold mergeK dkL putK
  simp [nCM, nCT, nMT]
end
/-- a deck stands at p, its cells at c -/
def Dk (p c : Addr) (H : Hp) : Prop := ∃ (m t : Int) (cs : List Int), H p = some (.dK (dkL c m t)) ∧ H c = some (.lst (cs.map V.int)) ∧ cs.length ≤ 63
/-- all but the deck is as it was, and the deck is one -/
def Gx (p c : Addr) (H H' : Hp) : Prop := (∀ b o, b ≠ p → b ≠ c → H b = some o → H' b = some o) ∧ Dk p c H'
theorem Gx.refl {p c : Addr} {H : Hp} (d : Dk p c H) : Gx p c H H := ⟨fun _ _ _ _ e => e, d⟩
theorem Gx.trans {p c : Addr} {H H1 H2 : Hp} (a : Gx p c H H1) (b : Gx p c H1 H2) : Gx p c H H2 := ⟨fun x o h1 h2 e => b.1 x o h1 h2 (a.1 x o h1 h2 e), b.2⟩
theorem Dk.same {p c : Addr} {H H' : Hp} (d : Dk p c H) (s : Same H H') : Dk p c H' := by
  obtain ⟨m, t, cs, h1, h2, h3⟩ := d
  exact ⟨m, t, cs, s _ _ h1, s _ _ h2, h3⟩
theorem Gx.same {p c : Addr} {H H' : Hp} (d : Dk p c H) (s : Same H H') : Gx p c H H' := ⟨fun b o _ _ e => s b o e, d.same s⟩
theorem Dk.ne {p c q : Addr} {H : Hp} (d : Dk p c H) (h : H q = none) : q ≠ p ∧ q ≠ c := by
  obtain ⟨m, t, cs, h1, h2, _⟩ := d
  exact ⟨(ne_of_none h1 h).symm, (ne_of_none h2 h).symm⟩
theorem Gx.free {p c q : Addr} {H H' : Hp} (g : Gx p c H H') (d : Dk p c H) (h : H' q = none) : H q = none := by
  cases e : H q with
  | none => rfl
  | some o =>
    have n := g.2.ne h
    have := g.1 q o n.1 n.2 e
    rw [h] at this
    cases this
/-- an object that the deck is not -/
theorem At.gx {p c a : Addr} {H H' : Hp} {o : HO} (h : At p c H a o) (g : Gx p c H H') : At p c H' a o := ⟨h.1, h.2.1, g.1 a o h.1 h.2.1 h.2.2⟩
theorem At.new {p c a : Addr} {H : Hp} {o : HO} (d : Dk p c H) (h : H a = none) : At p c (upd H a o) a o := ⟨(d.ne h).1, (d.ne h).2, upd_same⟩
theorem Gx.new {p c a : Addr} {H : Hp} {o : HO} (d : Dk p c H) (h : H a = none) : Gx p c H (upd H a o) := Gx.same d (same_new h)
/-- a list's own change -/
theorem Gx.put {p c a : Addr} {H H' : Hp} {o : HO} (g : Gx p c H H') (d : Dk p c H) (h : H a = none) (n : a ≠ p ∧ a ≠ c) : Gx p c H (upd H' a o) := by
  refine ⟨fun b u h1 h2 e => ?_, ?_⟩
  · rw [upd_ne (ne_of_none e h)]
    exact g.1 b u h1 h2 e
  · obtain ⟨m, t, cs, h1, h2, h3⟩ := g.2
    exact ⟨m, t, cs, by rw [upd_ne n.1.symm]; exact h1, by rw [upd_ne n.2.symm]; exact h2, h3⟩
theorem cutV63 {ns : List Int} (h : ns.length ≤ 63) : cutV (ns.map V.int) none (some 63) = ns.map V.int := by
  unfold cutV
  rw [HT.sIx_none, show HT.sIx (ns.map V.int).length (ns.map V.int).length (some 63) = min 63 (ns.map V.int).length from HT.sIx_nat _ _ 63, List.drop_zero, List.take_of_length_le]
  rw [List.length_map]
  omega
section
variable {P : Program} {w : World} {K : PySem.W.Frag} {mg : Str → Option Value} {base : Heap} {tm tn tb : Tok}
def spDeck (K : PySem.W.Frag) : Sp := fun vs H Q _ => ∃ (a : Addr) (ns : List Int), vs = [.ref a] ∧ SqL K H a (ns.map V.int) ∧ ns.length ≤ 63 ∧ ∀ p c H', H p = none → H c = none → Same H H' → Dk p c H' → Q (.ref p) H'
theorem ints_all {ns : List Int} {xs : List V} (hl : xs.length = ns.length) (h : ∀ (i : Nat) (y : V), xs[i]? = some y → ∃ z, ns[i]? = some z ∧ y = V.int z) : xs = ns.map V.int := by
  refine List.ext_getElem? fun i => ?_
  rw [List.getElem?_map]
  cases e : xs[i]? with
  | none =>
    have h1 := List.getElem?_eq_none_iff.mp e
    have h2 : ns[i]? = none := List.getElem?_eq_none_iff.mpr (by omega)
    rw [h2]
    rfl
  | some y =>
    obtain ⟨z, hz, rfl⟩ := h i y e
    rw [hz]
    rfl
theorem int_at {ns : List Int} {i : Nat} {x : V} (h : (ns.map V.int)[i]? = some x) : ∃ z, ns[i]? = some z ∧ x = V.int z := by
  rw [List.getElem?_map] at h
  cases e : ns[i]? with
  | none => rw [e] at h; cases h
  | some z =>
    rw [e] at h
    exact ⟨z, rfl, (Option.some.inj h).symm⟩
theorem ok_deck {f : Addr} {fd : FuncData} (F : Fn K mg "_law_deck" s__law_deck ["_law_script"] f fd) (B : Blt mg) : FnOk P w K mg base CX0 1 f fd ["_law_script"] (spDeck K) := by
  refine F.F.ok sc__law_deck (fun vs H Q E h => ?_) (fun cdv A outer s H vs Q E hr h => ?_)
  · obtain ⟨a, ns, rfl, _⟩ := h
    rfl
  · obtain ⟨a, ns, rfl, hS, hlen, q⟩ := h
    refine ⟨_, (pss_cons (ps_set (i := 1) sc__law_deck.nd rfl (.inl rfl) pe_int)
      (pss_cons (ps_for PassesOwn.never rfl (pi_list (pe_slice sl_list (pv 0) po_none (po_some pe_int))) (pg_name (i := 2) sc__law_deck.nd rfl (Or.inl rfl))
      (pss_one (ps_set (i := 1) sc__law_deck.nd rfl (.inl rfl) (pe_op op_mod (pe_callTy call_int1 (by rfl) B.n_int (by decide +kernel) (pa_cons (pe_op op_add (pe_op op_add (pe_op op_mul (pv 1) pe_int) (pe_op op_mod (pe_callTy call_int1 (by rfl) B.n_int (by decide +kernel) (pa_cons (pv 2) pa_nil)) pe_int)) pe_int) pa_nil)) pe_int))))
      (pss_one (ps_ret (pe_disp (pps_cons pe_str (pe_revL (pe_lc (own := [("_law_cell", 2)]) rfl sc__law_deck.nd (pi_list (pe_slice sl_list (pv 0) po_none (po_some pe_int))) (blkOk_by (N := N__law_deck) (sc := defScope s__law_deck) (by decide +kernel)) (fun _ _ _ _ _ => (pg_name (i := 2) sc__law_deck.nd rfl (Or.inl rfl))) (fun _ _ _ _ _ => pts_nil) (fun _ _ _ _ _ => (pe_callTy call_int1 (by rfl) B.n_int (by decide +kernel) (pa_cons (pv 2) pa_nil))))) (pps_cons pe_str (pv 1) (pps_cons pe_str pe_int pps_nil))) (by rfl) (by rfl) (fun z => by cases z) (by decide)))))), ?_⟩
    have c63 := cutV63 hlen
    -- the mixed number
    refine ⟨_, rfl, 63, rfl, a, _, rfl, hS, fun u hu => ?_⟩
    rw [c63]
    refine ⟨u, rfl, ⟨_, SqL.of upd_same⟩, ?_⟩
    refine for_list (K := K) (a := u) (xs := ns.map V.int) (fun i σ H2 => ∃ (m : Int) (x : Option V), σ = [some (.ref a), some (.int m), x] ∧ Same H H2 ∧ H2 u = some (.lst (ns.map V.int))) ⟨_, none, rfl, same_new hu, upd_same⟩ (fun i σ H2 _ z => ?_) ?_ ?_
    · obtain ⟨_, _, _, _, e⟩ := z
      exact SqL.of e
    · rintro i x σ H2 hx ⟨m, y, rfl, sm, e⟩
      obtain ⟨z, _, rfl⟩ := int_at hx
      refine ⟨_, rfl, _, _, rfl, rfl, .inr ⟨by decide, by decide⟩, ?_⟩
      refine ⟨_, rfl, .inl ⟨z, rfl, _, _, rfl, rfl, (by show (0 : Int) < 2147483353; decide), _, _, rfl, rfl, _, _, rfl, rfl, .inl ⟨_, rfl, _, _, rfl, rfl, (by show (0 : Int) < 2147483587; decide), ?_⟩⟩⟩
      exact ⟨_, _, rfl, sm, e⟩
    · rintro σ H2 ⟨m, x, rfl, sm, e⟩
      -- the dict
      intro p hp
      have nHp : H p = none := sm.free hp
      have sm2 : Same H (upd H2 p (.dK [])) := sm.trans (same_new hp)
      refine ⟨_, rfl, 63, rfl, a, _, rfl, sm2.seq hS, fun v hv => ?_⟩
      rw [c63]
      have npv : p ≠ v := fun z => by rw [← z, upd_same] at hv; cases hv
      refine ⟨v, rfl, ⟨_, SqL.of upd_same⟩, fun D hD => ?_⟩
      have hvp : v ≠ D := fun z => by rw [← z, upd_same] at hD; cases hD
      have hD' : H D = none := (sm2.trans (same_new hv)).free hD
      have hpD : p ≠ D := fun z => by rw [← z, upd_ne npv, upd_same] at hD; cases hD
      refine lc_all (walk_list (K := K) (a := v) (xs := ns.map V.int)) (fun H' => Same H H' ∧ H' p = some (.dK []) ∧ H' v = some (.lst (ns.map V.int))) (fun i y => ∃ z, ns[i]? = some z ∧ y = .int z) (by rw [List.length_map]; omega) ⟨sm2.trans (same_new hv), by rw [upd_ne npv, upd_same], upd_same⟩ ?_ ?_ ?_ ?_
      · rintro H' o ⟨r1, r2, r3⟩
        exact ⟨fun b o' e => by rw [upd_ne (ne_of_none e hD')]; exact r1 b o' e, by rw [upd_ne hpD]; exact r2, by rw [upd_ne hvp]; exact r3⟩
      · rintro H' ⟨_, _, r3⟩
        exact SqL.of r3
      · rintro i x H1 H2' xs k hi r hxs ⟨rfl, hx⟩ hk
        obtain ⟨z, hz, rfl⟩ := int_at hx
        refine ⟨rfl, _, rfl, .inl ⟨z, rfl, hk _ _ ⟨z, hz, rfl⟩ r hxs⟩⟩
      · rintro H3 xs hl hv' ⟨r1, r2, r3⟩ hxs
        have hxe := ints_all (by rw [hl, List.length_map]) hv'
        refine ⟨D, xs, rfl, SqL.of hxs, fun R hR => ?_⟩
        have hRp : p ≠ R := ne_of_none r2 hR
        refine ⟨_, rfl, ?_⟩
        refine ⟨by rw [upd_ne hRp]; exact r2, dkL R m 0, rfl, by show 3 ≤ 15; decide, ?_⟩
        rw [merge_d]
        have nR : H R = none := r1.free hR
        refine q p R _ nHp nR (fun b o e => ?_) ⟨m, 0, ns.reverse, upd_same, ?_, by rw [List.length_reverse]; exact hlen⟩
        · rw [upd_ne (ne_of_none e nHp), upd_ne (ne_of_none e nR)]
          exact r1 b o e
        · rw [upd_ne hRp.symm, upd_same, hxe, List.map_reverse]
end
end Ag

end
/-! ## L2 -/
section
set_option linter.all false
set_option maxRecDepth 100000
namespace Ag
open PySem PySem.Spec PyProof.Rows L2
open SX (S S_len S_cat S_inj)
theorem dget {H : Hp} {a : Addr} {kvs : List (Key × V)} {k : Key} {v : V} (e : H a = some (.dK kvs)) (h : valV kvs k = some v) : DGet H a (kV k) (some v) := h ▸ DGet.k e
theorem dpInts {K : PySem.W.Frag} {H : Hp} : ∀ cs : List Int, DpAll K H (cs.map V.int) (cs.map PyData.int)
  | [] => .nil
  | c :: cs => .cons (.int c) (dpInts cs)
theorem lay_ints : ∀ cs : List Int, PyData.canLayAll0 (cs.map PyData.int) = true
  | [] => by simp [PyData.canLayAll0]
  | c :: cs => by simp [PyData.canLayAll0, PyData.canLay0, lay_ints cs]
theorem depth_ints : ∀ cs : List Int, PyData.depthAll (cs.map PyData.int) = 0
  | [] => by simp [PyData.depthAll]
  | c :: cs => by simp [PyData.depthAll, PyData.depth, depth_ints cs]
theorem shaped_ints (cs : List Int) : SeqAt.shaped (.list (cs.map PyData.int)) = true := by
  simp [SeqAt.shaped, PyData.canLay0, PyData.depth, lay_ints, depth_ints]
theorem ne_nil_ints (cs : List Int) : (!PyData.eqv (.list (cs.map PyData.int)) (.list [])) = decide (cs ≠ []) := by
  cases cs <;> simp [PyData.eqv, PyData.eqvAll]
section
variable {P : Program} {w : World} {K : PySem.W.Frag} {mg : Str → Option Value} {base : Heap} {tm tn tb : Tok}
def spDraw : Sp := fun vs H Q _ => ∃ (p c : Addr) (n : Int), vs = [.ref p, .int n] ∧ Dk p c H ∧ 1 ≤ n ∧ n ≤ 1000000 ∧ ∀ (r : Nat) H', (r : Int) < n → Gx p c H H' → Q (.int (r : Int)) H'
theorem nat_mod {x n : Int} (h : 1 ≤ n) : ∃ r : Nat, x % n = (r : Int) ∧ (r : Int) < n := by
  refine ⟨(x % n).toNat, ?_, ?_⟩
  · have := Int.emod_nonneg x (by omega : n ≠ 0)
    omega
  · have h1 := Int.emod_nonneg x (by omega : n ≠ 0)
    have h2 := Int.emod_lt_of_pos x (by omega : 0 < n)
    omega
theorem ok_draw {f : Addr} {fd : FuncData} (F : Fn K mg "_law_draw" s__law_draw ["_law_deck_here", "_law_below"] f fd) (B : Blt mg) : FnOk P w K mg base CX0 1 f fd ["_law_deck_here", "_law_below"] spDraw := by
  refine F.F.ok sc__law_draw (fun vs H Q E h => ?_) (fun cdv A outer s H vs Q E hr h => ?_)
  · obtain ⟨p, c, n, rfl, _⟩ := h
    rfl
  · obtain ⟨p, c, n, rfl, dk, n1, n2, q⟩ := h
    have hu := hu_of hr
    refine ⟨_, (pss_cons (ps_dput hu (pv 0) pe_str (pe_op op_add (pe_dget hu (pv 0) pe_str (fun _ _ => rfl)) pe_int) rfl)
      (pss_cons (ps_set (i := 2) sc__law_draw.nd rfl (.inl rfl) (pe_op op_add (pe_dget hu (pv 0) pe_str (fun _ _ => rfl)) (pe_op op_mul pe_int (pe_dget hu (pv 0) pe_str (fun _ _ => rfl)))))
      (C8.pss_cut (ps_if (pt_cmpR (op_neD hr.units) (pe_dget hu (pv 0) pe_str (fun _ _ => rfl)) (pe_lst pa_nil) (nomark _))
      (pss_cons (ps_set (i := 3) sc__law_draw.nd rfl (.inl rfl) (pe_bm0 PySem.F.plainAttrs_list PySem.F.slot_list_pop PySem.F.type_list_pop mt_pop (pe_dget hu (pv 0) pe_str (fun _ _ => rfl))))
        (pss_cons (ps_if (pt_cmpR op_ge (pv 3) (pe_op op_pow pe_int pe_int) (nomark _))
        (pss_cons (ps_expr (pe_bm PySem.F.plainAttrs_list PySem.F.slot_list_append PySem.F.type_list_append mt_append (pe_dget hu (pv 0) pe_str (fun _ _ => rfl)) (pa_cons (pe_op op_fdiv (pv 3) (pe_callB (call_max2 rfl) (by rfl) B.n_max (by decide +kernel) (pa_cons pe_int (pa_cons (pv 1) pa_nil)))) pa_nil)))
          (pss_one (ps_ret (pe_op op_mod (pe_callTy call_int1 (by rfl) B.n_int (by decide +kernel) (pa_cons (pv 3) pa_nil)) (pv 1)))))
        pss_nil)
        (pss_one (ps_set (i := 2) sc__law_draw.nd rfl (.inl rfl) (pe_op op_add (pv 2) (pe_op op_mod (pe_callTy call_int1 (by rfl) B.n_int (by decide +kernel) (pa_cons (pv 3) pa_nil)) pe_int))))))
      pss_nil)
      (pss_cons (ps_set (i := 2) sc__law_draw.nd rfl (.inl rfl) (pe_op op_mod (pe_callTy call_int1 (by rfl) B.n_int (by decide +kernel) (pa_cons (pe_op op_add (pe_op op_mul (pv 2) pe_int) pe_int) pa_nil)) pe_int))
      (pss_cons (ps_set (i := 2) sc__law_draw.nd rfl (.inl rfl) (pe_op op_mod (pe_callTy call_int1 (by rfl) B.n_int (by decide +kernel) (pa_cons (pe_op op_add (pe_op op_add (pe_op op_mul (pv 2) (pv 2)) (pe_op op_mul pe_int (pe_dget hu (pv 0) pe_str (fun _ _ => rfl)))) pe_int) pa_nil)) pe_int))
      (pss_cons (ps_set (i := 2) sc__law_draw.nd rfl (.inl rfl) (pe_op op_mod (pe_callTy call_int1 (by rfl) B.n_int (by decide +kernel) (pa_cons (pe_op op_mul (pv 2) pe_int) pa_nil)) pe_int))
      (pss_one (ps_ret (pe_op op_mod (pe_callTy call_int1 (by rfl) B.n_int (by decide +kernel) (pa_cons (pe_op op_fdiv (pv 2) pe_int) pa_nil)) (pv 1)))))))))), ?_⟩
    obtain ⟨m, t, cs, h1, h2, h3⟩ := id dk
    have fin : ∀ (x : Int) (H2 : Hp), Gx p c H H2 → Q (.int (x % n)) H2 := by
      intro x H2 g
      obtain ⟨r, er, hr'⟩ := nat_mod (x := x) n1
      rw [er]
      exact q r H2 hr' g
    have npc : p ≠ c := ne_of h1 h2 (by intro z; cases z)
    -- turn
    refine ⟨_, rfl, p, _, rfl, dget (k := kT) h1 v_T, _, _, rfl, rfl, _, rfl, p, _, rfl, DPut.k (k := kT) h1 (by rw [sizeLine_eq]; show 3 < _; decide), ?_⟩
    rw [put_T]
    have g1 : Gx p c H (upd H p (.dK (dkL c m (t + 1)))) := ⟨fun b o b1 _ e => by rw [upd_ne b1]; exact e, ⟨m, t + 1, cs, upd_same, by rw [upd_ne npc.symm]; exact h2, h3⟩⟩
    generalize upd H p (.dK (dkL c m (t + 1))) = H1 at g1
    obtain ⟨m1, t1, cs1, k1, k2, k3⟩ := g1.2
    -- the figure
    refine ⟨_, rfl, p, _, rfl, dget (k := kM) k1 v_M, _, rfl, p, _, rfl, dget (k := kT) k1 v_T, _, _, rfl, rfl, .inl ⟨by decide, by decide⟩, _, _, rfl, rfl, ?_⟩
    refine ⟨fun σ H' => ∃ (fig : Int) (x3 : Option V), σ = [some (.ref p), some (.int n), some (.int fig), x3] ∧ Gx p c H H', ?_, ?_⟩
    · refine ⟨_, rfl, p, _, rfl, dget (k := kC) k1 v_C, Nat.zero_le _, fun z hz => ?_⟩
      have dk1 : Dk p c H1 := g1.2
      have nz := dk1.ne hz
      have k1' : upd H1 z (.lst []) p = some (.dK (dkL c m1 t1)) := by rw [upd_ne nz.1.symm]; exact k1
      have k2' : upd H1 z (.lst []) c = some (.lst (cs1.map V.int)) := by rw [upd_ne nz.2.symm]; exact k2
      have g2 : Gx p c H (upd H1 z (.lst [])) := g1.trans (Gx.new dk1 hz)
      refine ⟨.list (cs1.map .int), .list [], .lst (SqL.of k2') (dpInts cs1), .lst (SqL.of upd_same) .nil, shaped_ints cs1, shaped_ints [], _, rfl, ?_⟩
      rw [ne_nil_ints]
      refine ite2 (fun h => ?_) (fun h => ?_)
      · have hne : cs1 ≠ [] := of_decide_eq_true h
        obtain ⟨ini, cell, rfl⟩ : ∃ ini cell, cs1 = ini ++ [cell] := ⟨_, _, (List.dropLast_concat_getLast hne).symm⟩
        refine ⟨_, rfl, p, _, rfl, dget (k := kC) k1' v_C, .inl ⟨rfl, _, SqL.of k2'⟩, c, _, .int cell, rfl, rfl, k2', by simp, ?_⟩
        have ed : ((ini ++ [cell]).map V.int).dropLast = ini.map V.int := by simp
        rw [ed]
        rw [List.length_append, List.length_singleton] at k3
        have k1'' : upd (upd H1 z (.lst [])) c (.lst (ini.map V.int)) p = some (.dK (dkL c m1 t1)) := by rw [upd_ne npc]; exact k1'
        have putc : ∀ (xs : List Int) (H2 : Hp), (∀ b, b ≠ c → H2 b = upd H1 z (.lst []) b) → xs.length ≤ 63 → Gx p c H (upd H2 c (.lst (xs.map V.int))) := by
          intro xs H2 hb hx
          refine ⟨fun b o b1 b2 e => ?_, ⟨m1, t1, xs, ?_, upd_same, hx⟩⟩
          · rw [upd_ne b2, hb b b2]
            exact g2.1 b o b1 b2 e
          · rw [upd_ne npc, hb p npc]
            exact k1'
        refine ⟨_, rfl, _, _, rfl, rfl, ⟨by decide, by decide, by decide⟩, _, _, rfl, rfl, _, rfl, ?_⟩
        refine ite2 (fun h => ?_) (fun h => ?_)
        · refine ⟨_, rfl, p, _, rfl, dget (k := kC) k1'' v_C, .inl ⟨rfl, _, SqL.of upd_same⟩, _, rfl, _, rfl, 2, n, rfl, _, _, rfl, rfl, ?_, c, _, _, rfl, rfl, upd_same, ?_, ?_⟩
          · show (0 : Int) < (if n > 2 then n else 2) ∧ (if n > 2 then n else 2) < 1073741824
            split <;> omega
          · rw [List.length_map, sizeLine_eq]; omega
          refine ⟨_, rfl, .inl ⟨_, rfl, _, rfl, _, _, rfl, rfl, (by show (0 : Int) < n; omega), ?_⟩⟩
          refine fin cell _ ?_
          have e2 : ini.map V.int ++ [V.int (cell / (if n > 2 then n else 2))] = (ini ++ [cell / (if n > 2 then n else 2)]).map V.int := by simp
          show Gx p c H (upd _ c (.lst (ini.map V.int ++ [V.int (cell / (if n > 2 then n else 2))])))
          rw [e2]
          exact putc _ _ (fun b hb => by rw [upd_ne hb]) (by simp; omega)
        · refine ⟨_, rfl, _, rfl, .inl ⟨_, rfl, _, _, rfl, rfl, (by show (0 : Int) < 2147483353; decide), _, _, rfl, rfl, _, _, rfl, putc _ _ (fun b hb => rfl) (by omega)⟩⟩
      · exact ⟨_, _, rfl, g2⟩
    · rintro σ H2 ⟨fig, x3, rfl, g2⟩
      obtain ⟨m2, t2, cs2, j1, j2, j3⟩ := g2.2
      refine ⟨_, rfl, _, _, rfl, rfl, .inr ⟨by decide, by decide⟩, _, _, rfl, rfl, .inl ⟨_, rfl, _, _, rfl, rfl, (by show (0 : Int) < 2147483399; decide), ?_⟩⟩
      have b1 := Int.emod_nonneg (fig * 48271 + 83) (by decide : (2147483399 : Int) ≠ 0)
      have b2 := Int.emod_lt_of_pos (fig * 48271 + 83) (by decide : (0 : Int) < 2147483399)
      generalize (fig * 48271 + 83) % 2147483399 = f1 at b1 b2
      refine ⟨_, rfl, _, rfl, _, _, rfl, rfl, .inl ⟨by omega, by omega⟩, _, rfl, p, _, rfl, dget (k := kT) j1 v_T, _, _, rfl, rfl, .inl ⟨by decide, by decide⟩, _, _, rfl, rfl, _, _, rfl, rfl, .inl ⟨_, rfl, _, _, rfl, rfl, (by show (0 : Int) < 2147483587; decide), ?_⟩⟩
      refine ⟨_, rfl, _, _, rfl, rfl, .inr ⟨by decide, by decide⟩, .inl ⟨_, rfl, _, _, rfl, rfl, (by show (0 : Int) < 2147483323; decide), ?_⟩⟩
      refine ⟨_, rfl, _, _, rfl, rfl, ⟨by decide, by decide⟩, .inl ⟨_, rfl, _, rfl, _, _, rfl, rfl, (by show (0 : Int) < n; omega), ?_⟩⟩
      exact fin _ H2 g2
/-- _law_pick: any item of a list that the deck is not, any sign of a text -/
def spPick : Sp := fun vs H Q _ => ∃ (p c : Addr) (v : V), vs = [.ref p, v] ∧ Dk p c H ∧
  ((∃ (a : Addr) (xs : List V), v = .ref a ∧ At p c H a (.lst xs) ∧ 1 ≤ xs.length ∧ xs.length ≤ 100000 ∧ ∀ (r : Nat) x H', xs[r]? = some x → Gx p c H H' → Q x H') ∨
   ∃ z : List Nat, v = .str (S z) ∧ 1 ≤ z.length ∧ z.length ≤ 1000 ∧ ∀ (r : Nat) d H', z[r]? = some d → Gx p c H H' → Q (.str (S [d])) H')
theorem ok_pick {f f1 : Addr} {fd fd1 : FuncData} (F : Fn K mg "_law_pick" s__law_pick ["_law_deck_here", "_law_some"] f fd) (B : Blt mg) (F__law_draw : Fn K mg "_law_draw" s__law_draw ["_law_deck_here", "_law_below"] f1 fd1) :
    FnOk P w K mg base CX0 2 f fd ["_law_deck_here", "_law_some"] spPick := by
  have G__law_draw : FnOk P w K mg base CX0 1 f1 fd1 ["_law_deck_here", "_law_below"] spDraw := ok_draw F__law_draw B
  refine F.F.ok sc__law_pick (fun vs H Q E h => ?_) (fun cdv A outer s H vs Q E hr h => ?_)
  · obtain ⟨p, c, v, rfl, _⟩ := h
    rfl
  · obtain ⟨p, c, v, rfl, dk, h⟩ := h
    refine ⟨_, (pss_one (ps_ret (pe_ix ix_seq (pv 1) (pe_call G__law_draw (hr.mono (by decide)) (by rfl) F__law_draw.g F__law_draw.F.kp F__law_draw.b .nil pass0 (pa_cons (pv 0) (pa_cons (pe_callB call_len (by rfl) B.n_len PySem.boot_len (pa_cons (pv 1) pa_nil)) pa_nil))) (fun _ _ => rfl)))), ?_⟩
    rcases h with ⟨a, xs, rfl, ha, hl1, hl2, q⟩ | ⟨z, rfl, hl1, hl2, q⟩
    · refine ⟨_, rfl, _, rfl, _, rfl, .ref a, xs.length, rfl, .inl ⟨xs, SqL.of ha.2.2, rfl⟩, p, c, _, rfl, dk, by omega, by omega, fun r H' hr' g => ?_⟩
      have hlt : r < xs.length := by omega
      exact .inl ⟨a, xs, _, _, rfl, rfl, SqL.of (ha.gx g).2.2, atI_nat (List.getElem?_eq_getElem hlt), q r _ H' (List.getElem?_eq_getElem hlt) g⟩
    · refine ⟨_, rfl, _, rfl, _, rfl, .str (S z), z.length, rfl, ⟨sz (by rw [S_len]; omega), by rw [S_len]⟩, p, c, _, rfl, dk, by omega, by omega, fun r H' hr' g => ?_⟩
      have hlt : r < z.length := by omega
      have hz : (S z).cps.toList[r]? = some z[r] := List.getElem?_eq_getElem hlt
      exact .inr (.inr ⟨S z, _, _, rfl, rfl, sz (by rw [S_len]; omega), atI_nat hz, q r _ H' (List.getElem?_eq_getElem hlt) g⟩)
def signs : List Nat := 32 :: 33 :: 34 :: 35 :: 36 :: (List.range 89).map (· + 38)
theorem signs_eq : (Str.ofString " !\"#$&'()*+,-./0123456789:;<=>?@ABCDEFGHIJKLMNOPQRSTUVWXYZ[\\]^_`abcdefghijklmnopqrstuvwxyz{|}~") = S signs := by decide +kernel
theorem signs_plain : plainL signs = true := by decide +kernel
theorem signs_len : signs.length = 94 := by decide +kernel
def spSigns : Sp := fun vs H Q _ => vs = [] ∧ Q (.str (S signs)) H
theorem ok_signs {f : Addr} {fd : FuncData} (F : Fn K mg "_law_signs" s__law_signs [] f fd) : FnOk P w K mg base CX0 1 f fd [] spSigns := by
  refine F.F.ok sc__law_signs (fun vs H Q E h => ?_) (fun cdv A outer s H vs Q E hr h => ?_)
  · obtain ⟨rfl, _⟩ := h
    rfl
  · obtain ⟨rfl, q⟩ := h
    refine ⟨_, (pss_one (ps_ret pe_str)), ?_⟩
    rw [← signs_eq] at q
    exact q
def spSize : Sp := fun vs H Q _ => ∃ (p c : Addr), vs = [.ref p] ∧ Dk p c H ∧ ∀ (r : Nat) H', r ≤ 200 → Gx p c H H' → Q (.int (r : Int)) H'
end
end Ag

end
/-! ## L3 -/
section
set_option linter.all false
set_option maxRecDepth 100000
namespace Ag
open PySem PySem.Spec PyProof.Rows L2
open SX (S S_len S_cat S_inj)
theorem strs_of {P : List Nat → Prop} : ∀ {xs : List V}, (∀ (i : Nat) y, xs[i]? = some y → ∃ z, P z ∧ y = V.str (S z)) → ∃ zs : List (List Nat), xs = (zs.map S).map V.str ∧ ∀ z ∈ zs, P z
  | [], _ => ⟨[], rfl, fun _ h => by cases h⟩
  | x :: xs, h => by
    obtain ⟨z, hz, rfl⟩ := h 0 x rfl
    obtain ⟨zs, rfl, hp⟩ := strs_of (xs := xs) fun i y hy => h (i + 1) y (by simpa using hy)
    refine ⟨z :: zs, rfl, fun u hu => ?_⟩
    rcases List.mem_cons.mp hu with rfl | hu
    · exact hz
    · exact hp u hu
theorem joinL_nil : ∀ zs : List (List Nat), TL.joinL [] zs = zs.flatten
  | [] => rfl
  | [p] => by simp [TL.joinL]
  | p :: q :: r => by
    show p ++ ([] ++ TL.joinL [] (q :: r)) = _
    rw [joinL_nil (q :: r)]
    simp
theorem plain_flat {zs : List (List Nat)} (h : ∀ z ∈ zs, plainL z = true) : plainL zs.flatten = true := by
  unfold plainL at *
  rw [List.all_flatten, List.all_eq_true]
  exact h
theorem plain_take {l : List Nat} (n : Nat) (h : plainL l = true) : plainL (l.take n) = true := by
  unfold plainL at *
  rw [List.all_eq_true] at *
  exact fun c hc => h c (List.mem_of_mem_take hc)
theorem plain_rep {l : List Nat} (n : Nat) (h : plainL l = true) : plainL (List.replicate n l).flatten = true :=
  plain_flat fun z hz => by rw [(List.mem_replicate.mp hz).2]; exact h
theorem signs_at {k : Nat} (h : k < 94) : ∃ d, signs[k]? = some d ∧ plainC d = true := by
  have hl : k < signs.length := by rw [signs_len]; exact h
  refine ⟨signs[k], List.getElem?_eq_getElem hl, ?_⟩
  have := signs_plain
  unfold plainL at this
  rw [List.all_eq_true] at this
  exact this _ (List.getElem_mem hl)
theorem emptyS : (Str.ofString "") = S [] := by decide +kernel
theorem len_sum {zs : List (List Nat)} : ((zs.map S).map (·.length)).sum = zs.flatten.length := by
  rw [SX.lens, List.length_flatten]
theorem flat_le {zs : List (List Nat)} {k : Nat} (h : ∀ z ∈ zs, z.length ≤ k) : zs.flatten.length ≤ zs.length * k := by
  induction zs with
  | nil => simp
  | cons z zs ih =>
    have h1 := h z List.mem_cons_self
    have h2 := ih fun u hu => h u (List.mem_cons_of_mem _ hu)
    simp only [List.flatten_cons, List.length_append, List.length_cons, Nat.add_mul, Nat.one_mul]
    omega
section
variable {P : Program} {w : World} {K : PySem.W.Frag} {mg : Str → Option Value} {base : Heap} {tm tn tb : Tok}
def spText : Sp := fun vs H Q _ => ∃ (p c : Addr) (n : Nat), vs = [.ref p, .int (n : Int)] ∧ Dk p c H ∧ n ≤ 200 ∧ ∀ (l : List Nat) H', plainL l = true → l.length ≤ n → Gx p c H H' → Q (.str (S l)) H'
theorem ok_text {f f1 f2 f3 : Addr} {fd fd1 fd2 fd3 : FuncData} (F : Fn K mg "_law_text" s__law_text ["_law_deck_here", "_law_size"] f fd) (B : Blt mg) (F__law_draw : Fn K mg "_law_draw" s__law_draw ["_law_deck_here", "_law_below"] f1 fd1)
    (G__law_draw : FnOk P w K mg base CX0 1 f1 fd1 ["_law_deck_here", "_law_below"] spDraw) (F__law_pick : Fn K mg "_law_pick" s__law_pick ["_law_deck_here", "_law_some"] f2 fd2) (G__law_pick : FnOk P w K mg base CX0 2 f2 fd2 ["_law_deck_here", "_law_some"] spPick)
    (F__law_signs : Fn K mg "_law_signs" s__law_signs [] f3 fd3) : FnOk P w K mg base CX0 3 f fd ["_law_deck_here", "_law_size"] spText := by
  have G__law_signs : FnOk P w K mg base CX0 1 f3 fd3 [] spSigns := ok_signs F__law_signs
  refine F.F.ok sc__law_text (fun vs H Q E h => ?_) (fun cdv A outer s H vs Q E hr h => ?_)
  · obtain ⟨p, c, n, rfl, _⟩ := h
    rfl
  · obtain ⟨p, c, n, rfl, dk, hn, q⟩ := h
    refine ⟨_, (pss_cons (ps_asg (pe_tup (pa_cons (pe_call G__law_draw (hr.mono (by decide)) (by rfl) F__law_draw.g F__law_draw.F.kp F__law_draw.b .nil pass0 (pa_cons (pv 0) (pa_cons pe_int pa_nil))) (pa_cons (pe_call0 G__law_signs (hr.mono (by decide)) (by rfl) F__law_signs.g F__law_signs.F.kp F__law_signs.b .nil pass0) pa_nil))) (pg_tup rfl (pgs_cons (pg_name (i := 2) sc__law_text.nd rfl (Or.inl rfl)) (pgs_cons (pg_name (i := 3) sc__law_text.nd rfl (Or.inr rfl)) pgs_nil))))
      (pss_cons (ps_asg (pe_tup (pa_cons (pe_call G__law_draw (hr.mono (by decide)) (by rfl) F__law_draw.g F__law_draw.F.kp F__law_draw.b .nil pass0 (pa_cons (pv 0) (pa_cons pe_int pa_nil))) (pa_cons (pe_call G__law_draw (hr.mono (by decide)) (by rfl) F__law_draw.g F__law_draw.F.kp F__law_draw.b .nil pass0 (pa_cons (pv 0) (pa_cons pe_int pa_nil))) pa_nil))) (pg_tup rfl (pgs_cons (pg_name (i := 4) sc__law_text.nd rfl (Or.inr rfl)) (pgs_cons (pg_name (i := 5) sc__law_text.nd rfl (Or.inr rfl)) pgs_nil))))
      (pss_cons (ps_if (pt_cmpR op_eq (pv 2) pe_int (nomark _))
      (pss_one (ps_ret (pe_op op_rep_str (pe_ix ix_str (pv 3) (pv 4) (fun _ _ => rfl)) (pv 1))))
      pss_nil)
      (pss_cons (ps_if (pt_cmpR op_eq (pv 2) pe_int (nomark _))
      (pss_one (ps_ret (pe_join pe_str (pe_lc (own := [("_law_at", 9)]) rfl sc__law_text.nd (pi_range1 (by rfl) B.n_range (pa_cons (pv 1) pa_nil)) (blkOk_by (N := N__law_text) (sc := defScope s__law_text) (by decide +kernel)) (fun _ _ _ _ _ => (pg_name (i := 9) sc__law_text.nd rfl (Or.inl rfl))) (fun _ _ _ _ _ => pts_nil) (fun _ _ _ _ _ => (pe_ix ix_str (pv 3) (pe_op op_mod (pe_callTy call_int1 (by rfl) B.n_int (by decide +kernel) (pa_cons (pe_op op_add (pv 4) (pe_op op_mul (pv 5) (pv 9))) pa_nil)) pe_int) (fun _ _ => rfl)))))))
      pss_nil)
      (pss_cons (ps_set (i := 6) sc__law_text.nd rfl (.inr rfl) (pe_lst (pa_cons pe_str (pa_cons pe_str (pa_cons pe_str (pa_cons pe_str (pa_cons pe_str (pa_cons pe_str (pa_cons pe_str (pa_cons pe_str (pa_cons pe_str (pa_cons pe_str (pa_cons pe_str (pa_cons pe_str (pa_cons pe_str pa_nil)))))))))))))))
      (pss_cons (ps_set (i := 7) sc__law_text.nd rfl (.inl rfl) (pe_join pe_str (pe_lc (own := [("_law_turn", 8)]) rfl sc__law_text.nd (pi_range1 (by rfl) B.n_range (pa_cons (pe_op op_add pe_int (pe_call G__law_draw (hr.mono (by decide)) (by rfl) F__law_draw.g F__law_draw.F.kp F__law_draw.b .nil pass0 (pa_cons (pv 0) (pa_cons pe_int pa_nil)))) pa_nil)) (blkOk_by (N := N__law_text) (sc := defScope s__law_text) (by decide +kernel)) (fun _ _ _ _ _ => (pg_name (i := 8) sc__law_text.nd rfl (Or.inl rfl))) (fun _ _ _ _ _ => pts_nil) (fun _ _ _ _ _ => (pe_call G__law_pick (hr.mono (by decide)) (by rfl) F__law_pick.g F__law_pick.F.kp F__law_pick.b .nil pass0 (pa_cons (pv 0) (pa_cons (pv 6) pa_nil)))))))
      (pss_one (ps_ret (pe_slice sl_str (pe_op op_rep_str (pv 7) (pe_op op_add (pe_op op_fdiv (pv 1) (pe_callB call_len_str (by rfl) B.n_len PySem.boot_len (pa_cons (pv 7) pa_nil))) pe_int)) po_none (po_some (pv 1))))))))))), ?_⟩
    have s2 : 2 ≤ sizeLine := sz (by decide)
    -- way, signs
    refine ⟨_, rfl, p, c, 4, rfl, dk, by decide, by decide, fun way H1 hway g1 => ?_⟩
    refine ⟨rfl, s2, fun t1 ht1 => ⟨t1, _, rfl, SqT.of upd_same, rfl, _, _, rfl, _, _, rfl, rfl, ?_⟩⟩
    have g2 := g1.trans (Gx.new (o := .tup [.int (way : Int), .str (S signs)]) g1.2 ht1)
    generalize upd H1 t1 _ = H2 at g2
    -- first, step
    refine ⟨_, rfl, p, c, 94, rfl, g2.2, by decide, by decide, fun first H3 hfirst g3 => ?_⟩
    refine ⟨_, rfl, p, c, 94, rfl, g3.2, by decide, by decide, fun step H4 hstep g4 => ?_⟩
    refine ⟨s2, fun t2 ht2 => ⟨t2, _, rfl, SqT.of upd_same, rfl, _, _, rfl, _, _, rfl, rfl, ?_⟩⟩
    have g5 := ((g2.trans g3).trans g4).trans (Gx.new (o := .tup [.int (first : Int), .int (step : Int)]) g4.2 ht2)
    generalize upd H4 t2 _ = H5 at g5
    -- way == 0
    refine ⟨_, rfl, rfl, _, rfl, ?_⟩
    refine ite2 (fun _ => ?_) (fun _ => ?_)
    · obtain ⟨d, hd, hp⟩ := signs_at (k := first) (by omega)
      refine ⟨_, rfl, _, rfl, S signs, _, d, rfl, rfl, sz (by rw [S_len, signs_len]; decide), atI_nat hd, ?_⟩
      refine ⟨_, rfl, [d], n, rfl, rfl, by simp; omega, by omega, by simp, ?_⟩
      refine q _ _ (plain_rep n (by simpa [plainL] using hp)) ?_ g5
      rw [List.length_flatten]
      simp
    refine ⟨_, rfl, rfl, _, rfl, ?_⟩
    refine ite2 (fun _ => ?_) (fun _ => ?_)
    · -- characters in steps
      refine ⟨⟨_, rfl⟩, _, rfl, _, rfl, by omega, by omega, fun D hD => ?_⟩
      have nD := g5.2.ne hD
      have hD0 := g5.free dk hD
      have hnn : ((n : Int)).toNat = n := by simp
      refine lc_all (walk_range (lo := 0) (n := ((n : Int)).toNat)) (fun H' => Gx p c H H') (fun _ y => ∃ z, (plainL z = true ∧ z.length ≤ 1) ∧ y = .str (S z)) (by rw [hnn]; omega) g5 (fun H' o g => g.put dk hD0 nD) (fun _ _ => trivial) ?_ ?_
      · rintro i x Ha Hb xs k hi g hxs ⟨rfl, rfl⟩ hk
        have hx : (first : Int) + (step : Int) * (0 + (i : Int)) = ((first + step * i : Nat) : Int) := by push_cast; rw [Int.zero_add]
        refine ⟨rfl, _, rfl, _, rfl, _, rfl, _, rfl, _, _, rfl, rfl, .inl ⟨by omega, by omega⟩, _, _, rfl, rfl, .inl ⟨_, rfl, _, _, rfl, rfl, (by show (0 : Int) < 94; decide), ?_⟩⟩
        obtain ⟨d, hd, hp⟩ := signs_at (k := (first + step * i) % 94) (Nat.mod_lt _ (by decide))
        refine ⟨S signs, _, d, rfl, ?_, sz (by rw [S_len, signs_len]; decide), atI_nat (j := (first + step * i) % 94) hd, ?_⟩
        · show V.int (((first : Int) + (step : Int) * (0 + (i : Int))) % 94) = _
          rw [hx]
          rfl
        · exact hk _ _ ⟨[d], ⟨by simpa [plainL] using hp, by simp⟩, rfl⟩ g hxs
      · intro H' xs hl hv g hxs
        obtain ⟨zs, rfl, hz⟩ := strs_of (P := fun z => plainL z = true ∧ z.length ≤ 1) (fun i y hy => hv i y hy)
        have hzl : zs.length = n := by rw [← hnn, ← hl]; simp
        have hfl : zs.flatten.length ≤ n := by
          have := flat_le (k := 1) fun z hz' => (hz z hz').2
          omega
        refine ⟨_, D, zs.map S, rfl, rfl, .inl (SqL.of hxs), ?_, ?_⟩
        · rw [len_sum, emptyS, S_len, List.length_nil, Nat.mul_zero]
          omega
        · rw [emptyS, SX.join_S, joinL_nil]
          exact q _ _ (plain_flat fun z hz' => (hz z hz').1) hfl g
    -- like frames and messages
    refine ⟨sz (by show 13 ≤ 16000000; decide), fun a ha => ?_⟩
    have na := g5.2.ne ha
    have ha0 := g5.free dk ha
    have g6 := g5.trans (Gx.new (o := .lst [.str (Str.ofString "4:look,"), .str (Str.ofString "0:,"), .str (Str.ofString "12:ab"), .str (Str.ofString "ask 1 x"), .str (Str.ofString ","), .str (Str.ofString ":"), .str (Str.ofString "7"), .str (Str.ofString " "), .str (Str.ofString "forgot 1"), .str (Str.ofString "5:well!,"), .str (Str.ofString "answer 2 "), .str (Str.ofString "2"), .str (Str.ofString "1")]) g5.2 ha)
    have ha6 := At.new (o := .lst [.str (Str.ofString "4:look,"), .str (Str.ofString "0:,"), .str (Str.ofString "12:ab"), .str (Str.ofString "ask 1 x"), .str (Str.ofString ","), .str (Str.ofString ":"), .str (Str.ofString "7"), .str (Str.ofString " "), .str (Str.ofString "forgot 1"), .str (Str.ofString "5:well!,"), .str (Str.ofString "answer 2 "), .str (Str.ofString "2"), .str (Str.ofString "1")]) g5.2 ha
    generalize upd H5 a _ = H6 at g6 ha6
    have menu : ∀ (r : Nat) x, ([.str (Str.ofString "4:look,"), .str (Str.ofString "0:,"), .str (Str.ofString "12:ab"), .str (Str.ofString "ask 1 x"), .str (Str.ofString ","), .str (Str.ofString ":"), .str (Str.ofString "7"), .str (Str.ofString " "), .str (Str.ofString "forgot 1"), .str (Str.ofString "5:well!,"), .str (Str.ofString "answer 2 "), .str (Str.ofString "2"), .str (Str.ofString "1")] : List V)[r]? = some x →
        ∃ z, (plainL z = true ∧ 1 ≤ z.length ∧ z.length ≤ 9) ∧ x = .str (S z) := by
      intro r x hx
      have mem := List.mem_of_getElem? hx
      have key : ∀ t : Str, (plainL t.cps.toList && decide (1 ≤ t.cps.toList.length) && decide (t.cps.toList.length ≤ 9)) = true → x = .str t → ∃ z, (plainL z = true ∧ 1 ≤ z.length ∧ z.length ≤ 9) ∧ x = .str (S z) := by
        intro t ht e
        rw [Bool.and_eq_true, Bool.and_eq_true, decide_eq_true_eq, decide_eq_true_eq] at ht
        exact ⟨t.cps.toList, ⟨ht.1.1, ht.1.2, ht.2⟩, by rw [e, SX.S_tl]⟩
      simp only [List.mem_cons, List.not_mem_nil, or_false] at mem
      rcases mem with h | h | h | h | h | h | h | h | h | h | h | h | h <;> exact key _ (by decide +kernel) h
    -- the joined text
    refine ⟨⟨_, rfl⟩, _, rfl, p, c, 4, rfl, g6.2, by decide, by decide, fun m H7 hm g7 => ⟨_, _, rfl, rfl, _, rfl, by omega, by omega, fun D hD => ?_⟩⟩
    have g67 := g6.trans g7
    have ha7 := ha6.gx g7
    have nD := g67.2.ne hD
    have hD0 := g67.free dk hD
    have hDa : a ≠ D := ne_of_none ha7.2.2 hD
    have hmm : ((1 : Int) + (m : Int)).toNat = 1 + m := by omega
    refine lc_all (walk_range (lo := 0) (n := ((1 : Int) + (m : Int)).toNat)) (fun H' => Gx p c H H' ∧ At p c H' a _) (fun _ y => ∃ z, (plainL z = true ∧ 1 ≤ z.length ∧ z.length ≤ 9) ∧ y = .str (S z)) (by rw [hmm]; omega) ⟨g67, ha7⟩ (fun H' o r => ⟨r.1.put dk hD0 nD, r.2.1, r.2.2.1, by rw [upd_ne hDa]; exact r.2.2.2⟩) (fun _ _ => trivial) ?_ ?_
    · rintro i x Ha Hb xs k hi ⟨g, hat⟩ hxs ⟨rfl, rfl⟩ hk
      refine ⟨rfl, _, rfl, _, rfl, p, c, .ref a, rfl, g.2, .inl ⟨a, _, rfl, hat, (by show 1 ≤ 13; decide), (by show 13 ≤ 100000; decide), fun r x H8 hx g8 => ?_⟩⟩
      exact hk _ _ (menu r x hx) ⟨g.trans g8, hat.gx g8⟩ (g8.1 D _ nD.1 nD.2 hxs)
    · rintro H' xs hl hv ⟨g, hat⟩ hxs
      obtain ⟨zs, rfl, hz⟩ := strs_of (P := fun z => plainL z = true ∧ 1 ≤ z.length ∧ z.length ≤ 9) (fun i y hy => hv i y hy)
      have hzl : zs.length = 1 + m := by rw [← hmm, ← hl]; simp
      have hfl : zs.flatten.length ≤ 36 := by
        have := flat_le (k := 9) fun z hz' => (hz z hz').2.2
        omega
      have hf1 : 1 ≤ zs.flatten.length := by
        cases zs with
        | nil => simp at hzl; omega
        | cons z zs =>
          have := (hz z List.mem_cons_self).2.1
          simp
          omega
      refine ⟨_, D, zs.map S, rfl, rfl, .inl (SqL.of hxs), ?_, ?_⟩
      · rw [len_sum, emptyS, S_len, List.length_nil, Nat.mul_zero]
        omega
      · rw [emptyS, SX.join_S, joinL_nil]
        have hpl := plain_flat fun z hz' => (hz z hz').1
        generalize zs.flatten = u at hfl hf1 hpl
        -- (text * (size // len(text) + 1))[:size]
        refine ⟨_, rfl, _, rfl, _, rfl, S u, rfl, sz (by rw [S_len]; omega), _, _, rfl, rfl, ⟨by rw [S_len]; omega, by rw [S_len]; omega⟩, _, _, rfl, rfl, ?_⟩
        rw [S_len]
        have e : (n : Int) / (u.length : Int) + 1 = ((n / u.length + 1 : Nat) : Int) := by push_cast; rfl
        have hle : n / u.length ≤ n := Nat.div_le_self _ _
        have hb : u.length * (n / u.length + 1) ≤ 36 * 201 := Nat.mul_le_mul hfl (by omega)
        refine ⟨u, n / u.length + 1, rfl, congrArg V.int e, by omega, by omega, by omega, ?_⟩
        have hr2 : (List.replicate (n / u.length + 1) u).flatten.length ≤ 36 * 201 := by
          rw [List.length_flatten]
          simp
          rw [Nat.mul_comm]
          exact hb
        refine ⟨_, rfl, (n : Int), rfl, S _, rfl, sz (by rw [S_len]; omega), ?_⟩
        rw [cut_to]
        refine q _ _ (plain_take n (plain_rep _ hpl)) ?_ g
        rw [List.length_take]
        omega
end
end Ag

end
/-! ## L4 -/
section
set_option linter.all false
set_option maxRecDepth 100000
namespace Ag
open PySem PySem.Spec PyProof.Rows L2
open SX (S S_len S_cat S_inj)
def tV : Option (List Nat) → V
  | none => .non
  | some t => .str (S t)
theorem lt_sign {c d : Nat} : decide ([c] < [d]) = decide (c < d) := by
  rw [Bool.eq_iff_iff, decide_eq_true_eq, decide_eq_true_eq, List.cons_lt_cons_iff]
  simp
theorem digitsS : (Str.ofString "0123456789").cps.toList = [48, 49, 50, 51, 52, 53, 54, 55, 56, 57] := by decide +kernel
theorem mem_digits {c : Nat} : decide (c ∈ (Str.ofString "0123456789").cps.toList) = digC c := by
  rw [digitsS, Bool.eq_iff_iff, decide_eq_true_eq]
  unfold digC
  simp
  omega
theorem zeroS : Str.ofString "0" = S [48] := by decide +kernel
theorem blankS : Str.ofString " " = S [32] := by decide +kernel
theorem tildeS : Str.ofString "~" = S [126] := by decide +kernel
theorem str_ne {a b : List Nat} {x : Str} (e : x = S b) : (!decide (V.str (S a) = V.str x)) = decide (a ≠ b) := by
  subst e
  rw [Bool.eq_iff_iff, decide_eq_true_eq, Bool.not_eq_true', decide_eq_false_iff_not]
  constructor
  · intro z w
    subst w
    exact z rfl
  · intro z w
    injection w with w
    exact z (S_inj w)
theorem str_eq {a b : List Nat} {x : Str} (e : x = S b) : decide (V.str (S a) = V.str x) = decide (a = b) := by
  subst e
  rw [Bool.eq_iff_iff, decide_eq_true_eq, decide_eq_true_eq]
  constructor
  · intro w
    injection w with w
    exact S_inj w
  · rintro rfl
    rfl
theorem one_eq {c b : Nat} : decide (([c] : List Nat) = [b]) = decide (c = b) := by simp
theorem Vd.slen {s : List Nat} {t : Option (List Nat)} (v : Vd s t) : s.length ≤ 3 := by
  cases t with
  | none =>
    rcases v with rfl | ⟨k, hk, rfl⟩
    · decide
    · exact numL_len3 hk
  | some t =>
    obtain ⟨⟨k, hk, rfl, _⟩, _⟩ := v
    exact numL_len3 hk
theorem Vd.dig {s t : List Nat} (v : Vd s (some t)) : s.all digC = true ∧ s ≠ [] ∧ t.length ≤ 200 := by
  obtain ⟨⟨k, hk, rfl, ht⟩, _⟩ := v
  have h : isDec (numL k) 200 = true := isDec_iff.mpr ⟨k, hk, rfl⟩
  exact ⟨(isDec_digs h).1, (isDec_digs h).2, by omega⟩
theorem Vd.dig0 {s : List Nat} (v : Vd s none) : s.all digC = true := by
  rcases v with rfl | ⟨k, hk, rfl⟩
  · rfl
  · exact (isDec_digs (isDec_iff.mpr ⟨k, hk, rfl⟩)).1
theorem lr_step {s : List Nat} {t : Option (List Nat)} {c : Nat} {cs : List Nat} {o : Option (List Nat)} {s' : List Nat} {t' : Option (List Nat)} (h : stp s t c = some (o, s', t')) : lr s t (c :: cs) = (lr s' t' cs).pre o.toList 1 := by
  simp only [lr, h]
theorem lr_stop {s : List Nat} {t : Option (List Nat)} {c : Nat} {cs : List Nat} (h : stp s t c = none) : lr s t (c :: cs) = .wrong [] 0 := by
  simp only [lr, h]
theorem joinIf {c : Prop} [Decidable c] {F G : VK → Prop} {Q : VK} (I : V → Hp → Prop) (h1 : c → ∀ Q' : VK, (∀ v H, I v H → Q' v H) → F Q') (h2 : ¬ c → ∀ Q' : VK, (∀ v H, I v H → Q' v H) → G Q') (k : ∀ v H, I v H → Q v H) :
    if c then F Q else G Q := by
  by_cases h : c
  · rw [if_pos h]
    exact h1 h Q k
  · rw [if_neg h]
    exact h2 h Q k
section
variable {P : Program} {w : World} {K : PySem.W.Frag} {mg : Str → Option Value} {base : Heap} {tm tn tb : Tok}
def spLread : Sp := fun vs H Q _ => ∃ (s z : List Nat) (t : Option (List Nat)), vs = [.str (S (glue s t)), .str (S z)] ∧ Vd s t ∧ z.length ≤ 50000 ∧ ∀ p H', H p = none → Same H H' → OutAt 0 (lr s t z) H' p → Q (.ref p) H'
theorem ok_lread {f : Addr} {fd : FuncData} (F : Fn K mg "_law_read" s__law_read ["_law_rest", "_law_piece"] f fd) (B : Blt mg) : FnOk P w K mg base CX0 1 f fd ["_law_rest", "_law_piece"] spLread := by
  refine F.F.ok sc__law_read (fun vs H Q E h => ?_) (fun cdv A outer s0 H vs Q E hr h => ?_)
  · obtain ⟨s, z, t, rfl, _⟩ := h
    rfl
  · obtain ⟨s, z, t, rfl, v, hz, q⟩ := h
    refine ⟨_, (pss_cons (ps_par3 (i := 2) (j := 3) (l := 4) (by rfl) sc__law_read.nd rfl rfl rfl (by decide) (by decide) (by decide) rfl rfl rfl (pa_cons (pe_lst pa_nil) (pa_cons (pe_ix ix_tup (pe_partition (pv 0) pe_str) pe_int (fun _ _ => rfl)) (pa_cons (pe_ifExp (pt_cmpR op_in_sign pe_str (pv 0) rfl) (pe_ix ix_tup (pe_partition (pv 0) pe_str) pe_int (fun _ _ => rfl)) pe_non) pa_nil))) (by rfl))
      (pss_cons (ps_for PassesOwn.never rfl (pi_enumS (by rfl) B.n_enumerate (pa_cons (pv 1) pa_nil)) (pg_tup rfl (pgs_cons (pg_name (i := 5) sc__law_read.nd rfl (Or.inl rfl)) (pgs_cons (pg_name (i := 6) sc__law_read.nd rfl (Or.inl rfl)) pgs_nil)))
      (pss_one (ps_if (pt_cmpR op_isN (pv 4) pe_non (nomark _))
        (pss_one (ps_if (PW.pt (pw_and (pt_cmpR op_eq (pv 6) pe_str (nomark _)) (pw_and1 (pt_cmpR op_ne (pv 3) pe_str (nomark _)))))
          (pss_one (ps_set (i := 4) sc__law_read.nd rfl (.inl rfl) pe_str))
          (pss_one (ps_if (PW.pt (pw_and (pt_cmpR op_in_sign (pv 6) pe_str rfl) (pw_and (pt_cmpR op_ne (pv 3) pe_str (nomark _)) (pw_and1 (pt_cmpR op_le (pe_callTy call_int_str (by rfl) B.n_int (by decide +kernel) (pa_cons (pe_op op_add_str (pv 3) (pv 6)) pa_nil)) pe_int (nomark _))))))
            (pss_one (ps_set (i := 3) sc__law_read.nd rfl (.inl rfl) (pe_op op_add_str (pv 3) (pv 6))))
            (pss_one (ps_ret (pe_tup (pa_cons pe_str (pa_cons (pe_callTy call_tuple_of (by rfl) B.n_tuple (by decide +kernel) (pa_cons (pv 2) pa_nil)) (pa_cons (pv 5) pa_nil))))))))))
        (pss_one (ps_if (pt_cmpR op_lt (pe_callB call_len_str (by rfl) B.n_len PySem.boot_len (pa_cons (pv 4) pa_nil)) (pe_callTy call_int_str (by rfl) B.n_int (by decide +kernel) (pa_cons (pv 3) pa_nil)) (nomark _))
          (pss_cons (ps_if (pt_not (pt_chain op_le_str op_le_str pe_str (pv 6) pe_str))
            (pss_one (ps_ret (pe_tup (pa_cons pe_str (pa_cons (pe_callTy call_tuple_of (by rfl) B.n_tuple (by decide +kernel) (pa_cons (pv 2) pa_nil)) (pa_cons (pv 5) pa_nil))))))
            pss_nil)
            (pss_one (ps_set (i := 4) sc__law_read.nd rfl (.inl rfl) (pe_op op_add_str (pv 4) (pv 6)))))
          (pss_one (ps_if (pt_cmpR op_eq (pv 6) pe_str (nomark _))
            (pss_cons (ps_expr (pe_bm PySem.F.plainAttrs_list PySem.F.slot_list_append PySem.F.type_list_append mt_append (pv 2) (pa_cons (pv 4) pa_nil)))
              (pss_one (ps_asg (pe_tup (pa_cons pe_str (pa_cons pe_non pa_nil))) (pg_tup rfl (pgs_cons (pg_name (i := 3) sc__law_read.nd rfl (Or.inl rfl)) (pgs_cons (pg_name (i := 4) sc__law_read.nd rfl (Or.inl rfl)) pgs_nil))))))
            (pss_one (ps_ret (pe_tup (pa_cons pe_str (pa_cons (pe_callTy call_tuple_of (by rfl) B.n_tuple (by decide +kernel) (pa_cons (pv 2) pa_nil)) (pa_cons (pv 5) pa_nil)))))))))))))
      (pss_one (ps_ret (pe_tup (pa_cons pe_str (pa_cons (pe_callTy call_tuple_of (by rfl) B.n_tuple (by decide +kernel) (pa_cons (pv 2) pa_nil)) (pa_cons (pe_ifExp (pt_cmpR op_isN (pv 4) pe_non (nomark _)) (pv 3) (pe_op op_add_str (pe_op op_add_str (pv 3) pe_str) (pv 4))) pa_nil)))))))), ?_⟩
    have s3 : 3 ≤ sizeLine := sz (by decide)
    have hsl := v.slen
    have hrl : (glue s t).length ≤ 300 := by
      cases t with
      | none => simp only [glue]; omega
      | some t =>
        have := v.dig.2.2
        simp only [glue, List.length_append, List.length_cons]
        omega
    obtain ⟨m, em⟩ := part_S (glue s t)
    rw [(sp_glue v).1, (sp_glue v).2] at em
    -- texts, size, text
    refine ⟨Nat.zero_le _, fun L hL => ?_⟩
    refine ⟨_, rfl, ⟨_, rfl⟩, S (glue s t), Str.ofString ":", rfl, rfl, by decide +kernel, sz (by rw [S_len]; omega), fun p1 hp1 => ?_⟩
    rw [colonS, em]
    refine ⟨p1, _, _, _, rfl, rfl, SqT.of upd_same, atI_nat (j := 0) rfl, ?_⟩
    have nL1 : L ≠ p1 := fun e => by rw [← e, upd_same] at hp1; cases hp1
    have sm1 : Same H (upd (upd H L (.lst [])) p1 (.tup [.str (S s), .str m, .str (S (t.getD []))])) := (same_new hL).trans (same_new hp1)
    have hL1 : upd (upd H L (.lst [])) p1 (.tup [.str (S s), .str m, .str (S (t.getD []))]) L = some (.lst []) := by rw [upd_ne nL1, upd_same]
    generalize upd (upd H L (.lst [])) p1 (.tup [.str (S s), .str m, .str (S (t.getD []))]) = H1 at sm1 hL1
    -- the text, by two ways
    refine ⟨_, rfl, 58, _, congrArg V.str colonS, rfl, _, rfl, ?_⟩
    refine joinIf (fun v H2 => v = tV t ∧ Same H H2 ∧ H2 L = some (.lst [])) (fun hc Q' k => ?_) (fun hc Q' k => ?_) ?_
    · refine ⟨_, rfl, ⟨_, rfl⟩, S (glue s t), Str.ofString ":", rfl, rfl, by decide +kernel, sz (by rw [S_len]; omega), fun p2 hp2 => ?_⟩
      rw [colonS, em]
      have nL2 : L ≠ p2 := ne_of_none hL1 hp2
      refine ⟨p2, _, _, _, rfl, rfl, SqT.of upd_same, atI_nat (j := 2) rfl, k _ _ ⟨?_, sm1.trans (same_new hp2), by rw [upd_ne nL2]; exact hL1⟩⟩
      cases t with
      | some t => rfl
      | none =>
        have hc : 58 ∈ glue s none := of_decide_eq_true hc
        exact absurd hc v.free
    · refine k _ _ ⟨?_, sm1, hL1⟩
      cases t with
      | none => rfl
      | some t => exact absurd (decide_eq_true (by simp [glue])) hc
    rintro _ H2 ⟨rfl, sm2, hL2⟩
    -- what a return wants
    have fin : ∀ (o : Out) (ts : List (List Nat)) (H2 : Hp) (v : V) (nm : Str), Same H H2 → lr s t z = o → (∀ t p H3, H3 t = some (.tup (txs ts)) → H3 p = some (.tup [.str nm, .ref t, v]) → OutAt 0 o H3 p) →
        ∀ t, H2 t = none → ∀ p, (upd H2 t (.tup (txs ts))) p = none → Q (.ref p) (upd (upd H2 t (.tup (txs ts))) p (.tup [.str nm, .ref t, v])) := by
      intro o ts H2 v nm sm e ho t ht p hp
      have npt : t ≠ p := fun z => by rw [z, upd_same] at hp; cases hp
      refine q p _ (sm.free (by rw [upd_ne npt.symm] at hp; exact hp)) (sm.trans ((same_new ht).trans (same_new hp))) ?_
      rw [e]
      exact ho t p _ (by rw [upd_ne npt, upd_same]) upd_same
    have nL : H L = none := hL
    have hzs : (S z).cps.size = z.length := by simp
    refine ⟨_, _, _, rfl, ?_⟩
    refine ⟨_, rfl, S z, rfl, ?_⟩
    refine for_it walk_enumS (fun i σ H3 => ∃ (ts : List (List Nat)) (s' : List Nat) (t' : Option (List Nat)) (x5 x6 : Option V), σ = [some (.str (S (glue s t))), some (.str (S z)), some (.ref L), some (.str (S s')), some (tV t'), x5, x6] ∧ Same H H3 ∧
      H3 L = some (.lst (txs ts)) ∧ ts.length ≤ i ∧ Vd s' t' ∧ lr s t z = (lr s' t' (z.drop i)).pre ts i) ⟨[], s, t, none, none, rfl, sm2, hL2, Nat.le_refl _, v, by rw [List.drop_zero, Out.pre_nil]⟩ (fun _ _ _ _ _ => trivial) ?_ ?_
    · rintro i x σ H3 H4 hi ⟨ts, s', t', x5, x6, rfl, sm3, hL3, hts, v', elr⟩ ⟨T, c, rfl, hT, rfl, hc⟩
      have hi : i < z.length := by rw [← hzs]; exact hi
      have hc' : z[i]? = some c := by simpa using hc
      have hdr : z.drop i = c :: z.drop (i + 1) := by
        rw [List.drop_eq_getElem_cons hi]
        congr 1
        rw [List.getElem?_eq_getElem hi] at hc'
        exact Option.some.inj hc'
      have nLT : L ≠ T := ne_of_none hL3 hT
      have sm4 : Same H (upd H3 T (.tup [.int (i : Nat), .str (S [c])])) := sm3.trans (same_new hT)
      have hL4 : upd H3 T (.tup [.int (i : Nat), .str (S [c])]) L = some (.lst (txs ts)) := by rw [upd_ne nLT]; exact hL3
      refine ⟨T, _, rfl, SqT.of upd_same, rfl, _, _, rfl, _, _, rfl, rfl, ?_⟩
      generalize upd H3 T (.tup [.int (i : Nat), .str (S [c])]) = H5 at sm4 hL4
      have tsz : (txs ts).length ≤ 100000 := by
        unfold txs
        rw [List.length_map]
        omega
      have hsl' := v'.slen
      -- a wrong sign
      have bad : stp s' t' c = none → ∀ u, H5 u = none → ∀ p, (upd H5 u (.tup (txs ts))) p = none → Q (.ref p) (upd (upd H5 u (.tup (txs ts))) p (.tup [.str (Str.ofString "wrong"), .ref u, .int ((i : Nat) : Int)])) := by
        intro hs
        refine fin (.wrong ts i) ts H5 _ _ sm4 ?_ ?_
        · rw [elr, hdr, lr_stop hs]
          simp [Out.pre]
        · intro u p H6 h1 h2
          refine ⟨u, h1, ?_⟩
          rw [h2]
          simp
      -- the next state
      have next : ∀ (o : Option (List Nat)) (s2 : List Nat) (t2 : Option (List Nat)), stp s' t' c = some (o, s2, t2) → Vd s2 t2 ∧ lr s t z = (lr s2 t2 (z.drop (i + 1))).pre (ts ++ o.toList) (i + 1) := by
        intro o s2 t2 hs
        refine ⟨v'.step hs, ?_⟩
        rw [elr, hdr, lr_step hs, Out.pre_pre]
      cases t' with
      | none =>
        refine ⟨_, rfl, rfl, _, rfl, ?_⟩
        refine iteT ?_
        -- sign == ":" and size != ""
        refine (ans_and2 (ans_eq (val_var rfl) val_c rfl ((str_eq (a := [c]) rfl).trans one_eq)) (ans_ne (val_var rfl) val_c rfl (str_ne emptyS))) _ ?_
        have vs : s' = [] ∨ ∃ k, s' = numL k := by
          rcases v' with h | ⟨k, _, h⟩
          · exact .inl h
          · exact .inr ⟨k, h⟩
        refine ite2 (fun h1 => ?_) (fun h1 => ?_)
        · rw [Bool.and_eq_true, decide_eq_true_eq, decide_eq_true_eq] at h1
          obtain ⟨n1, n2⟩ := next none s' (some []) (by show (if c = 58 ∧ s' ≠ [] then _ else _) = _; rw [if_pos h1])
          rw [Option.toList, List.append_nil] at n2
          exact ⟨ts, s', some [], _, _, by rw [emptyS]; rfl, sm4, hL4, by omega, n1, n2⟩
        · rw [Bool.and_eq_true, decide_eq_true_eq, decide_eq_true_eq] at h1
          have hst : stp s' none c = if isDec (s' ++ [c]) 200 = true then some (none, s' ++ [c], none) else none := by
            show (if c = 58 ∧ s' ≠ [] then _ else _) = _
            rw [if_neg h1]
          have hsn := isDec_snoc (c := c) (m := 200) vs
          -- sign in digits and size != "0" and int(size + sign) <= 200
          have wrong : isDec (s' ++ [c]) 200 = false → stp s' none c = none := fun h => by rw [hst, h]; rfl
          refine ⟨_, rfl, c, _, rfl, rfl, _, rfl, ?_⟩
          rw [mem_digits]
          cases h2 : digC c with
          | false =>
            refine iteF ?_
            rw [h2, Bool.false_and, Bool.false_and] at hsn
            refine ⟨_, rfl, L, _, rfl, .inl ⟨SqL.of hL4, fun u hu => ?_⟩⟩
            exact ⟨_, rfl, s3, bad (wrong hsn) u hu⟩
          | true =>
            refine iteT ?_
            refine ⟨_, rfl, rfl, _, rfl, ?_⟩
            rw [str_ne zeroS]
            refine ite2 (fun h3 => ?_) (fun h3 => ?_)
            · rw [h2, h3, Bool.true_and, Bool.true_and] at hsn
              have hall : (s' ++ [c]).all digC = true := by rw [List.all_append, v'.dig0]; simpa using h2
              refine ⟨_, rfl, _, rfl, S s', S [c], rfl, rfl, sz (by rw [S_len, S_len]; simp; omega), ?_⟩
              rw [S_cat]
              refine ⟨_, _, rfl, int_S hall (by simp) (by simp; omega), by rw [S_len]; simp; omega, _, _, rfl, rfl, _, rfl, ?_⟩
              have e200 : decide (((digitsVal (s' ++ [c]) : Nat) : Int) ≤ 200) = decide (digitsVal (s' ++ [c]) ≤ 200) := by
                rw [Bool.eq_iff_iff, decide_eq_true_eq, decide_eq_true_eq]
                omega
              rw [e200, ← hsn]
              refine ite2 (fun h4 => ?_) (fun h4 => ?_)
              · obtain ⟨n1, n2⟩ := next none (s' ++ [c]) none (by rw [hst, if_pos h4])
                rw [Option.toList, List.append_nil] at n2
                refine ⟨_, rfl, _, rfl, S s', S [c], rfl, rfl, sz (by rw [S_len, S_len]; simp; omega), ?_⟩
                rw [S_cat]
                exact ⟨ts, s' ++ [c], none, _, _, rfl, sm4, hL4, by omega, n1, n2⟩
              · refine ⟨_, rfl, L, _, rfl, .inl ⟨SqL.of hL4, fun u hu => ?_⟩⟩
                exact ⟨_, rfl, s3, bad (wrong (Bool.eq_false_iff.mpr h4)) u hu⟩
            · have h3' : decide (s' ≠ [48]) = false := Bool.eq_false_iff.mpr h3
              rw [h3', Bool.and_false, Bool.false_and] at hsn
              refine ⟨_, rfl, L, _, rfl, .inl ⟨SqL.of hL4, fun u hu => ?_⟩⟩
              exact ⟨_, rfl, s3, bad (wrong hsn) u hu⟩
      | some t' =>
        refine ⟨_, rfl, rfl, _, rfl, ?_⟩
        refine iteF ?_
        obtain ⟨d1, d2, d3⟩ := v'.dig
        refine ⟨_, rfl, S t', rfl, sz (by rw [S_len]; omega), _, rfl, S s', _, rfl, int_S d1 d2 (by omega), by rw [S_len]; omega, _, _, rfl, rfl, _, rfl, ?_⟩
        rw [S_len]
        have hst : stp s' (some t') c = if t'.length < digitsVal s' then (if plainC c = true then some (none, s', some (t' ++ [c])) else none) else if c = 44 then some (some t', [], none) else none := rfl
        refine ite2 (fun h1 => ?_) (fun h1 => ?_)
        · have h1 : t'.length < digitsVal s' := by
            have := of_decide_eq_true h1
            omega
          rw [if_pos h1] at hst
          -- " " <= sign <= "~"
          have ep : plainC c = (!decide (c < 32) && !decide (126 < c)) := by
            unfold plainC
            rw [Bool.eq_iff_iff]
            simp
          refine ⟨_, rfl, _, S [c], rfl, rfl, _, rfl, ?_⟩
          rw [blankS, show (S [c]).cps.toList = [c] from rfl, show (S [32]).cps.toList = [32] from rfl, lt_sign]
          have wrong : plainC c = false → stp s' (some t') c = none := fun h => by rw [hst, h]; rfl
          cases h2 : decide (c < 32) with
          | true =>
            rw [h2] at ep
            refine iteF ?_
            refine ⟨_, rfl, iteT ?_⟩
            refine ⟨_, rfl, L, _, rfl, .inl ⟨SqL.of hL4, fun u hu => ?_⟩⟩
            exact ⟨_, rfl, s3, bad (wrong (by rw [ep]; rfl)) u hu⟩
          | false =>
            rw [h2] at ep
            refine iteT ?_
            refine ⟨_, S _, rfl, congrArg V.str tildeS, _, rfl, ?_⟩
            rw [show (S [126]).cps.toList = [126] from rfl, lt_sign]
            cases h3 : decide (126 < c) with
            | true =>
              rw [h3] at ep
              refine iteT ?_
              refine ⟨_, rfl, L, _, rfl, .inl ⟨SqL.of hL4, fun u hu => ?_⟩⟩
              exact ⟨_, rfl, s3, bad (wrong (by rw [ep]; rfl)) u hu⟩
            | false =>
              rw [h3] at ep
              refine iteF ?_
              obtain ⟨n1, n2⟩ := next none s' (some (t' ++ [c])) (by rw [hst, ep]; rfl)
              rw [Option.toList, List.append_nil] at n2
              refine ⟨_, rfl, _, rfl, S t', S [c], rfl, rfl, sz (by rw [S_len, S_len]; simp; omega), ?_⟩
              rw [S_cat]
              exact ⟨ts, s', some (t' ++ [c]), _, _, rfl, sm4, hL4, by omega, n1, n2⟩
        · have h1 : ¬ t'.length < digitsVal s' := fun z => h1 (decide_eq_true (by omega))
          rw [if_neg h1] at hst
          refine ⟨_, rfl, rfl, _, rfl, ?_⟩
          rw [show decide (V.str ⟨#[c]⟩ = V.str (Str.ofString ",")) = decide (c = 44) from (str_eq (a := [c]) commaS).trans one_eq]
          refine ite2 (fun h2 => ?_) (fun h2 => ?_)
          · have h2 : c = 44 := of_decide_eq_true h2
            obtain ⟨n1, n2⟩ := next (some t') [] none (by rw [hst, if_pos h2])
            refine ⟨_, rfl, .inl ⟨rfl, _, SqL.of hL4⟩, _, rfl, L, _, _, rfl, rfl, hL4, Nat.lt_of_le_of_lt tsz (by decide), ?_⟩
            refine ⟨by show 2 ≤ sizeLine; decide, fun q1 hq1 => ⟨q1, _, rfl, SqT.of upd_same, rfl, _, _, rfl, _, _, rfl, rfl, ?_⟩⟩
            have nLq : L ≠ q1 := fun e => by rw [← e, upd_same] at hq1; cases hq1
            refine ⟨ts ++ [t'], [], none, _, _, by rw [emptyS]; rfl, fun b o e => ?_, ?_, by simp; omega, n1, n2⟩
            · have nq : H q1 = none := by
                cases e' : H q1 with
                | none => rfl
                | some o' =>
                  have := sm4 _ _ e'
                  rw [upd_ne nLq.symm, this] at hq1
                  cases hq1
              rw [upd_ne (ne_of_none e nq), upd_ne (ne_of_none e nL)]
              exact sm4 b o e
            · rw [upd_ne nLq, upd_same]
              unfold txs
              rw [List.map_append]
              rfl
          · refine ⟨_, rfl, L, _, rfl, .inl ⟨SqL.of hL4, fun u hu => ?_⟩⟩
            exact ⟨_, rfl, s3, bad (by rw [hst, if_neg (fun z => h2 (decide_eq_true z))]) u hu⟩
    · rintro σ H3 ⟨ts, s', t', x5, x6, rfl, sm3, hL3, hts, v', elr⟩
      rw [hzs] at hts elr
      rw [List.drop_length] at elr
      have hsl' := v'.slen
      refine ⟨_, rfl, L, _, rfl, .inl ⟨SqL.of hL3, fun u hu => ?_⟩⟩
      have done : ∀ p, (upd H3 u (.tup (txs ts))) p = none → Q (.ref p) (upd (upd H3 u (.tup (txs ts))) p (.tup [.str (Str.ofString "read"), .ref u, .str (S (glue s' t'))])) := by
        refine fin (.read ts (glue s' t')) ts H3 _ _ sm3 ?_ ?_ u hu
        · rw [elr]
          simp [lr, Out.pre]
        · intro u p H6 h1 h2
          exact ⟨u, h1, h2⟩
      cases t' with
      | none =>
        refine ⟨_, rfl, rfl, _, rfl, ?_⟩
        exact iteT ⟨_, rfl, s3, done⟩
      | some t' =>
        have d3 := v'.dig.2.2
        refine ⟨_, rfl, rfl, _, rfl, ?_⟩
        refine iteF ?_
        refine ⟨_, rfl, _, _, rfl, rfl, sz (by rw [S_len, S_len]; simp; omega), ?_⟩
        rw [S_cat]
        refine ⟨_, rfl, _, _, rfl, rfl, sz (by rw [S_len, S_len]; simp; omega), ?_⟩
        rw [S_cat, List.append_assoc]
        exact ⟨s3, done⟩
end
end Ag

end
/-! ## N1 -/
section
set_option linter.all false
set_option maxRecDepth 100000
namespace Ag
open PySem PySem.Spec PyProof.Rows L2
open SX (S S_len S_cat S_inj)
def asc (l : List Nat) : Prop := ∀ c ∈ l, c < 128
/-! ### lists of signs -/
/-- a comprehension over a text's signs, with a pure test -/
theorem lc_flt {z : List Nat} (p : Nat → Bool) {g : TG} {tt : TT} {te : TE} {vs : List Nat} {σ : L2.St} {H1 : Hp} {D : Addr} {Qd : Hp → Prop} (hz : z.length ≤ 16000000)
    (hs : ∀ c H (k : VK) (k0 : Hp → Prop), (p c = true → k (.str (S [c])) H) → (p c = false → k0 H) →
      g (.str (S [c])) (wipe σ vs) H fun σ2 H2 => wipe σ2 vs = wipe σ vs ∧ tt σ2 H2 fun b H3 => if b = true then te σ2 H3 k else k0 H3)
    (hd : Qd (upd H1 D (.lst (chars (z.filter p))))) :
    ∃ W : Nat → Nat → Hp → Prop, (∃ m, W 0 m (upd H1 D (.lst []))) ∧ ∀ i m H, W i m H →
      ((Its (S z)).stop i H ∧ Qd H) ∨ ((Its (S z)).go i H ∧ ∃ Nx : Hp → Prop, (∀ H', Nx H' → ∃ m', m' < m ∧ W (i + 1) m' H') ∧ ∀ x H', (Its (S z)).yld i H x H' → g x (wipe σ vs) H' fun σ2 H2 => wipe σ2 vs = wipe σ vs ∧ tt σ2 H2 fun b H3 =>
        if b = true then te σ2 H3 fun y H4 => ∃ acc, H4 D = some (.lst acc) ∧ acc.length < sizeLine ∧ Nx (upd H4 D (.lst (acc ++ [y]))) else Nx H3) := by
  have hzs : (S z).cps.size = z.length := by simp
  refine lc_it (g := g) (tt := tt) (te := te) (vs := vs) (σ := σ) walk_str (fun i H => H = upd H1 D (.lst (chars ((z.take i).filter p)))) (by simp [chars]) (fun _ _ _ _ => trivial) (fun i x H H' hi h hy => ?_) (fun H h => ?_)
  · obtain ⟨rfl, c, hc, rfl⟩ := hy
    subst h
    have hc' : z[i]? = some c := by simpa using hc
    have hi' : i < z.length := by rw [← hzs]; exact hi
    have htk : z.take (i + 1) = z.take i ++ [c] := by
      rw [List.take_add_one, hc']
      rfl
    have hl : ((z.take i).filter p).length ≤ z.length := Nat.le_trans (List.length_filter_le _ _) (by rw [List.length_take]; omega)
    refine hs c _ _ _ (fun e => ?_) (fun e => ?_)
    · refine ⟨_, upd_same, ?_, ?_⟩
      · unfold chars
        rw [List.length_map, sizeLine_eq]
        omega
      · rw [upd_upd, htk, List.filter_append, List.filter_cons_of_pos e, List.filter_nil]
        unfold chars
        rw [List.map_append]
        rfl
    · rw [htk, List.filter_append, List.filter_cons_of_neg (by rw [e]; decide), List.filter_nil, List.append_nil]
  · subst h
    rw [hzs, List.take_length]
    exact hd
def dChars (l : List Nat) : List PyData := l.map fun c => PyData.str (S [c])
theorem dpChars {K : PySem.W.Frag} {H : Hp} : ∀ l : List Nat, DpAll K H (chars l) (dChars l)
  | [] => .nil
  | c :: l => .cons (.str (S [c])) (dpChars l)
theorem asc_ok : ∀ c : Nat, c < 128 → PyData.strOk (S [c]) = true := by decide +kernel
theorem lay_chars : ∀ l : List Nat, asc l → PyData.canLayAll0 (dChars l) = true
  | [], _ => by simp [dChars, PyData.canLayAll0]
  | c :: l, h => by
    have := lay_chars l fun d hd => h d (List.mem_cons_of_mem _ hd)
    have hc := asc_ok c (h c List.mem_cons_self)
    unfold dChars at this ⊢
    simp [PyData.canLayAll0, PyData.canLay0, this, hc]
theorem depth_chars : ∀ l : List Nat, PyData.depthAll (dChars l) = 0
  | [] => by simp [dChars, PyData.depthAll]
  | c :: l => by
    have := depth_chars l
    unfold dChars at this ⊢
    simp [PyData.depthAll, PyData.depth, this]
theorem shaped_chars {l : List Nat} (h : asc l) : SeqAt.shaped (.list (dChars l)) = true := by
  simp [SeqAt.shaped, PyData.canLay0, PyData.depth, lay_chars l h, depth_chars]
theorem eq_nil_chars (l : List Nat) : PyData.eqv (.list (dChars l)) (.list []) = decide (l = []) := by
  cases l <;> simp [dChars, PyData.eqv, PyData.eqvAll]
theorem plain_filt (l : List Nat) : decide ((l.filter fun c => !plainC c) = []) = plainL l := by
  rw [Bool.eq_iff_iff, decide_eq_true_eq, List.filter_eq_nil_iff]
  unfold plainL
  rw [List.all_eq_true]
  simp
/-! ### the parts of a kind -/
theorem merge_nd : ∀ (more acc : List (Key × V)), ((acc ++ more).map (·.1)).Nodup → mergeK acc more = acc ++ more
  | [], acc, _ => by simp [mergeK]
  | (k, v) :: more, acc, h => by
    have hn : valV acc k = none := by
      cases e : valV acc k with
      | none => rfl
      | some u =>
        exfalso
        unfold valV at e
        obtain ⟨p, hp, _⟩ := Option.map_eq_some_iff.mp e
        have h1 := List.find?_some hp
        have h2 := List.mem_of_find?_eq_some hp
        rw [decide_eq_true_eq] at h1
        rw [List.map_append, List.nodup_append] at h
        exact h.2.2 p.1 (List.mem_map_of_mem h2) k (by simp) h1
    show mergeK (putK acc k v) more = _
    rw [putK_new v hn]
    have := merge_nd more (acc ++ [(k, v)]) (by rw [List.append_assoc]; exact h)
    rw [this, List.append_assoc]
    rfl
section
variable {P : Program} {w : World} {K : PySem.W.Frag} {mg : Str → Option Value} {base : Heap} {tm tn tb : Tok}
def spLBody : Sp := fun vs H Q _ => ∃ l : List Nat, vs = [.str (S l)] ∧ asc l ∧ l.length ≤ 100000 ∧ ∀ H', Same H H' → Q (.bl (bodyB (.s l))) H'
theorem ok_lbody {f : Addr} {fd : FuncData} (F : Fn K mg "_law_is_body" s__law_is_body ["_law_thing"] f fd) (B : Con mg tm tn tb) : FnOk P w K mg base CX0 1 f fd ["_law_thing"] spLBody := by
  refine F.F.ok sc__law_is_body (fun vs H Q E h => ?_) (fun cdv A outer s H vs Q E hr h => ?_)
  · obtain ⟨l, rfl, _⟩ := h
    rfl
  · obtain ⟨l, rfl, al, hl, q⟩ := h
    refine ⟨_, (pss_one (ps_ret (pe_and (pe_callB call_isi (by rfl) B.n_isinstance (by decide +kernel) (pa_cons (pv 0) (pa_cons (pe_bltn (v := .ty "str") (by rfl) B.n_str (by decide +kernel) rfl) pa_nil))) (pe_and (pe_cmpR op_le (pe_callB call_len (by rfl) B.n_len PySem.boot_len (pa_cons (pv 0) pa_nil)) pe_int (nomark _)) (pe_one (pe_cmpR (op_eqD hr.units) (pe_lc (own := [("_law_sign", 1)]) rfl sc__law_is_body.nd (pi_str (pv 0)) (blkOk_by (N := N__law_is_body) (sc := defScope s__law_is_body) (by decide +kernel)) (fun _ _ _ _ _ => (pg_name (i := 1) sc__law_is_body.nd rfl (Or.inl rfl))) (fun _ _ _ _ _ => (pts_one (pt_not (pt_chain op_le_str op_le_str pe_str (pv 1) pe_str)))) (fun _ _ _ _ _ => (pv 1))) (pe_lst pa_nil) (nomark _))))))), ?_⟩
    refine ⟨_, rfl, .str (S l), .ty "str", _, _, true, rfl, .ty "str", .base (.str _), kit_ty (by decide +kernel), _, rfl, iteT ?_⟩
    refine ⟨_, rfl, .str (S l), _, rfl, ⟨sz (by rw [S_len]; omega), rfl⟩, _, _, rfl, rfl, _, rfl, ?_⟩
    rw [S_len]
    have e : decide ((l.length : Int) ≤ 150) = decide (l.length ≤ 150) := by
      rw [Bool.eq_iff_iff, decide_eq_true_eq, decide_eq_true_eq]
      omega
    rw [e]
    simp only [bodyB] at q
    refine ite2 (fun h1 => ?_) (fun h1 => ?_)
    · rw [h1, Bool.true_and] at q
      refine ⟨_, rfl, S l, rfl, fun D hD => ?_⟩
      refine lc_flt (fun c => !plainC c) (by omega) (fun c H' k k0 h1 h2 => ?_) ?_
      · refine ⟨rfl, _, rfl, S [32], S [c], congrArg V.str blankS, rfl, _, rfl, ?_⟩
        rw [show (S [c]).cps.toList = [c] from rfl, show (S [32]).cps.toList = [32] from rfl, lt_sign]
        have hp : plainC c = (!decide (c < 32) && !decide (126 < c)) := by
          unfold plainC
          rw [Bool.eq_iff_iff]
          simp
        cases e1 : decide (c < 32) with
        | true =>
          exact iteF ⟨_, rfl, iteT ⟨_, rfl, h1 (by rw [hp, e1]; rfl)⟩⟩
        | false =>
          refine iteT ?_
          refine ⟨_, S [126], rfl, congrArg V.str tildeS, _, rfl, ?_⟩
          rw [show (S [c]).cps.toList = [c] from rfl, show (S [126]).cps.toList = [126] from rfl, lt_sign]
          cases e2 : decide (126 < c) with
          | true => exact iteT ⟨_, rfl, h1 (by rw [hp, e1, e2]; rfl)⟩
          | false => exact iteF (h2 (by rw [hp, e1, e2]; rfl))
      · refine ⟨Nat.zero_le _, fun t ht => ?_⟩
        have nD : D ≠ t := ne_of_none (H := upd H D (.lst (chars (l.filter fun c => !plainC c)))) upd_same ht
        have af : asc (l.filter fun c => !plainC c) := fun c hc => al c ((List.mem_filter.mp hc).1)
        refine ⟨.list (dChars (l.filter fun c => !plainC c)), .list [], .lst (SqL.of (by rw [upd_ne nD, upd_same])) (dpChars _), .lst (SqL.of upd_same) .nil, shaped_chars af, shaped_ints [], ?_⟩
        rw [eq_nil_chars, plain_filt]
        exact q _ ((same_new hD).trans (same_new ht))
    · rw [Bool.eq_false_iff.mpr h1, Bool.false_and] at q
      exact q H (Same.refl _)
end
end Ag

end
/-! ## ZD -/
section
set_option linter.all false
set_option maxRecDepth 100000
set_option maxHeartbeats 4000000
namespace Ag
open PySem PySem.Spec PyProof.Rows L2
open SX (S S_len S_cat S_inj)
section
variable {P : Program} {w : World} {K : PySem.W.Frag} {mg : Str → Option Value} {base : Heap} {tm tn tb : Tok}
def spTxtS (K : PySem.W.Frag) (m : Nat) : Sp := fun vs H Q _ => ∃ p c v d, vs = [v] ∧ Do K p c H v d ∧ sOk d ∧ ∀ H', Same H H' → Q (.bl (txtB m d)) H'
theorem ok_lbody_D {f : Addr} {fd : FuncData} (F : Fn K mg "_law_is_body" s__law_is_body ["_law_thing"] f fd) (B : Con mg tm tn tb) : FnOk P w K mg base CX0 1 f fd ["_law_thing"] (spTxtS K 150) := by
  refine F.F.ok sc__law_is_body (fun vs H Q E h => ?_) (fun cdv A outer s H vs Q E hr h => ?_)
  · obtain ⟨p, c, x, d, rfl, _⟩ := h
    rfl
  · obtain ⟨p, c, x, d, rfl, hd, hs, q⟩ := h
    refine ⟨_, (pss_one (ps_ret (pe_and (pe_callB call_isi (by rfl) B.n_isinstance (by decide +kernel) (pa_cons (pv 0) (pa_cons (pe_bltn (v := .ty "str") (by rfl) B.n_str (by decide +kernel) rfl) pa_nil))) (pe_and (pe_cmpR op_le (pe_callB call_len (by rfl) B.n_len PySem.boot_len (pa_cons (pv 0) pa_nil)) pe_int (nomark _)) (pe_one (pe_cmpR (op_eqD hr.units) (pe_lc (own := [("_law_sign", 1)]) rfl sc__law_is_body.nd (pi_str (pv 0)) (blkOk_by (N := N__law_is_body) (sc := defScope s__law_is_body) (by decide +kernel)) (fun _ _ _ _ _ => (pg_name (i := 1) sc__law_is_body.nd rfl (Or.inl rfl))) (fun _ _ _ _ _ => (pts_one (pt_not (pt_chain op_le_str op_le_str pe_str (pv 1) pe_str)))) (fun _ _ _ _ _ => (pv 1))) (pe_lst pa_nil) (nomark _))))))), ?_⟩
    refine ⟨x, rfl, x, .ty "str", _, _, _, rfl, .ty "str", hd.tyx, hd.kS, _, rfl, ?_⟩
    cases hd with
    | str x =>
      obtain ⟨h1, hl⟩ := hs x rfl
      have hx : x = S x.cps.toList := rfl
      simp only [txtB] at q
      clear hs
      generalize x.cps.toList = l at h1 hl hx q
      subst hx
      have al : asc l := fun c hc => by
        have := List.all_eq_true.mp h1 c hc
        simpa using this
      refine iteT ?_
      refine ⟨_, rfl, .str (S l), _, rfl, ⟨sz (by rw [S_len]; omega), rfl⟩, _, _, rfl, rfl, _, rfl, ?_⟩
      rw [S_len]
      have e : decide ((l.length : Int) ≤ 150) = decide (l.length ≤ 150) := by
        rw [Bool.eq_iff_iff, decide_eq_true_eq, decide_eq_true_eq]
        omega
      rw [e]
      skip
      refine ite2 (fun h1 => ?_) (fun h1 => ?_)
      · rw [h1, Bool.true_and] at q
        refine ⟨_, rfl, S l, rfl, fun D hD => ?_⟩
        refine lc_flt (fun c => !plainC c) (by omega) (fun c H' k k0 h1 h2 => ?_) ?_
        · refine ⟨rfl, _, rfl, S [32], S [c], congrArg V.str blankS, rfl, _, rfl, ?_⟩
          rw [show (S [c]).cps.toList = [c] from rfl, show (S [32]).cps.toList = [32] from rfl, lt_sign]
          have hp : plainC c = (!decide (c < 32) && !decide (126 < c)) := by
            unfold plainC
            rw [Bool.eq_iff_iff]
            simp
          cases e1 : decide (c < 32) with
          | true =>
            exact iteF ⟨_, rfl, iteT ⟨_, rfl, h1 (by rw [hp, e1]; rfl)⟩⟩
          | false =>
            refine iteT ?_
            refine ⟨_, S [126], rfl, congrArg V.str tildeS, _, rfl, ?_⟩
            rw [show (S [c]).cps.toList = [c] from rfl, show (S [126]).cps.toList = [126] from rfl, lt_sign]
            cases e2 : decide (126 < c) with
            | true => exact iteT ⟨_, rfl, h1 (by rw [hp, e1, e2]; rfl)⟩
            | false => exact iteF (h2 (by rw [hp, e1, e2]; rfl))
        · refine ⟨Nat.zero_le _, fun t ht => ?_⟩
          have nD : D ≠ t := ne_of_none (H := upd H D (.lst (chars (l.filter fun c => !plainC c)))) upd_same ht
          have af : asc (l.filter fun c => !plainC c) := fun c hc => al c ((List.mem_filter.mp hc).1)
          refine ⟨.list (dChars (l.filter fun c => !plainC c)), .list [], .lst (SqL.of (by rw [upd_ne nD, upd_same])) (dpChars _), .lst (SqL.of upd_same) .nil, shaped_chars af, shaped_ints [], ?_⟩
          rw [eq_nil_chars, plain_filt]
          exact q _ ((same_new hD).trans (same_new ht))
      · rw [Bool.eq_false_iff.mpr h1, Bool.false_and] at q
        exact q H (Same.refl _)
    | _ => exact q _ (Same.refl _)
def spLNumD (K : PySem.W.Frag) : Sp := fun vs H Q _ => ∃ p c v d lo, vs = [v, .int lo] ∧ Do K p c H v d ∧ Q (.bl (wholeB lo 1000000000 d)) H
theorem ok_lnum_D {f : Addr} {fd : FuncData} (F : Fn K mg "_law_is_number" s__law_is_number ["_law_thing", "_law_low"] f fd) (B : Con mg tm tn tb) : FnOk P w K mg base CX0 1 f fd ["_law_thing", "_law_low"] (spLNumD K) := by
  refine F.F.ok sc__law_is_number (fun vs H Q E h => ?_) (fun cdv A outer s H vs Q E hr h => ?_)
  · obtain ⟨p, c, x, d, lo, rfl, _⟩ := h
    rfl
  · obtain ⟨p, c, x, d, lo, rfl, hd, q⟩ := h
    refine ⟨_, (pss_one (ps_ret (pe_and (pe_callB call_isi (by rfl) B.n_isinstance (by decide +kernel) (pa_cons (pv 0) (pa_cons (pe_bltn (v := .ty "int") (by rfl) B.n_int (by decide +kernel) rfl) pa_nil))) (pe_and (pe_not (pe_callB call_isi (by rfl) B.n_isinstance (by decide +kernel) (pa_cons (pv 0) (pa_cons (pe_bltn (v := .ty "bool") (by rfl) B.n_bool (by decide +kernel) rfl) pa_nil)))) (pe_one (pe_chain op_le op_le (pv 1) (pv 0) (pe_op op_pow pe_int pe_int))))))), ?_⟩
    refine ⟨x, rfl, x, .ty "int", _, _, _, rfl, .ty "int", hd.tyx, hd.kI, _, rfl, ite2 (fun h => ?_) (fun h => ?_)⟩
    · refine ⟨_, rfl, x, .ty "bool", _, _, _, rfl, .ty "bool", hd.tyx, hd.kB, _, rfl, _, rfl, ?_⟩
      cases hd with
      | int i =>
        refine iteT ⟨_, rfl, _, rfl, _, _, rfl, rfl, _, rfl, ?_⟩
        simp only [wholeB] at q
        refine ite2 (fun h1 => ?_) (fun h1 => ?_)
        · rw [h1, Bool.true_and] at q
          exact ⟨_, _, rfl, rfl, ⟨by decide, by decide, by decide⟩, _, _, rfl, rfl, q⟩
        · rw [Bool.eq_false_iff.mpr h1, Bool.false_and] at q
          exact q
      | bl b => exact iteF q
      | _ => exact absurd h (by simp [isI])
    · cases d <;> first | exact q | exact absurd rfl h
end
end Ag

end
/-! ## Math2 -/
section
set_option linter.all false
namespace Ag
open PySem
/-! ### what readings lead to -/
theorem lr_nil (s : List Nat) (t : Option (List Nat)) : lr s t [] = .read [] (glue s t) := rfl
theorem lr_cons (s : List Nat) (t : Option (List Nat)) (c : Nat) (cs : List Nat) : lr s t (c :: cs) = match stp s t c with
    | none => .wrong [] 0
    | some (o, s', t') => (lr s' t' cs).pre o.toList 1 := rfl
theorem stp_glue {s : List Nat} {t : Option (List Nat)} {c : Nat} {s' : List Nat} {t' : Option (List Nat)} (h : stp s t c = some (none, s', t')) : glue s' t' = glue s t ++ [c] := by
  cases t with
  | none =>
    simp only [stp] at h
    split at h
    · rename_i q
      cases h
      simp [glue, q.1]
    · split at h
      · cases h
        rfl
      · cases h
  | some t =>
    simp only [stp] at h
    split at h
    · split at h
      · cases h
        simp [glue]
      · cases h
    · split at h
      · cases h
      · cases h
theorem stp_done {s : List Nat} {t : Option (List Nat)} {c : Nat} {u : List Nat} {s' : List Nat} {t' : Option (List Nat)} (h : stp s t c = some (some u, s', t')) : t = some u ∧ s' = [] ∧ t' = none := by
  cases t with
  | none =>
    simp only [stp] at h
    split at h
    · cases h
    · split at h <;> cases h
  | some t =>
    simp only [stp] at h
    split at h
    · split at h <;> cases h
    · split at h
      · cases h
        exact ⟨rfl, rfl, rfl⟩
      · cases h
theorem lr_id : ∀ (l : List Nat) {s : List Nat} {t : Option (List Nat)} {r : List Nat}, lr s t l = .read [] r → r = glue s t ++ l
  | [], s, t, r, h => by
    rw [lr_nil] at h
    cases h
    simp
  | c :: cs, s, t, r, h => by
    rw [lr_cons] at h
    cases hs : stp s t c with
    | none => rw [hs] at h; cases h
    | some p =>
      obtain ⟨o, s', t'⟩ := p
      rw [hs] at h
      simp only at h
      cases hl : lr s' t' cs with
      | wrong us k => rw [hl] at h; cases h
      | read us r' =>
        rw [hl] at h
        simp only [Out.pre] at h
        injection h with h1 h2
        cases o with
        | some u => simp at h1
        | none =>
          simp at h1
          subst h1
          subst h2
          rw [lr_id cs hl, stp_glue hs]
          simp
/-- the texts that are told are texts; their signs, and those of the rest, are at most those that were there -/
def osz : Out → Nat
  | .read ts r => ts.flatten.length + ts.length + r.length
  | .wrong ts k => ts.flatten.length + ts.length
def Out.texts : Out → List (List Nat)
  | .read ts _ => ts
  | .wrong ts _ => ts
theorem lr_osz : ∀ (l : List Nat) (s : List Nat) (t : Option (List Nat)), osz (lr s t l) ≤ (glue s t).length + l.length
  | [], s, t => by simp [lr_nil, osz]
  | c :: cs, s, t => by
    rw [lr_cons]
    cases hs : stp s t c with
    | none => simp [osz]
    | some p =>
      obtain ⟨o, s', t'⟩ := p
      have ih := lr_osz cs s' t'
      cases o with
      | none =>
        have hg := congrArg List.length (stp_glue hs)
        rw [List.length_append, List.length_singleton] at hg
        show osz ((lr s' t' cs).pre [] 1) ≤ _
        cases hl : lr s' t' cs with
        | read us r => rw [hl] at ih; simp only [osz, Out.pre, List.nil_append, List.length_cons] at ih ⊢; omega
        | wrong us k => rw [hl] at ih; simp only [osz, Out.pre, List.nil_append, List.length_cons] at ih ⊢; omega
      | some u =>
        obtain ⟨rfl, rfl, rfl⟩ := stp_done hs
        show osz ((lr [] none cs).pre [u] 1) ≤ _
        cases hl : lr [] none cs with
        | read us r =>
          rw [hl] at ih
          simp only [osz, Out.pre, Option.toList, List.length_cons, List.singleton_append, List.flatten_cons, List.length_append, glue, List.length_nil] at ih ⊢
          omega
        | wrong us k =>
          rw [hl] at ih
          simp only [osz, Out.pre, Option.toList, List.length_cons, List.singleton_append, List.flatten_cons, List.length_append, glue, List.length_nil] at ih ⊢
          omega
theorem lr_at : ∀ (l : List Nat) (s : List Nat) (t : Option (List Nat)) (ts : List (List Nat)) (k : Nat), lr s t l = .wrong ts k → k ≤ l.length
  | [], s, t, ts, k, h => by rw [lr_nil] at h; cases h
  | c :: cs, s, t, ts, k, h => by
    rw [lr_cons] at h
    cases hs : stp s t c with
    | none => rw [hs] at h; cases h; exact Nat.zero_le _
    | some p =>
      obtain ⟨o, s', t'⟩ := p
      rw [hs] at h
      simp only at h
      cases hl : lr s' t' cs with
      | read us r => rw [hl] at h; cases h
      | wrong us j =>
        have := lr_at cs s' t' us j hl
        rw [hl] at h
        cases h
        simp
        omega
theorem lr_texts : ∀ (l : List Nat) {s : List Nat} {t : Option (List Nat)}, Vd s t → ∀ x ∈ (lr s t l).texts, plainL x = true
  | [], s, t, v, x, h => by simp [lr_nil, Out.texts] at h
  | c :: cs, s, t, v, x, h => by
    rw [lr_cons] at h
    cases hs : stp s t c with
    | none => rw [hs] at h; simp [Out.texts] at h
    | some p =>
      obtain ⟨o, s', t'⟩ := p
      rw [hs] at h
      simp only at h
      have ih := lr_texts cs (v.step hs)
      have hh : x ∈ o.toList ∨ x ∈ (lr s' t' cs).texts := by
        cases hl : lr s' t' cs with
        | read us r => rw [hl] at h; simpa [Out.pre, Out.texts] using h
        | wrong us r => rw [hl] at h; simpa [Out.pre, Out.texts] using h
      rcases hh with hh | hh
      · cases o with
        | none => simp at hh
        | some u =>
          simp at hh
          subst hh
          obtain ⟨rfl, _, _⟩ := stp_done hs
          exact v.2
      · exact ih x hh
/-! ### frames -/
theorem lr_numL : ∀ (k : Nat), k ≤ 200 → ∀ l, lr [] none (numL k ++ l) = (lr (numL k) none l).pre [] (numL k).length := by
  intro k
  induction k using Nat.strongRecOn with
  | ind k ih =>
    intro hk l
    have hdec : isDec (numL k) 200 = true := isDec_iff.mpr ⟨k, hk, rfl⟩
    by_cases h : k < 10
    · have e : numL k = [48 + k] := TL.numL_lt h
      have hs : stp [] none (48 + k) = some (none, numL k, none) := by
        show (if 48 + k = 58 ∧ ([] : List Nat) ≠ [] then _ else if isDec ([] ++ [48 + k]) 200 = true then _ else _) = _
        rw [if_neg (fun z => z.2 rfl), List.nil_append, ← e, if_pos hdec]
      conv => lhs; rw [e]
      rw [List.singleton_append, lr_cons, hs, e]
      rfl
    · have e : numL k = numL (k / 10) ++ [48 + k % 10] := TL.numL_step (by omega)
      have hs : stp (numL (k / 10)) none (48 + k % 10) = some (none, numL k, none) := by
        show (if 48 + k % 10 = 58 ∧ numL (k / 10) ≠ [] then _ else if isDec (numL (k / 10) ++ [48 + k % 10]) 200 = true then _ else _) = _
        rw [if_neg (fun z => by have := z.1; omega), ← e, if_pos hdec]
      conv => lhs; rw [e, List.append_assoc]
      rw [ih (k / 10) (by omega) (by omega), List.singleton_append, lr_cons, hs]
      simp only [Option.toList]
      rw [Out.pre_pre, e, List.length_append, List.length_singleton]
      rfl
theorem lr_frm {t : List Nat} (h : isTextB t = true) (l : List Nat) : lr [] none (frm t ++ l) = (lr [] none l).pre [t] (frm t).length := by
  unfold isTextB at h
  rw [Bool.and_eq_true, decide_eq_true_eq] at h
  have e : frm t ++ l = numL t.length ++ (58 :: (t ++ (44 :: l))) := by simp [frm]
  have hs1 : stp (numL t.length) none 58 = some (none, numL t.length, some []) := by
    show (if 58 = 58 ∧ numL t.length ≠ [] then _ else _) = _
    rw [if_pos ⟨rfl, numL_ne _⟩]
  have hs2 : stp (numL t.length) (some t) 44 = some (some t, [], none) := by
    show (if t.length < digitsVal (numL t.length) then _ else _) = _
    rw [numL_val, if_neg (Nat.lt_irrefl _)]
    rfl
  rw [e, lr_numL _ h.1, lr_cons, hs1]
  simp only [Option.toList]
  rw [lr_text t _ h.2 (by rw [numL_val]; simp), lr_cons, List.nil_append, hs2]
  simp only [Option.toList]
  rw [Out.pre_pre, Out.pre_pre, Out.pre_pre]
  congr 1
  simp [frm]
  omega
theorem lr_frms : ∀ (ts : List (List Nat)), (∀ t ∈ ts, isTextB t = true) → ∀ l, lr [] none ((ts.map frm).flatten ++ l) = (lr [] none l).pre ts (ts.map frm).flatten.length
  | [], _, l => by simp [Out.pre_nil]
  | t :: ts, h, l => by
    rw [List.map_cons, List.flatten_cons, List.append_assoc, lr_frm (h t List.mem_cons_self), lr_frms ts (fun u hu => h u (List.mem_cons_of_mem _ hu)), Out.pre_pre]
    simp
/-- a frame's proper prefix is a rest -/
theorem prefix_rest {t : List Nat} (h : isTextB t = true) {m : Nat} (hm : m < (frm t).length) : ∃ s' t', Vd s' t' ∧ (frm t).take m = glue s' t' := by
  have v0 : Vd [] none := .inl rfl
  have e := lr_frm h []
  rw [List.append_nil, lr_nil] at e
  have e2 := lr_app ((frm t).take m) ((frm t).drop m) v0
  rw [List.take_append_drop, e] at e2
  cases hl : lr [] none ((frm t).take m) with
  | wrong us k =>
    rw [hl] at e2
    cases e2
  | read us r =>
    rw [hl] at e2
    obtain ⟨s', t', v', hr⟩ := lr_rest _ v0 hl
    have hb : (frm t).drop m ≠ [] := by
      intro z
      have := congrArg List.length z
      rw [List.length_drop, List.length_nil] at this
      omega
    simp only [Out.thn, Out.pre] at e2
    cases hl2 : lr (spS r) (spT r) ((frm t).drop m) with
    | wrong ws k => rw [hl2] at e2; cases e2
    | read ws q =>
      rw [hl2] at e2
      injection e2 with e3 e4
      have hus : us = [] := by
        cases us with
        | nil => rfl
        | cons u us =>
          simp at e3
          obtain ⟨_, rfl, rfl⟩ := e3
          have := lr_id _ hl2
          rw [← e4] at this
          have := congrArg List.length this
          rw [List.length_append, List.length_drop] at this
          have e0 : (glue [] none).length = 0 := rfl
          omega
      subst hus
      have := lr_id _ hl
      simp [glue] at this
      exact ⟨s', t', v', by rw [← hr]; exact this.symm⟩
theorem isRestB_glue {s : List Nat} {t : Option (List Nat)} (v : Vd s t) : isRestB (glue s t) = true := by
  unfold isRestB
  rw [(sp_glue v).1, (sp_glue v).2]
  cases t with
  | none =>
    rcases v with rfl | ⟨k, hk, rfl⟩
    · rw [if_neg (by rw [isDec_nil]; decide)]
      rfl
    · rw [if_pos (isDec_iff.mpr ⟨k, hk, rfl⟩)]
      rfl
  | some t =>
    obtain ⟨⟨k, hk, rfl, ht⟩, hp⟩ := v
    rw [if_pos (isDec_iff.mpr ⟨k, hk, rfl⟩), numL_val]
    show (decide (t.length ≤ k) && plainL t) = true
    rw [hp, decide_eq_true ht]
    rfl
theorem lr_start {s : List Nat} {t : Option (List Nat)} (v : Vd s t) (z : List Nat) : lr [] none (glue s t ++ z) = (lr s t z).pre [] (glue s t).length := by
  have v0 : Vd [] none := .inl rfl
  have key : lr [] none (glue s t) = .read [] (glue s t) := by
    cases t with
    | none =>
      rcases v with rfl | ⟨k, hk, rfl⟩
      · rfl
      · have := lr_numL k hk []
        rw [List.append_nil, lr_nil] at this
        simpa [glue, Out.pre] using this
    | some t =>
      obtain ⟨⟨k, hk, rfl, ht⟩, hp⟩ := v
      have hs1 : stp (numL k) none 58 = some (none, numL k, some []) := by
        show (if 58 = 58 ∧ numL k ≠ [] then _ else _) = _
        rw [if_pos ⟨rfl, numL_ne _⟩]
      have e : lr [] none (numL k ++ 58 :: t) = .read [] (numL k ++ 58 :: t) := by
        rw [lr_numL _ hk, lr_cons, hs1]
        simp only [Option.toList]
        have := lr_text t [] (s := numL k) (t := []) hp (by rw [numL_val]; simp; exact ht)
        rw [List.append_nil, List.nil_append] at this
        rw [this, lr_nil]
        simp [Out.pre, glue]
      exact e
  rw [lr_app _ _ v0, key]
  simp only [Out.thn]
  rw [(sp_glue v).1, (sp_glue v).2]
end Ag

end
/-! ## ZE -/
section
set_option linter.all false
set_option maxRecDepth 100000
namespace Ag
open PySem PySem.Spec PyProof.Rows L2
open SX (S S_len S_cat S_inj)
/-- a string that the program takes for a rest is one -/
theorem rest_of {z : List Nat} (h : isRestB z = true) : ∃ s t, Vd s t ∧ z = glue s t := by
  by_cases hm : 58 ∈ z
  · obtain ⟨p, q, rfl, hp⟩ := List.eq_append_cons_of_mem hm
    have e : TL.par [58] [] (p ++ 58 :: q) = some (p, q) := SX.par_head q hp
    have e1 : spS (p ++ 58 :: q) = p := by unfold spS; rw [e]
    have e2 : spT (p ++ 58 :: q) = some q := by unfold spT; rw [e]
    unfold isRestB at h
    rw [e1, e2] at h
    by_cases hd : isDec p 200 = true
    · rw [if_pos hd] at h
      simp only [Option.getD_some, Bool.and_eq_true, decide_eq_true_eq] at h
      obtain ⟨k, hk, rfl⟩ := isDec_iff.mp hd
      rw [numL_val] at h
      exact ⟨numL k, some q, ⟨⟨k, hk, rfl, h.1⟩, h.2⟩, rfl⟩
    · rw [if_neg hd] at h
      simp at h
  · have e : TL.par [58] [] z = none := SX.par_head_none hm
    have e1 : spS z = z := by unfold spS; rw [e]
    have e2 : spT z = none := by unfold spT; rw [e]
    unfold isRestB at h
    rw [e1, e2] at h
    by_cases hd : isDec z 200 = true
    · obtain ⟨k, hk, rfl⟩ := isDec_iff.mp hd
      exact ⟨numL k, none, .inr ⟨k, hk, rfl⟩, rfl⟩
    · rw [if_neg hd, decide_eq_true_eq] at h
      subst h
      exact ⟨[], none, .inl rfl, rfl⟩
theorem rest_iff (z : List Nat) : isRestB z = true ↔ lr [] none z = .read [] z := by
  constructor
  · intro h
    obtain ⟨s, t, v, rfl⟩ := rest_of h
    have := lr_start v []
    rw [List.append_nil] at this
    rw [this]
    simp [lr, Out.pre]
  · intro h
    obtain ⟨s, t, v, e⟩ := lr_rest z (show Vd [] none from .inl rfl) h
    rw [e]
    exact isRestB_glue v
/-- what the law's own look at a rest compares -/
theorem rest_out (z : List Nat) : isRestB z = (match lr [] none z with | .read ts r => decide (ts = []) && decide (r = z) | .wrong _ _ => false) := by
  rw [Bool.eq_iff_iff, rest_iff]
  cases h : lr [] none z with
  | read ts r =>
    simp only [Bool.and_eq_true, decide_eq_true_eq]
    constructor
    · intro e
      cases e
      exact ⟨rfl, rfl⟩
    · rintro ⟨rfl, rfl⟩
      rfl
  | wrong ts k => simp
end Ag

end
/-! ## L7 -/
section
set_option linter.all false
set_option maxRecDepth 100000
namespace Ag
open PySem PySem.Spec PyProof.Rows L2
open SX (S S_len S_cat S_inj)
theorem hu66 {k : Nat} {A : Around} (hr : Room k A) : A.units + 66 < cLine := by have := hr.un; omega
theorem asc_app {a b : List Nat} (ha : asc a) (hb : asc b) : asc (a ++ b) := fun c hc => (List.mem_append.mp hc).elim (ha c) (hb c)
theorem asc_plain {l : List Nat} (h : plainL l = true) : asc l := fun c hc => by
  have := List.all_eq_true.mp h c hc
  unfold plainC at this
  rw [Bool.and_eq_true, decide_eq_true_eq, decide_eq_true_eq] at this
  omega
/-! ### data of results -/
def txD (ts : List (List Nat)) : PyData := .tuple (ts.map fun x => .str (S x))
def outD : Out → PyData
  | .read ts r => .tuple [.str (Str.ofString "read"), txD ts, .str (S r)]
  | .wrong ts k => .tuple [.str (Str.ofString "wrong"), txD ts, .int (k : Int)]
theorem dp_txs {K : PySem.W.Frag} {H : Hp} : ∀ ts : List (List Nat), DpAll K H (txs ts) (ts.map fun x => PyData.str (S x))
  | [] => .nil
  | t :: ts => .cons (.str (S t)) (dp_txs ts)
theorem dp_tx {K : PySem.W.Frag} {H : Hp} {a : Addr} {ts : List (List Nat)} (h : H a = some (.tup (txs ts))) : Dp K H (.ref a) (txD ts) := .tup (SqT.of h) (dp_txs ts)
theorem dp_out {K : PySem.W.Frag} {H : Hp} {p : Addr} {o : Out} (h : OutAt 0 o H p) : Dp K H (.ref p) (outD o) := by
  cases o with
  | read ts r =>
    obtain ⟨t, h1, h2⟩ := h
    exact .tup (SqT.of h2) (.cons (.str _) (.cons (dp_tx h1) (.cons (.str _) .nil)))
  | wrong ts k =>
    obtain ⟨t, h1, h2⟩ := h
    have e : ((k : Int) - ((0 : Nat) : Int)) = (k : Int) := by omega
    rw [e] at h2
    exact .tup (SqT.of h2) (.cons (.str _) (.cons (dp_tx h1) (.cons (.int _) .nil)))
theorem out_sub {n : Nat} {o : Out} {H : Hp} {p : Addr} (h : OutAt n (o.pre [] n) H p) : OutAt 0 o H p := by
  cases o with
  | read ts r => exact h
  | wrong ts k =>
    obtain ⟨t, h1, h2⟩ := h
    refine ⟨t, h1, ?_⟩
    rw [h2]
    have e : ((n + k : Nat) : Int) - (n : Int) = (k : Int) - ((0 : Nat) : Int) := by omega
    rw [e]
theorem out_same {n : Nat} {o : Out} {H H' : Hp} {p : Addr} (h : OutAt n o H p) (s : Same H H') : OutAt n o H' p := by
  cases o with
  | read ts r => obtain ⟨t, h1, h2⟩ := h; exact ⟨t, s _ _ h1, s _ _ h2⟩
  | wrong ts r => obtain ⟨t, h1, h2⟩ := h; exact ⟨t, s _ _ h1, s _ _ h2⟩
theorem tup_gx {p c a : Addr} {H H' : Hp} {xs : List V} (d : Dk p c H) (g : Gx p c H H') (h : H a = some (.tup xs)) : H' a = some (.tup xs) := by
  obtain ⟨m, t, cs, h1, h2, _⟩ := d
  exact g.1 a _ (ne_of h h1 (by intro z; cases z)) (ne_of h h2 (by intro z; cases z)) h
theorem out_gx {p c a : Addr} {n : Nat} {o : Out} {H H' : Hp} (d : Dk p c H) (g : Gx p c H H') (h : OutAt n o H a) : OutAt n o H' a := by
  cases o with
  | read ts r => obtain ⟨t, h1, h2⟩ := h; exact ⟨t, tup_gx d g h1, tup_gx d g h2⟩
  | wrong ts r => obtain ⟨t, h1, h2⟩ := h; exact ⟨t, tup_gx d g h1, tup_gx d g h2⟩
/-! data whose texts are ascii, and whose ints are small -/
mutual
def okD : PyData → Bool
  | .none => true
  | .bool _ => true
  | .int i => decide (0 ≤ i) && decide (i ≤ 1000000)
  | .str x => x.cps.toList.all (· < 128)
  | .list xs => okAll xs
  | .tuple xs => okAll xs
  | .dict _ => false
def okAll : List PyData → Bool
  | [] => true
  | x :: xs => okD x && okAll xs
end
theorem shown_small {i : Int} (h0 : 0 ≤ i) (h1 : i ≤ 1000000) : (PyData.int i).shown.length ≤ 8 := by
  rw [PyData.shown_int]
  obtain ⟨n, rfl⟩ := Int.eq_ofNat_of_zero_le h0
  rw [toStr, S_len]
  have : (numL n).length ≤ 7 := TL.numL_len (by decide) (by omega)
  omega
mutual
theorem ok_all4 : ∀ d : PyData, okD d = true → d.showable = true ∧ d.hasDict = false ∧ d.canLay0 = true ∧ d.leavesShort 8 = true
  | .none, _ => by simp [PyData.showable, PyData.hasDict, PyData.canLay0, PyData.leavesShort]
  | .bool _, _ => by simp [PyData.showable, PyData.hasDict, PyData.canLay0, PyData.leavesShort]
  | .int i, h => by
    simp only [okD, Bool.and_eq_true, decide_eq_true_eq] at h
    obtain ⟨n, rfl⟩ := Int.eq_ofNat_of_zero_le h.1
    have hs := shown_small h.1 h.2
    have hl : ((n : Int)).natAbs.log2 < 1920 := log_small (Nat.lt_of_le_of_lt (show n ≤ 1000000 by omega) (by decide))
    simp only [PyData.showable, PyData.hasDict, PyData.canLay0, PyData.leavesShort, decide_eq_true_eq]
    exact ⟨hl, trivial, trivial, hs⟩
  | .str x, h => by
    simp only [okD, List.all_eq_true, decide_eq_true_eq] at h
    simp only [PyData.showable, PyData.hasDict, PyData.canLay0, PyData.leavesShort]
    refine ⟨trivial, trivial, ?_, ?_⟩
    · unfold PyData.strOk
      rw [← Array.all_toList, List.all_eq_true]
      intro c hc
      have := h c hc
      simp
      omega
    · rw [List.all_eq_true]
      intro c hc
      have := h c hc
      simp
      omega
  | .list xs, h => by
    have := ok_allA xs (by simpa only [okD] using h)
    simpa only [PyData.showable, PyData.hasDict, PyData.canLay0, PyData.leavesShort] using this
  | .tuple xs, h => by
    have := ok_allA xs (by simpa only [okD] using h)
    simpa only [PyData.showable, PyData.hasDict, PyData.canLay0, PyData.leavesShort] using this
  | .dict _, h => by simp [okD] at h
theorem ok_allA : ∀ xs : List PyData, okAll xs = true → PyData.showableAll xs = true ∧ PyData.hasDictAll xs = false ∧ PyData.canLayAll0 xs = true ∧ PyData.leavesShortAll 8 xs = true
  | [], _ => by simp [PyData.showableAll, PyData.hasDictAll, PyData.canLayAll0, PyData.leavesShortAll]
  | x :: xs, h => by
    simp only [okAll, Bool.and_eq_true] at h
    obtain ⟨a1, a2, a3, a4⟩ := ok_all4 x h.1
    obtain ⟨b1, b2, b3, b4⟩ := ok_allA xs h.2
    simp only [PyData.showableAll, PyData.hasDictAll, PyData.canLayAll0, PyData.leavesShortAll, a1, a2, a3, a4, b1, b2, b3, b4]
    exact ⟨rfl, rfl, rfl, rfl⟩
end
structure Fit (d : PyData) : Prop where
  ok : okD d = true
  dp : d.depth ≤ 60
  bk : d.bulk ≤ 1500000
theorem Fit.shown {d : PyData} (f : Fit d) : d.showable = true ∧ d.hasDict = false ∧ d.depth ≤ 64 ∧ d.shown.length ≤ sizeLine := by
  obtain ⟨a1, a2, a3, a4⟩ := ok_all4 d f.ok
  refine ⟨a1, a2, by have := f.dp; omega, ?_⟩
  have := PyData.shown_le_bulk 8 (by decide) d a4
  have := f.bk
  rw [sizeLine_eq]
  omega
theorem Fit.shaped {d : PyData} (f : Fit d) : SeqAt.shaped d = true := by
  obtain ⟨a1, a2, a3, a4⟩ := ok_all4 d f.ok
  unfold SeqAt.shaped
  rw [a3, decide_eq_true (by have := f.dp; omega)]
  rfl
theorem Fit.refl {d : PyData} (f : Fit d) : PyData.eqv d d = true := SeqAt.eqv_refl d (ok_all4 d f.ok).2.2.1
theorem okAll_txs {ts : List (List Nat)} (h : ∀ t ∈ ts, asc t) : okAll (ts.map fun x => PyData.str (S x)) = true := by
  induction ts with
  | nil => simp [okAll]
  | cons t ts ih =>
    rw [List.map_cons]
    simp only [okAll, okD, Bool.and_eq_true]
    refine ⟨?_, ih fun u hu => h u (List.mem_cons_of_mem _ hu)⟩
    rw [List.all_eq_true]
    intro c hc
    have := h t List.mem_cons_self c hc
    simpa using this
theorem depth_txs (ts : List (List Nat)) : PyData.depthAll (ts.map fun x => PyData.str (S x)) = 0 := by
  induction ts with
  | nil => simp [PyData.depthAll]
  | cons t ts ih =>
    rw [List.map_cons]
    simp only [PyData.depthAll, PyData.depth, ih]
    rfl
theorem bulk_txs (ts : List (List Nat)) : PyData.bulkAll (ts.map fun x => PyData.str (S x)) = ts.flatten.length + ts.length := by
  induction ts with
  | nil => simp [PyData.bulkAll]
  | cons t ts ih =>
    rw [List.map_cons]
    simp only [PyData.bulkAll, PyData.bulk, ih, List.flatten_cons, List.length_append, List.length_cons]
    rw [show (S t).cps.size = t.length from List.size_toArray ..]
    omega
/-- a result that is not too large -/
structure FitO (o : Out) : Prop where
  tx : ∀ t ∈ o.texts, asc t
  rs : ∀ ts r, o = .read ts r → asc r
  sz : osz o ≤ 100000
  at_ : ∀ ts k, o = .wrong ts k → k ≤ 100000
theorem FitO.fit {o : Out} (f : FitO o) : okD (outD o) = true ∧ (outD o).depth = 2 ∧ (outD o).bulk ≤ 100020 := by
  cases o with
  | read ts r =>
    have h1 := f.tx
    have h2 := f.rs ts r rfl
    have h3 := f.sz
    simp only [osz] at h3
    refine ⟨?_, ?_, ?_⟩
    · have e1 : okD (.str (Str.ofString "read")) = true := by decide +kernel
      have e2 : okD (.str (S r)) = true := by
        simp only [okD]
        rw [List.all_eq_true]
        intro c hc
        simpa using h2 c hc
      simp only [outD, txD, okD, okAll, Bool.and_true, Bool.and_eq_true]
      exact ⟨by simpa only [okD] using e1, okAll_txs h1, by simpa only [okD] using e2⟩
    · simp only [outD, txD, PyData.depth, PyData.depthAll, depth_txs]
      rfl
    · simp only [outD, txD, PyData.bulk, PyData.bulkAll, bulk_txs]
      have e1 : (Str.ofString "read").cps.size = 4 := by decide +kernel
      rw [show (S r).cps.size = r.length from List.size_toArray ..]
      omega
  | wrong ts k =>
    have h1 := f.tx
    have h2 := f.at_ ts k rfl
    have h3 := f.sz
    simp only [osz] at h3
    refine ⟨?_, ?_, ?_⟩
    · have e1 : okD (.str (Str.ofString "wrong")) = true := by decide +kernel
      have e2 : okD (.int (k : Int)) = true := by
        simp only [okD, Bool.and_eq_true, decide_eq_true_eq]
        omega
      simp only [outD, txD, okD, okAll, Bool.and_true, Bool.and_eq_true]
      exact ⟨by simpa only [okD] using e1, okAll_txs h1, by simpa only [okD, Bool.and_eq_true] using e2⟩
    · simp only [outD, txD, PyData.depth, PyData.depthAll, depth_txs]
      rfl
    · simp only [outD, txD, PyData.bulk, PyData.bulkAll, bulk_txs]
      have e1 : (Str.ofString "wrong").cps.size = 5 := by decide +kernel
      omega
theorem FitO.one {o : Out} (f : FitO o) : Fit (outD o) := by
  obtain ⟨a, b, c⟩ := f.fit
  exact ⟨a, by omega, by omega⟩
theorem FitO.two {o : Out} (f : FitO o) : Fit (.tuple [outD o, outD o]) := by
  obtain ⟨a, b, c⟩ := f.fit
  refine ⟨?_, ?_, ?_⟩
  · simp only [okD, okAll, a]
    rfl
  · simp only [PyData.depth, PyData.depthAll, b]
    decide
  · simp only [PyData.bulk, PyData.bulkAll]
    omega
theorem asc_glue {s : List Nat} {t : Option (List Nat)} (v : Vd s t) : asc (glue s t) := by
  have hd : ∀ k, asc (numL k) := fun k c hc => by have := numL_all k c hc; omega
  cases t with
  | none =>
    rcases v with rfl | ⟨k, _, rfl⟩
    · exact fun _ h => by cases h
    · exact hd k
  | some t =>
    obtain ⟨⟨k, _, rfl, _⟩, hp⟩ := v
    refine asc_app (hd k) fun c hc => ?_
    rcases List.mem_cons.mp hc with rfl | hc
    · decide
    · exact asc_plain hp c hc
theorem fit_lr {s : List Nat} {t : Option (List Nat)} (v : Vd s t) {z : List Nat} (hz : z.length ≤ 50000) : FitO (lr s t z) := by
  have hg : (glue s t).length ≤ 300 := by
    have := v.slen
    cases t with
    | none => simp only [glue]; omega
    | some t =>
      have := v.dig.2.2
      simp only [glue, List.length_append, List.length_cons]
      omega
  refine ⟨fun u hu => asc_plain (lr_texts z v u hu), fun ts r h => ?_, ?_, fun ts k h => ?_⟩
  · obtain ⟨s', t', v', rfl⟩ := lr_rest z v h
    exact asc_glue v'
  · have := lr_osz z s t
    omega
  · have := lr_at z s t ts k h
    omega
end Ag

end
/-! ## ZF -/
section
set_option linter.all false
set_option maxRecDepth 100000
set_option maxHeartbeats 4000000
namespace Ag
open PySem PySem.Spec PyProof.Rows L2
open SX (S S_len S_cat S_inj)
theorem str_beq {a b : List Nat} : (S a == S b) = decide (a = b) := by
  rw [SX.S_beq_eq]
theorem eqv_read {ts : List (List Nat)} {r l : List Nat} : PyData.eqv (outD (.read ts r)) (.tuple [.str (Str.ofString "read"), .tuple [], .str (S l)]) = (decide (ts = []) && decide (r = l)) := by
  unfold outD txD
  cases ts with
  | nil => simp [PyData.eqv, PyData.eqvAll, str_beq]
  | cons t ts => simp [PyData.eqv, PyData.eqvAll]
theorem eqv_wrong {ts : List (List Nat)} {k : Nat} {l : List Nat} : PyData.eqv (outD (.wrong ts k)) (.tuple [.str (Str.ofString "read"), .tuple [], .str (S l)]) = false := by
  have e : (Str.ofString "wrong" == Str.ofString "read") = false := by decide +kernel
  unfold outD
  simp [PyData.eqv, PyData.eqvAll]
section
variable {P : Program} {w : World} {K : PySem.W.Frag} {mg : Str → Option Value} {base : Heap} {tm tn tb : Tok}
def sOk5 (d : PyData) : Prop := ∀ x, d = .str x → x.cps.toList.all (· < 128) = true ∧ x.cps.toList.length ≤ 50000
theorem ok_lrest_D {f f1 : Addr} {fd fd1 : FuncData} (F : Fn K mg "_law_is_rest" s__law_is_rest ["_law_thing"] f fd) (B : Con mg tm tn tb)
    (F__law_read : Fn K mg "_law_read" s__law_read ["_law_rest", "_law_piece"] f1 fd1) : FnOk P w K mg base CX0 2 f fd ["_law_thing"] (fun vs H Q E => ∃ p c v d, vs = [v] ∧ Do K p c H v d ∧ sOk5 d ∧ ∀ H', Same H H' → Q (.bl (rstB d)) H') := by
  have G__law_read : FnOk P w K mg base CX0 1 f1 fd1 ["_law_rest", "_law_piece"] spLread := ok_lread F__law_read B.toBlt
  refine F.F.ok sc__law_is_rest (fun vs H Q E h => ?_) (fun cdv A outer s H vs Q E hr h => ?_)
  · obtain ⟨p, c, x, d, rfl, _⟩ := h
    rfl
  · obtain ⟨p, c, x, d, rfl, hd, hs, q⟩ := h
    refine ⟨_, (pss_one (ps_ret (pe_and (pe_callB call_isi (by rfl) B.n_isinstance (by decide +kernel) (pa_cons (pv 0) (pa_cons (pe_bltn (v := .ty "str") (by rfl) B.n_str (by decide +kernel) rfl) pa_nil))) (pe_one (pe_cmpR (op_eqD hr.units) (pe_call G__law_read (hr.mono (by decide)) (by rfl) F__law_read.g F__law_read.F.kp F__law_read.b .nil pass0 (pa_cons pe_str (pa_cons (pv 0) pa_nil))) (pe_tup (pa_cons pe_str (pa_cons (pe_tup pa_nil) (pa_cons (pv 0) pa_nil)))) (nomark _)))))), ?_⟩
    refine ⟨x, rfl, x, .ty "str", _, _, _, rfl, .ty "str", hd.tyx, hd.kS, _, rfl, ?_⟩
    cases hd with
    | str x =>
      obtain ⟨h1, hl⟩ := hs x rfl
      have hx : x = S x.cps.toList := rfl
      simp only [rstB] at q
      clear hs
      generalize x.cps.toList = l at h1 hl hx q
      subst hx
      refine iteT ?_
      have al : asc l := fun c hc => by
        have := List.all_eq_true.mp h1 c hc
        simpa using this
      refine ⟨_, rfl, [], l, none, by rw [show Str.ofString "" = S (glue [] none) from by decide +kernel]; rfl, .inl rfl, hl, fun p1 H1 hp1 sm1 ho => ?_⟩
      refine ⟨Nat.zero_le _, fun t0 ht0 => ⟨_, rfl, sz (by show 3 ≤ 16000000; decide), fun t1 ht1 => ?_⟩⟩
      have n01 : t0 ≠ t1 := ne_of_none (H := upd H1 t0 (.tup [])) upd_same ht1
      have sm2 : Same H1 (upd (upd H1 t0 (.tup [])) t1 (.tup [.str "read", .ref t0, .str (S l)])) := (same_new ht0).trans (same_new ht1)
      have ho2 := out_same ho sm2
      have ft := (fit_lr (s := []) (t := none) (.inl rfl) hl).one
      have fz : Fit (.tuple [.str (Str.ofString "read"), .tuple [], .str (S l)]) := by
        have := (fit_lr (s := []) (t := none) (.inl rfl) (z := []) (by decide)).one
        refine ⟨?_, ?_, ?_⟩
        · show okAll _ = true
          have hok : okD (.str (S l)) = true := by
            show (S l).cps.toList.all (· < 128) = true
            exact h1
          have e0 : okD (.str (Str.ofString "read")) = true := by decide +kernel
          have e1 : okD (.tuple []) = true := by simp [okD, okAll]
          simp [okAll, e0, e1, hok]
        · simp [PyData.depth, PyData.depthAll]
        · simp only [PyData.bulk, PyData.bulkAll]
          have e3 : l.toArray.size = l.length := List.size_toArray
          have e5 : (S l).cps.size = l.toArray.size := rfl
          have e4 : (Str.ofString "read").cps.size = 4 := by decide +kernel
          omega
      refine ⟨outD (lr [] none l), .tuple [.str (Str.ofString "read"), .tuple [], .str (S l)], dp_out ho2, .tup (SqT.of upd_same) (.cons (.str _) (.cons (.tup (SqT.of (by rw [upd_ne n01, upd_same])) .nil) (.cons (.str _) .nil))), ft.shaped, fz.shaped, ?_⟩
      have q := q _ (sm1.trans sm2)
      rw [rest_out] at q
      cases ho : lr [] none l with
      | read ts r =>
        rw [ho] at q
        rw [eqv_read]
        exact q
      | wrong ts k =>
        rw [ho] at q
        rw [eqv_wrong]
        exact q
    | _ => exact q _ (Same.refl _)
end
end Ag

end
/-! ## N2 -/
section
set_option linter.all false
set_option maxRecDepth 100000
namespace Ag
open PySem PySem.Spec PyProof.Rows L2
open SX (S S_len S_cat S_inj)
/-- all of a list of ints that are small -/
theorem small_mem {lo hi : Nat} {xs : List V} {r : Nat} {x : V} (h : xs[r]? = some x) (hx : ∀ y ∈ xs, ∃ z : Nat, y = .int (z : Int) ∧ lo ≤ z ∧ z ≤ hi) : ∃ z : Nat, x = .int (z : Int) ∧ lo ≤ z ∧ z ≤ hi := hx x (List.mem_of_getElem? h)
section
variable {P : Program} {w : World} {K : PySem.W.Frag} {mg : Str → Option Value} {base : Heap} {tm tn tb : Tok}
def spMkBody : Sp := fun vs H Q _ => ∃ (p c : Addr), vs = [.ref p] ∧ Dk p c H ∧ ∀ (l : List Nat) H', bodyB (.s l) = true → Gx p c H H' → Q (.str (S l)) H'
theorem ok_mkbody {f f1 f2 f3 : Addr} {fd fd1 fd2 fd3 : FuncData} (F : Fn K mg "_law_body" s__law_body ["_law_deck_here"] f fd)
    (F__law_text : Fn K mg "_law_text" s__law_text ["_law_deck_here", "_law_size"] f1 fd1) (G__law_text : FnOk P w K mg base CX0 3 f1 fd1 ["_law_deck_here", "_law_size"] spText)
    (F__law_pick : Fn K mg "_law_pick" s__law_pick ["_law_deck_here", "_law_some"] f2 fd2) (G__law_pick : FnOk P w K mg base CX0 2 f2 fd2 ["_law_deck_here", "_law_some"] spPick)
    (F__law_draw : Fn K mg "_law_draw" s__law_draw ["_law_deck_here", "_law_below"] f3 fd3) (G__law_draw : FnOk P w K mg base CX0 1 f3 fd3 ["_law_deck_here", "_law_below"] spDraw) : FnOk P w K mg base CX0 4 f fd ["_law_deck_here"] spMkBody := by
  refine F.F.ok sc__law_body (fun vs H Q E h => ?_) (fun cdv A outer s H vs Q E hr h => ?_)
  · obtain ⟨p, c, rfl, _⟩ := h
    rfl
  · obtain ⟨p, c, rfl, dk, q⟩ := h
    refine ⟨_, (pss_one (ps_ret (pe_call G__law_text (hr.mono (by decide)) (by rfl) F__law_text.g F__law_text.F.kp F__law_text.b .nil pass0 (pa_cons (pv 0) (pa_cons (pe_call G__law_pick (hr.mono (by decide)) (by rfl) F__law_pick.g F__law_pick.F.kp F__law_pick.b .nil pass0 (pa_cons (pv 0) (pa_cons (pe_lst (pa_cons pe_int (pa_cons pe_int (pa_cons pe_int (pa_cons pe_int (pa_cons pe_int (pa_cons pe_int (pa_cons pe_int (pa_cons pe_int (pa_cons pe_int (pa_cons pe_int (pa_cons pe_int (pa_cons pe_int (pa_cons pe_int (pa_cons pe_int (pa_cons (pe_call G__law_draw (hr.mono (by decide)) (by rfl) F__law_draw.g F__law_draw.F.kp F__law_draw.b .nil pass0 (pa_cons (pv 0) (pa_cons pe_int pa_nil))) (pa_cons pe_int pa_nil))))))))))))))))) pa_nil))) pa_nil))))), ?_⟩
    refine ⟨_, rfl, _, rfl, _, rfl, p, c, _, rfl, dk, by decide, by decide, fun r H1 hr1 g1 => ?_⟩
    refine ⟨sz (by show 16 ≤ 16000000; decide), fun a ha => ?_⟩
    refine ⟨p, c, .ref a, rfl, g1.2.same (same_new ha), .inl ⟨a, _, rfl, At.new g1.2 ha, (by show 1 ≤ 16; decide), (by show 16 ≤ 100000; decide), fun k x H2 hx g2 => ?_⟩⟩
    obtain ⟨z, rfl, _, hz⟩ := small_mem (lo := 0) (hi := 150) hx (fun y hy => by
      simp only [List.mem_cons, List.not_mem_nil, or_false] at hy
      rcases hy with h | h | h | h | h | h | h | h | h | h | h | h | h | h | h | h
      · exact ⟨1, h, by decide, by decide⟩
      · exact ⟨0, h, by decide, by decide⟩
      · exact ⟨2, h, by decide, by decide⟩
      · exact ⟨3, h, by decide, by decide⟩
      · exact ⟨6, h, by decide, by decide⟩
      · exact ⟨5, h, by decide, by decide⟩
      · exact ⟨4, h, by decide, by decide⟩
      · exact ⟨2, h, by decide, by decide⟩
      · exact ⟨1, h, by decide, by decide⟩
      · exact ⟨150, h, by decide, by decide⟩
      · exact ⟨149, h, by decide, by decide⟩
      · exact ⟨10, h, by decide, by decide⟩
      · exact ⟨0, h, by decide, by decide⟩
      · exact ⟨1, h, by decide, by decide⟩
      · exact ⟨r, h, Nat.zero_le _, by omega⟩
      · exact ⟨2, h, by decide, by decide⟩)
    have g3 := (g1.trans (Gx.new g1.2 ha)).trans g2
    refine ⟨p, c, z, rfl, g3.2, by omega, fun l H3 hp hl g4 => q l H3 ?_ (g3.trans g4)⟩
    simp only [bodyB, Bool.and_eq_true, decide_eq_true_eq]
    exact ⟨by omega, hp⟩
/-- any item of a tuple -/
def spPickT : Sp := fun vs H Q _ => ∃ (p c a : Addr) (xs : List V), vs = [.ref p, .ref a] ∧ Dk p c H ∧ At p c H a (.tup xs) ∧ 1 ≤ xs.length ∧ xs.length ≤ 100000 ∧ ∀ (r : Nat) x H', xs[r]? = some x → Gx p c H H' → Q x H'
theorem ok_pickT {f f1 : Addr} {fd fd1 : FuncData} (F : Fn K mg "_law_pick" s__law_pick ["_law_deck_here", "_law_some"] f fd) (B : Blt mg) (F__law_draw : Fn K mg "_law_draw" s__law_draw ["_law_deck_here", "_law_below"] f1 fd1) :
    FnOk P w K mg base CX0 2 f fd ["_law_deck_here", "_law_some"] spPickT := by
  have G__law_draw : FnOk P w K mg base CX0 1 f1 fd1 ["_law_deck_here", "_law_below"] spDraw := ok_draw F__law_draw B
  refine F.F.ok sc__law_pick (fun vs H Q E h => ?_) (fun cdv A outer s H vs Q E hr h => ?_)
  · obtain ⟨p, c, a, xs, rfl, _⟩ := h
    rfl
  · obtain ⟨p, c, a, xs, rfl, dk, ha, hl1, hl2, q⟩ := h
    refine ⟨_, (pss_one (ps_ret (pe_ix ix_seq (pv 1) (pe_call G__law_draw (hr.mono (by decide)) (by rfl) F__law_draw.g F__law_draw.F.kp F__law_draw.b .nil pass0 (pa_cons (pv 0) (pa_cons (pe_callB call_len (by rfl) B.n_len PySem.boot_len (pa_cons (pv 1) pa_nil)) pa_nil))) (fun _ _ => rfl)))), ?_⟩
    refine ⟨_, rfl, _, rfl, _, rfl, .ref a, xs.length, rfl, .inr ⟨xs, SqT.of ha.2.2, rfl⟩, p, c, _, rfl, dk, by omega, by omega, fun r H' hr' g => ?_⟩
    have hlt : r < xs.length := by omega
    exact .inr (.inl ⟨a, xs, _, _, rfl, rfl, SqT.of (ha.gx g).2.2, atI_nat (List.getElem?_eq_getElem hlt), q r _ H' (List.getElem?_eq_getElem hlt) g⟩)
end
end Ag

end
/-! ## ZJ -/
section
set_option linter.all false
set_option maxRecDepth 100000
set_option maxHeartbeats 4000000
namespace Ag
open PySem PySem.Spec PyProof.Rows L2
open SX (S S_len S_cat S_inj)
/-- a comprehension without tests, each item as v says of the heap and its place -/
theorem lc_allH {J : It} {n : Nat} {G : Hp → Prop} {Y : Nat → Hp → V → Hp → Prop} (w : Walk J n G Y) {g : TG} {te : TE} {vs : List Nat} {σ : L2.St} {H1 : Hp} {D : Addr} {Qd : Hp → Prop} (R : Hp → Prop) (v : Hp → Nat → V → Prop) (hn : n ≤ 16000000) (r0 : R H1) (rD : ∀ H o, R H → R (upd H D o))
    (vD : ∀ H o j y, v H j y → v (upd H D o) j y) (hG : ∀ H, R H → G H)
    (hs : ∀ i x H H' xs (k : VK), i < n → R H → H D = some (.lst xs) → Y i H x H' → (∀ y H4, (∀ j z, v H j z → v H4 j z) → v H4 i y → R H4 → H4 D = some (.lst xs) → k y H4) → g x (wipe σ vs) H' fun σ2 H2 => wipe σ2 vs = wipe σ vs ∧ te σ2 H2 k)
    (hd : ∀ H xs, xs.length = n → (∀ i y, xs[i]? = some y → v H i y) → R H → H D = some (.lst xs) → Qd H) :
    ∃ W : Nat → Nat → Hp → Prop, (∃ m, W 0 m (upd H1 D (.lst []))) ∧ ∀ i m H, W i m H →
      (J.stop i H ∧ Qd H) ∨ (J.go i H ∧ ∃ Nx : Hp → Prop, (∀ H', Nx H' → ∃ m', m' < m ∧ W (i + 1) m' H') ∧ ∀ x H', J.yld i H x H' → g x (wipe σ vs) H' fun σ2 H2 => wipe σ2 vs = wipe σ vs ∧ tYes σ2 H2 fun b H3 =>
        if b = true then te σ2 H3 fun y H4 => ∃ acc, H4 D = some (.lst acc) ∧ acc.length < sizeLine ∧ Nx (upd H4 D (.lst (acc ++ [y]))) else Nx H3) := by
  refine lc_it (g := g) (tt := tYes) (te := te) (vs := vs) (σ := σ) w (fun i H => ∃ xs : List V, xs.length = i ∧ (∀ j y, xs[j]? = some y → v H j y) ∧ R H ∧ H D = some (.lst xs)) ⟨[], rfl, fun j y h => by simp at h, rD _ _ r0, upd_same⟩ (fun i H hi p => ?_) (fun i x H H' hi p hy => ?_) (fun H p => ?_)
  · obtain ⟨xs, _, _, r, _⟩ := p
    exact hG H r
  · obtain ⟨xs, hl, hv, r, hD⟩ := p
    refine hs i x H H' xs _ hi r hD hy ?_
    rintro y H4 keep hvy r4 h4
    refine ⟨xs, h4, ?_, xs ++ [y], by simp [hl], fun j z hz => vD _ _ _ _ ?_, rD _ _ r4, upd_same⟩
    · rw [sizeLine_eq]; omega
    · rw [List.getElem?_append] at hz
      split at hz
      · exact keep j z (hv j z hz)
      · rename_i hj
        have e : j - xs.length = 0 := by
          cases hq : j - xs.length with
          | zero => rfl
          | succ k => rw [hq] at hz; simp at hz
        rw [e] at hz
        simp at hz
        subst hz
        have : j = i := by omega
        subst this
        exact hvy
  · obtain ⟨xs, hl, hv, r, hD⟩ := p
    exact hd H xs hl hv r hD
/-- how long texts may be where rows may be so long -/
def sl (m : Nat) : Nat := 256 * 2 ^ (m / 13)
theorem sl_ge (m : Nat) : 256 ≤ sl m := by
  unfold sl
  have := Nat.one_le_two_pow (n := m / 13)
  omega
theorem sl_mono {m n : Nat} (h : m ≤ n) : sl m ≤ sl n := Nat.mul_le_mul_left _ (Nat.pow_le_pow_right (by decide) (Nat.div_le_div_right h))
theorem sl_two {m : Nat} (h : m % 13 = 12) : sl (m + 1) = 2 * sl m := by
  unfold sl
  have : (m + 1) / 13 = m / 13 + 1 := by omega
  rw [this, Nat.pow_succ]
  omega
theorem sl_le {m : Nat} (h : m ≤ 52) : sl m ≤ 4096 := sl_mono h
/-- data whose texts, by way of tuples, are plain and of at most m signs, whose ints are not too great -/
def bB (m : Nat) : PyData → Bool
  | .str x => x.cps.toList.all (· < 128) && decide (x.cps.toList.length ≤ sl m)
  | .int i => decide (i.natAbs ≤ 10 ^ 50 + m)
  | .tuple xs => decide (xs.length ≤ m) && bBA xs
  | _ => true
where bBA : List PyData → Bool
  | [] => true
  | x :: xs => bB m x && bBA xs
abbrev hB : PyData → Bool := bB 12
/-- what is new in a heap -/
def nw (H H' : Hp) : Hp := fun b => match H b with
  | none => H' b
  | some _ => none
theorem nw_some {H H' : Hp} {b : Addr} {o : HO} (h : nw H H' b = some o) : H b = none ∧ H' b = some o := by
  unfold nw at h
  cases e : H b with
  | none => rw [e] at h; exact ⟨rfl, h⟩
  | some u => rw [e] at h; cases h
theorem nw_of {H H' : Hp} {b : Addr} {o : HO} (h : H b = none) (h' : H' b = some o) : nw H H' b = some o := by
  unfold nw
  rw [h]
  exact h'
/-- a heap without one of its objects -/
def hd1 (D : Addr) (H : Hp) : Hp := fun b => if b = D then none else H b
theorem hd1_some {D : Addr} {H : Hp} {b : Addr} {o : HO} (h : hd1 D H b = some o) : b ≠ D ∧ H b = some o := by
  unfold hd1 at h
  by_cases e : b = D
  · rw [if_pos e] at h; cases h
  · rw [if_neg e] at h; exact ⟨e, h⟩
theorem hd1_of {D : Addr} {H : Hp} {b : Addr} {o : HO} (e : b ≠ D) (h : H b = some o) : hd1 D H b = some o := by
  unfold hd1
  rw [if_neg e]
  exact h
/-- any value that is made anew -/
def Outs (p c : Addr) (H : Hp) (G : PyData → Prop) (Q : VK) : Prop := ∀ v d H', Gx p c H H' → Dg p c (nw H H') v d → G d → Q v H'
theorem Gx.nwm {p c : Addr} {H H1 H' : Hp} (g : Gx p c H H1) : Kp p c (nw H1 H') (nw H H') := fun b o n1 n2 e => by
  obtain ⟨e1, e2⟩ := nw_some e
  refine nw_of ?_ e2
  cases h : H b with
  | none => rfl
  | some u => rw [g.1 b u n1 n2 h] at e1; cases e1
theorem Gx.kp {p c : Addr} {H H' : Hp} (g : Gx p c H H') : Kp p c H H' := fun b o h1 h2 e => g.1 b o h1 h2 e
theorem testE {t : TE} {σ : L2.St} {H : Hp} {Q : VK} (I : V → Hp → Prop) (h : ∀ Q' : VK, (∀ v H', I v H' → Q' v H') → t σ H Q') (k : ∀ v H', I v H' → Q v H') : t σ H Q := h Q k
section
variable {P : Program} {w : World} {K : PySem.W.Frag} {mg : Str → Option Value} {base : Heap} {tm tn tb : Tok}
/-- picking from a list of data -/
theorem pick_D {p c l : Addr} {H : Hp} {ds : List PyData} {Q : VK} (dk : Dk p c H) (h : Dg p c H (.ref l) (.list ds)) (h1 : 1 ≤ ds.length) (h2 : ds.length ≤ 100000) (k : ∀ x d H', d ∈ ds → Gx p c H H' → Dg p c H' x d → Q x H') : spPick [.ref p, .ref l] H Q E0 := by
  cases h with
  | @lst _ xs _ ha hA =>
    refine ⟨p, c, .ref l, rfl, dk, .inl ⟨l, xs, rfl, ha, by rw [hA.len]; exact h1, by rw [hA.len]; exact h2, fun r x H' hx g => ?_⟩⟩
    obtain ⟨d, hd, hg⟩ := hA.at_ hx
    exact k x d H' (List.mem_of_getElem? hd) g (hg.to g.kp)
def cV : V → Option PyData
  | .int i => if hB (.int i) = true then some (.int i) else none
  | .str z => if hB (.str z) = true then some (.str z) else none
  | .bl b => some (.bool b)
  | .non => some .none
  | _ => none
theorem cV_of {p c : Addr} {x : V} (h : (cV x).isSome = true) : ∃ d, (∀ H, Dg p c H x d) ∧ hB d = true := by
  cases x with
  | int i =>
    have h : (if hB (.int i) = true then some (PyData.int i) else none).isSome = true := h
    by_cases e : hB (.int i) = true
    · exact ⟨.int i, fun _ => .int i, e⟩
    · rw [if_neg e] at h
      cases h
  | str z =>
    have h : (if hB (.str z) = true then some (PyData.str z) else none).isSome = true := h
    by_cases e : hB (.str z) = true
    · exact ⟨.str z, fun _ => .str z, e⟩
    · rw [if_neg e] at h
      cases h
  | bl b => exact ⟨.bool b, fun _ => .bl b, rfl⟩
  | non => exact ⟨.none, fun _ => .non, rfl⟩
  | _ => cases h
theorem dga_of {p c : Addr} {X : Hp} : ∀ {xs : List V}, (∀ (i : Nat) (y : V), xs[i]? = some y → ∃ d, Dg p c X y d ∧ hB d = true) → ∃ ds, DgA p c X xs ds ∧ ∀ d ∈ ds, hB d = true
  | [], _ => ⟨[], .nil, fun d h => by cases h⟩
  | x :: xs, h => by
    obtain ⟨d, hd, hb⟩ := h 0 x rfl
    obtain ⟨ds, hA, hbs⟩ := dga_of (xs := xs) fun i y hy => h (i + 1) y (by simpa using hy)
    refine ⟨d :: ds, .cons hd hA, fun e he => ?_⟩
    rcases List.mem_cons.mp he with rfl | he
    · exact hb
    · exact hbs e he
/-- picking from a list of constants -/
theorem pick_C {p c l : Addr} {H : Hp} {xs : List V} {Q : VK} (dk : Dk p c H) (hl : H l = none) (h1 : 1 ≤ xs.length) (h2 : xs.length ≤ 100000) (hc : xs.all (fun x => (cV x).isSome) = true) (q : Outs p c H (fun d => hB d = true) Q) : spPick [.ref p, .ref l] (upd H l (.lst xs)) Q E0 := by
  refine ⟨p, c, .ref l, rfl, dk.same (same_new hl), .inl ⟨l, xs, rfl, At.new dk hl, h1, h2, fun r x H' hx g => ?_⟩⟩
  obtain ⟨d, hd, hb⟩ := cV_of (p := p) (c := c) (List.all_eq_true.mp hc x (List.mem_of_getElem? hx))
  exact q x d H' ((Gx.new dk hl).trans g) (hd _) hb
def spAny : Nat → Sp
  | 0 => fun _ _ _ _ => False
  | n + 1 => fun vs H Q _ => ∃ (p c : Addr) (k : Nat), vs = [.ref p, .int (k : Int)] ∧ Dk p c H ∧ k ≤ n ∧ Outs p c H (fun d => hB d = true) Q
theorem ok_any {f f1 f2 : Addr} {fd fd1 fd2 : FuncData} (F : Fn K mg "_law_any" s__law_any ["_law_deck_here", "_law_deep"] f fd) (B : Con mg tm tn tb) (F__law_draw : Fn K mg "_law_draw" s__law_draw ["_law_deck_here", "_law_below"] f1 fd1) (F__law_pick : Fn K mg "_law_pick" s__law_pick ["_law_deck_here", "_law_some"] f2 fd2)
    (n : Nat) : FnOk P w K mg base CX0 (3 + n) f fd ["_law_deck_here", "_law_deep"] (spAny n) := by
  induction n with
  | zero => exact ⟨fun _ _ _ _ h => h.elim, fun _ _ _ _ _ _ _ _ _ _ _ _ _ h => h.elim⟩
  | succ n G__law_any =>
    have G__law_draw : FnOk P w K mg base CX0 1 f1 fd1 ["_law_deck_here", "_law_below"] spDraw := ok_draw F__law_draw B.toBlt
    have G__law_pick : FnOk P w K mg base CX0 2 f2 fd2 ["_law_deck_here", "_law_some"] spPick := ok_pick F__law_pick B.toBlt F__law_draw
    have F__law_any := F
    refine F.F.ok sc__law_any (fun vs H Q E h => ?_) (fun cdv A outer s H vs Q E hr h => ?_)
    · obtain ⟨p, c, k, rfl, _⟩ := h
      rfl
    · obtain ⟨p, c, m, rfl, dk, hm, q⟩ := h
      refine ⟨_, (pss_cons (ps_set (i := 2) sc__law_any.nd rfl (.inl rfl) (pe_call G__law_draw (hr.mono (by show _ ≤ 3 + n; omega)) (by rfl) F__law_draw.g F__law_draw.F.kp F__law_draw.b .nil pass0 (pa_cons (pv 0) (pa_cons pe_int pa_nil))))
      (pss_cons (ps_if (pt_cmpR op_lt (pv 2) pe_int (nomark _))
      (pss_one (ps_ret (pe_call G__law_pick (hr.mono (by show _ ≤ 3 + n; omega)) (by rfl) F__law_pick.g F__law_pick.F.kp F__law_pick.b .nil pass0 (pa_cons (pv 0) (pa_cons (pe_lst (pa_cons pe_int (pa_cons pe_int (pa_cons pe_int (pa_cons (pe_un un_neg pe_int) (pa_cons pe_int (pa_cons pe_int (pa_cons pe_int (pa_cons pe_int (pa_cons pe_int (pa_cons pe_int (pa_cons (pe_op op_pow pe_int pe_int) (pa_cons (pe_op op_pow pe_int pe_int) (pa_cons (pe_op op_add (pe_op op_pow pe_int pe_int) pe_int) (pa_cons (pe_op op_pow pe_int pe_int) (pa_cons (pe_un un_neg (pe_op op_pow pe_int pe_int)) pa_nil)))))))))))))))) pa_nil)))))
      pss_nil)
      (pss_cons (ps_if (pt_cmpR op_eq (pv 2) pe_int (nomark _))
      (pss_cons (ps_set (i := 3) sc__law_any.nd rfl (.inl rfl) (pe_lst (pa_cons pe_str (pa_cons pe_str (pa_cons pe_str (pa_cons pe_str (pa_cons pe_str (pa_cons pe_str (pa_cons pe_str (pa_cons pe_str (pa_cons pe_str (pa_cons pe_str (pa_cons pe_str (pa_cons pe_str (pa_cons pe_str pa_nil)))))))))))))))
        (pss_one (ps_ret (pe_call G__law_pick (hr.mono (by show _ ≤ 3 + n; omega)) (by rfl) F__law_pick.g F__law_pick.F.kp F__law_pick.b .nil pass0 (pa_cons (pv 0) (pa_cons (pv 3) pa_nil))))))
      pss_nil)
      (pss_cons (ps_if (pt_cmpR op_eq (pv 2) pe_int (nomark _))
      (pss_one (ps_ret (pe_call G__law_pick (hr.mono (by show _ ≤ 3 + n; omega)) (by rfl) F__law_pick.g F__law_pick.F.kp F__law_pick.b .nil pass0 (pa_cons (pv 0) (pa_cons (pe_lst (pa_cons pe_bl (pa_cons pe_bl (pa_cons pe_non pa_nil)))) pa_nil)))))
      pss_nil)
      (pss_cons (ps_set (i := 3) sc__law_any.nd rfl (.inl rfl) (pe_ifExp (pt_cmpR op_gt (pv 1) pe_int (nomark _)) (pe_lc (own := [("_law_turn", 4)]) rfl sc__law_any.nd (pi_range1 (by rfl) B.n_range (pa_cons (pe_call G__law_draw (hr.mono (by show _ ≤ 3 + n; omega)) (by rfl) F__law_draw.g F__law_draw.F.kp F__law_draw.b .nil pass0 (pa_cons (pv 0) (pa_cons pe_int pa_nil))) pa_nil)) (blkOk_by (N := N__law_any) (sc := defScope s__law_any) (by decide +kernel)) (fun _ _ _ _ _ => (pg_name (i := 4) sc__law_any.nd rfl (Or.inl rfl))) (fun _ _ _ _ _ => pts_nil) (fun _ _ _ _ _ => (pe_call G__law_any (hr.mono (by show _ ≤ 3 + n; omega)) (by rfl) F__law_any.g F__law_any.F.kp F__law_any.b .nil pass0 (pa_cons (pv 0) (pa_cons (pe_op op_sub (pv 1) pe_int) pa_nil))))) (pe_lst pa_nil)))
      (pss_cons (ps_if (pt_cmpR op_eq (pv 2) pe_int (nomark _))
      (pss_one (ps_ret (pv 3)))
      pss_nil)
      (pss_one (ps_ret (pe_ifExp (pt_cmpR op_eq (pv 2) pe_int (nomark _)) (pe_disp (pps_cons pe_str (pv 3) (pps_cons pe_int (pe_callB call_len_seq (by rfl) B.n_len PySem.boot_len (pa_cons (pv 3) pa_nil)) pps_nil)) (by rfl) (by rfl) (fun z => by cases z) (by decide)) (pe_callTy call_tuple_of (by rfl) B.n_tuple (by decide +kernel) (pa_cons (pv 3) pa_nil))))))))))), ?_⟩
      have c6 : CPow 10 6 := ⟨by decide, by decide, by decide⟩
      have c9 : CPow 10 9 := ⟨by decide, by decide, by decide⟩
      have c39 : CPow 10 39 := ⟨by decide, by decide, by decide⟩
      refine ⟨_, rfl, p, c, 8, rfl, dk, by decide, by decide, fun way H1 hway g1 => ?_⟩
      refine ⟨_, rfl, _, _, rfl, rfl, _, rfl, ite2 (fun _ => ?_) (fun _ => ?_)⟩
      · refine ⟨_, rfl, ?_⟩
        refine ⟨_, rfl, _, _, rfl, rfl, c6, _, _, rfl, rfl, c9, _, _, rfl, rfl, c9, _, _, rfl, rfl, _, _, rfl, rfl, c39, _, _, rfl, rfl, c39, _, rfl, sz (by show 15 ≤ 16000000; decide), fun l hl => ?_⟩
        exact pick_C g1.2 hl (by show 1 ≤ 15; decide) (by show 15 ≤ 100000; decide) (by decide +kernel) fun v d H' g hd hb => q v d H' (g1.trans g) (hd.to g1.nwm) hb
      refine ⟨_, rfl, rfl, _, rfl, ite2 (fun _ => ?_) (fun _ => ?_)⟩
      · refine ⟨sz (by show 13 ≤ 16000000; decide), fun l hl => ⟨_, rfl, _, rfl, ?_⟩⟩
        exact pick_C g1.2 hl (by show 1 ≤ 13; decide) (by show 13 ≤ 100000; decide) (by decide +kernel) fun v d H' g hd hb => q v d H' (g1.trans g) (hd.to g1.nwm) hb
      refine ⟨_, rfl, rfl, _, rfl, ite2 (fun _ => ?_) (fun _ => ?_)⟩
      · refine ⟨_, rfl, sz (by show 3 ≤ 16000000; decide), fun l hl => ?_⟩
        exact pick_C g1.2 hl (by show 1 ≤ 3; decide) (by show 3 ≤ 100000; decide) (by decide +kernel) fun v d H' g hd hb => q v d H' (g1.trans g) (hd.to g1.nwm) hb
      -- a row of such values
      try unfold tNext
      try dsimp only
      try unfold tSeq
      try dsimp only
      unfold tAsg
      refine testE (fun x H' => ∃ (D : Addr) (xs : List V) (ds : List PyData), x = .ref D ∧ Gx p c H1 H' ∧ At p c (nw H1 H') D (.lst xs) ∧ DgA p c (nw H1 H') xs ds ∧ ds.length ≤ 3 ∧ ∀ d ∈ ds, hB d = true) (fun Q' hQ' => ?_) ?_
      · refine ⟨_, rfl, _, _, rfl, rfl, _, rfl, ite2 (fun h0 => ?_) (fun _ => ?_)⟩
        · have hm1 : 1 ≤ m := by
            have := of_decide_eq_true h0
            omega
          refine ⟨_, rfl, p, c, 4, rfl, g1.2, by decide, by decide, fun r H3 hr3 g3 => ⟨_, rfl, by omega, by omega, fun D hD => ?_⟩⟩
          have nD := g3.2.ne hD
          have hD1 := g3.free g1.2 hD
          refine lc_allH (walk_range (lo := 0) (n := ((r : Int) - 0).toNat)) (fun H' => Gx p c H1 H') (fun H' _ y => ∃ d, Dg p c (hd1 D (nw H1 H')) y d ∧ hB d = true) (by omega) g3 (fun H' o g => g.put g1.2 hD1 nD) ?_ (fun _ _ => trivial) ?_ ?_
          · rintro H' o j y ⟨d, hd, hb⟩
            refine ⟨d, hd.to fun b u n1 n2 e => ?_, hb⟩
            obtain ⟨e1, e2⟩ := hd1_some e
            obtain ⟨e3, e4⟩ := nw_some e2
            exact hd1_of e1 (nw_of e3 (by rw [upd_ne e1]; exact e4))
          · rintro i x Hx Hy xs k hi g hxs ⟨rfl, rfl⟩ hk
            refine ⟨rfl, _, rfl, _, rfl, _, _, rfl, rfl, ?_⟩
            cases n with
            | zero => omega
            | succ n =>
            refine ⟨p, c, m - 1, by show [V.ref p, V.int ((m : Int) - 1)] = _; rw [show ((m : Int) - 1) = ((m - 1 : Nat) : Int) by omega], g.2, by omega, fun y d H4 g4 hd hb => ?_⟩
            have nD4 : D ≠ p ∧ D ≠ c := nD
            refine hk y H4 ?_ ⟨d, hd.to fun b u n1 n2 e => ?_, hb⟩ (g.trans g4) (g4.1 D _ nD4.1 nD4.2 hxs)
            · rintro j z ⟨d, hd, hb⟩
              refine ⟨d, hd.to fun b u n1 n2 e => ?_, hb⟩
              obtain ⟨e1, e2⟩ := hd1_some e
              obtain ⟨e3, e4⟩ := nw_some e2
              exact hd1_of e1 (nw_of e3 (g4.1 b u n1 n2 e4))
            · obtain ⟨e1, e2⟩ := nw_some e
              refine hd1_of (fun z => by rw [z, hxs] at e1; cases e1) (nw_of ?_ e2)
              cases h : H1 b with
              | none => rfl
              | some w => rw [g.1 b w n1 n2 h] at e1; cases e1
          · intro H' xs hl hv g hD'
            obtain ⟨ds, hA, hb⟩ := dga_of hv
            refine hQ' _ _ ⟨D, xs, ds, rfl, g, ⟨nD.1, nD.2, nw_of hD1 hD'⟩, hA.to fun b u n1 n2 e => (hd1_some e).2, by rw [← hA.len, hl]; omega, hb⟩
        · exact ⟨Nat.zero_le _, fun l hl => hQ' _ _ ⟨l, [], [], rfl, Gx.new g1.2 hl, ⟨(g1.2.ne hl).1, (g1.2.ne hl).2, nw_of hl upd_same⟩, .nil, by decide, fun d hd => by cases hd⟩⟩
      rintro _ H2 ⟨D, xs, ds, rfl, g2, hD, hA, hl, hb⟩
      have g12 := g1.trans g2
      have hbs : bB.bBA 12 ds = true := by
        clear hA hl
        induction ds with
        | nil => rfl
        | cons d ds ih =>
          show (hB d && bB.bBA 12 ds) = true
          rw [hb d (List.mem_cons_self ..), ih fun e he => hb e (List.mem_cons_of_mem _ he)]
          rfl
      refine ⟨_, rfl, rfl, _, rfl, ite2 (fun _ => ?_) (fun _ => ?_)⟩
      · exact ⟨_, rfl, q _ (.list ds) _ g12 ((Dg.lst hD hA).to g1.nwm) rfl⟩
      refine ⟨_, rfl, rfl, _, rfl, ite2 (fun _ => ?_) (fun _ => ?_)⟩
      · refine fun t ht => ?_
        have eD := (nw_some hD.2.2).2
        have st0 := same_new (o := .dK []) ht
        refine ⟨_, rfl, _, rfl, D, xs, rfl, .inl (SqL.of (st0 _ _ eD)), upd_same, [(Sum.inr (Str.ofString "key"), .ref D), (Sum.inl 1, .int (xs.length : Nat))], rfl, by show 2 ≤ 15; decide, ?_⟩
        rw [show mergeK [] [(Sum.inr (Str.ofString "key"), V.ref D), (Sum.inl 1, .int (xs.length : Nat))] = [(Sum.inr (Str.ofString "key"), V.ref D), (Sum.inl 1, .int (xs.length : Nat))] from by simp [mergeK, putK], upd_upd]
        have st := same_new (o := .dK [(Sum.inr (Str.ofString "key"), V.ref D), (Sum.inl 1, .int (xs.length : Nat))]) ht
        have kk : Kp p c (nw H1 H2) (nw H (upd H2 t (.dK [(Sum.inr (Str.ofString "key"), V.ref D), (Sum.inl 1, .int (xs.length : Nat))]))) := fun b o n1 n2 e => by
          obtain ⟨e1, e2⟩ := nw_some (g1.nwm b o n1 n2 e)
          exact nw_of e1 (st b o e2)
        refine q _ (.dict [(kD (Sum.inr (Str.ofString "key")), .list ds), (kD (Sum.inl 1), .int (xs.length : Nat))]) _ (g12.trans (Gx.same g12.2 st)) (.dic ⟨(g12.2.ne ht).1, (g12.2.ne ht).2, nw_of (g12.free dk ht) upd_same⟩ (.cons ((Dg.lst hD hA).to kk) (.cons (.int _) .nil))) rfl
      · refine ⟨_, rfl, D, xs, rfl, .inl ⟨SqL.of (nw_some hD.2.2).2, fun t ht => ?_⟩⟩
        have st := same_new (o := .tup xs) ht
        have kk : Kp p c (nw H1 H2) (nw H (upd H2 t (.tup xs))) := fun b o n1 n2 e => by
          obtain ⟨e1, e2⟩ := nw_some (g1.nwm b o n1 n2 e)
          exact nw_of e1 (st b o e2)
        refine q _ (.tuple ds) _ (g12.trans (Gx.same g12.2 st)) (.tup ⟨(g12.2.ne ht).1, (g12.2.ne ht).2, nw_of (g12.free dk ht) upd_same⟩ (hA.to kk)) ?_
        show (decide (ds.length ≤ 12) && bB.bBA 12 ds) = true
        rw [hbs, decide_eq_true (by omega)]
        rfl
end
end Ag

end
/-! ## RevT -/
section
set_option linter.all false
set_option maxRecDepth 100000
namespace Ag
open PySem PySem.Spec PyProof.Rows L2
/-! ### t[::-1] of a tuple -/
section
variable {P : Program} {w : World} {A : Around} {E : Value → Shared → Prop} {s : Shared}
theorem adj_rev (n : Nat) : Builtin.Slice.sliceAdjust none none (-1) (n : Int) = ((n : Int) - 1, -1) := by
  unfold Builtin.Slice.sliceAdjust
  simp
theorem plc_rev (n : Nat) : Builtin.Slice.slicePlaces ((n : Int) - 1) (-1) (-1) = n := by
  unfold Builtin.Slice.slicePlaces
  simp
  split <;> omega
theorem app_rev {z : Addr} {t : Tok} {n : Nat} {Q : Int × Int × Nat → Shared → Prop} (hs : s.heap.IsSliceOf z .none .none (.int (-1) t)) (h : Q ((n : Int) - 1, -1, n) s) : wpAny (model P w) A (Builtin.Slice.sliceApplied (.ref z) (pure (n : Int))) Q E s := by
  obtain ⟨os, h1, h2, h3⟩ := id hs
  unfold Builtin.Slice.sliceApplied Builtin.Slice.sliceFields
  refine wpAny_bind (wpAny_bind (wpAny_field h1 h3 (x := .none) rfl (wpAny_bind (wpAny_field h1 h3 (x := .none) rfl (wpAny_bind (wpAny_field h1 h3 (x := .int (-1) t) rfl (wpAny_pure ?_)))))))
  refine wpAny_bind (HT.slicePart_ (.int (-1) t) ?_)
  refine show wpAny _ _ (if ((-1 : Int) == 0) = true then _ else _) _ _ s from ?_
  rw [if_neg (by decide)]
  refine wpAny_bind (HT.slicePart_ .none (wpAny_bind (HT.slicePart_ .none (wpAny_bind (wpAny_pure ?_)))))
  refine show wpAny _ _ (match Builtin.Slice.sliceAdjust none none (-1) (n : Int) with | (lo, hi) => pure (lo, (-1 : Int), Builtin.Slice.slicePlaces lo hi (-1))) _ _ s from ?_
  rw [adj_rev n]
  refine show wpAny _ _ (pure ((n : Int) - 1, (-1 : Int), Builtin.Slice.slicePlaces ((n : Int) - 1) (-1) (-1))) _ _ s from ?_
  rw [plc_rev]
  exact wpAny_pure h
theorem pick_rev (xs : Array Value) : ((List.range xs.size).filterMap fun (m : Nat) => xs[((xs.size : Int) - 1 + (m : Int) * -1).toNat]?).toArray = xs.toList.reverse.toArray := by
  congr 1
  have e : ((List.range xs.size).filterMap fun (m : Nat) => xs[((xs.size : Int) - 1 + (m : Int) * -1).toNat]?) = (List.range xs.size).filterMap ((xs[·]?) ∘ fun k => xs.size - 1 - k) := by
    have key : ∀ l : List Nat, (∀ m ∈ l, m < xs.size) → (l.filterMap fun (m : Nat) => xs[((xs.size : Int) - 1 + (m : Int) * -1).toNat]?) = l.filterMap ((xs[·]?) ∘ fun k => xs.size - 1 - k) := by
      intro l
      induction l with
      | nil => exact fun _ => rfl
      | cons m l ih =>
        intro h
        have hm := h m List.mem_cons_self
        have e1 : ((xs.size : Int) - 1 + (m : Int) * -1).toNat = xs.size - 1 - m := by omega
        rw [List.filterMap_cons, List.filterMap_cons, ih fun k hk => h k (List.mem_cons_of_mem _ hk), e1]
        rfl
    exact key _ fun m hm => List.mem_range.mp hm
  rw [e, ← List.filterMap_map, PySem.W.krv_range, List.filterMap_reverse, PySem.W.krv_all]
theorem get_rev {t z : Addr} {its : Array Value} {k : Tok} {Q : Value → Shared → Prop} (ht : IsTup s.heap t its) (hs : s.heap.IsSliceOf z .none .none (.int (-1) k)) (hz : its.size ≤ sizeLine)
    (fin : Q (.ref s.heap.objs.size) { s with heap := s.heap.push { cls := .type "tuple", data := .seq its.toList.reverse.toArray } }) : wpAny (model P w) A (getItem (.ref t) (.ref z)) Q E s := by
  have hsz : sizeOk (.seq its.toList.reverse.toArray) := by
    show its.toList.reverse.toArray.size ≤ sizeLine
    rw [List.size_toArray, List.length_reverse, Array.length_toList]
    exact hz
  obtain ⟨os, h1, h2, h3⟩ := id hs
  have hT : s.TypeIs (.ref z) "slice" := ⟨os, h1, h2⟩
  unfold getItem
  try with_reducible refine wpAny_holding ?_
  first
    | refine wpAny_bind (wpAny_pure (wpAny_bind (wpAny_sequenceKey ht.typeIs (by decide) ?_)))
    | refine wpAny_bind (wpAny_sequenceKey (T := "tuple") ht.typeIs (by decide) ?_)
  refine wpAny_bind (wpAny_callSpecial?_slot (name := Str.ofString "__getitem__") ht.typeIs PyProof.Rows.slot_tuple_getitem (wpAny_call_entry PyProof.Rows.slot_tuple_getitem ht.typeIs entry_tuple_getitem ?_ (args_tuple_getitem _ _)))
  refine show wpAny _ _ (Builtin.Tuple.tupleItemsOf (.ref t) >>= _) _ _ s from wpAny_bind (tupleItemsOf_ ht (wpAny_bind (wpAny_typeOf hT ?_)))
  rw [if_pos (by decide)]
  refine wpAny_bind (app_rev hs ?_)
  have hno : ¬ ((((its.size : Int) - 1 == 0) && ((-1 : Int) == 1) && (its.size == its.size)) = true) := by simp
  refine show wpAny _ _ (if (((its.size : Int) - 1 == 0) && ((-1 : Int) == 1) && (its.size == its.size)) = true then _ else _) _ _ s from ?_
  rw [if_neg hno, pick_rev]
  first
    | exact wpAny_bind (m := Builtin.Tuple.tupleExact _) (wpAny_newObj_type (wpAny_pure ⟨_, rfl, wpAny_pure fin⟩) hsz)
    | exact wpAny_bind (m := Builtin.Tuple.tupleExact _) (wpAny_newObj_type (wpAny_bind (wpAny_pure (wpAny_pure ⟨_, rfl, wpAny_pure fin⟩))) hsz)
    | exact wpAny_bind (wpAny_bind (m := Builtin.Tuple.tupleExact _) (wpAny_newObj_type (wpAny_pure (wpAny_pure ⟨_, rfl, wpAny_pure fin⟩)) hsz))
    | exact wpAny_bind (wpAny_bind (m := Builtin.Tuple.tupleExact _) (wpAny_newObj_type (wpAny_pure ⟨_, rfl, wpAny_pure fin⟩) hsz))
end
section
variable {X : Cx}
def tRevT (K : PySem.W.Frag) (te : TE) : TE := fun σ H Q => te σ H fun x H1 => ∃ a xs, x = .ref a ∧ SqT K H1 a xs ∧ ∀ p, H1 p = none → Q (.ref p) (upd H1 p (.tup xs.reverse))
theorem pe_revT {e : Expr} {te : TE} {k : Nat} {p1 p2 p3 pos : Pos} (he : PE X e te) : PE X (.Subscript e (.Slice none none (some (.UnaryOp .USub (.Constant (.int 1) k p1) p2)) p3) pos) (tRevT X.K te) := by
  refine ⟨fun pins s σ H Q I h => Subscript_ (thn (he.run pins s σ H _ I h) ?_)⟩
  rintro v s1 ⟨x, H1, I1, r1, a, xs, rfl, hx, q⟩
  cases r1
  have neg : PO X (some (.UnaryOp .USub (.Constant (.int 1) k p1) p2)) (tPart (tUn (rU fun i => .int (-i)) (tC (.int 1)))) := po_some (pe_un un_neg pe_int)
  refine wpAny_Slice (thn (po_none.run pins s1 σ H1 (fun o H2 => o = none ∧ H2 = H1) I1 ⟨rfl, rfl⟩) ?_)
  rintro vl s2 ⟨l, H2, I2, pl, rfl, rfl⟩
  refine thn (po_none.run pins s2 σ H2 (fun o H3 => o = none ∧ H3 = H2) I2 ⟨rfl, rfl⟩) ?_
  rintro vu s3 ⟨u, H3, I3, pu, rfl, rfl⟩
  refine thn (neg.run pins s3 σ H3 (fun o H4 => o = some (-1) ∧ H4 = H3) I3 ⟨1, rfl, -1, rfl, rfl, rfl⟩) ?_
  rintro vs s4 ⟨o, H4, I4, ps, rfl, rfl⟩
  cases pl
  cases pu
  cases ps with
  | int i t =>
    have I5 : Inv X pins σ H4 { s4 with heap := s4.heap.push { cls := .type "slice", data := .fields #[.none, .none, .int (-1) t] } } := I4.kept (t' := s4.toks) fun b ob q => Heap.get?_push_of_some _ q
    obtain ⟨its, r, ht, hz⟩ := I5.tuple hx
    have hl := r.length
    refine show wpAny (model X.prog X.w) X.A (subscriptTail e (.Slice none none (some (.UnaryOp .USub (.Constant (.int 1) k p1) p2)) p3) (.ref a) (.ref s4.heap.objs.size)) (EP X pins σ Q) X.xe { s4 with heap := s4.heap.push { cls := .type "slice", data := .fields #[.none, .none, .int (-1) t] } } from ?_
    refine tail_any (ops := [.ref a, .ref s4.heap.objs.size]) ht.typeIs (PyProof.Rows.slot_tuple_getitem.lookup) (get_rev ht (Heap.IsSliceOf.new _ .none .none (.int (-1) t)) (by rw [List.size_toArray]; omega) ?_) (by with_unfolding_all rfl)
    refine ⟨.ref _, _, I5.laid (t' := s4.toks) (o := .tup xs.reverse) (fun b ob q => Heap.get?_push_of_some _ q) (Nat.le_refl _) ⟨by rw [List.length_reverse]; exact hz, its.reverse, r.reverse, ?_⟩, rfl, q _ (I5.hok.fresh (Nat.le_refl _))⟩
    exact ⟨_, Heap.get?_push_size _ rfl, rfl, 0, by simp⟩
end
end Ag

end
/-! ## ZK0 -/
section
set_option linter.all false
set_option maxRecDepth 100000
set_option maxHeartbeats 4000000
namespace Ag
open PySem PySem.Spec PyProof.Rows L2
open SX (S S_len S_cat S_inj)
open SeqAt
/-! ### bools among the numbers -/
def numV : V → Option Int
  | .int i => some i
  | .bl b => some (if b = true then 1 else 0)
  | _ => none
section
variable {X : Cx}
theorem op_addI : OpR X (binaryOp .Add) (fun x y H Q => ∃ i j, numV x = some i ∧ y = .int j ∧ Q (.int (i + j)) H) := by
  intro pins s σ H x y v u Q I rx ry h
  obtain ⟨i, j, e, rfl, q⟩ := h
  cases x with
  | int k => cases e; exact op_add pins s σ H _ _ v u Q I rx ry ⟨_, _, rfl, rfl, q⟩
  | bl b =>
    cases e
    cases rx
    obtain ⟨t, rfl⟩ := ry
    exact PySem.IntBool.add_bool_int ⟨.int _, H, I.tok _, ⟨_, rfl⟩, q⟩
  | _ => cases e
theorem op_subI : OpR X (binaryOp .Sub) (fun x y H Q => ∃ i j, numV x = some i ∧ y = .int j ∧ Q (.int (i - j)) H) := by
  intro pins s σ H x y v u Q I rx ry h
  obtain ⟨i, j, e, rfl, q⟩ := h
  cases x with
  | int k => cases e; exact op_sub pins s σ H _ _ v u Q I rx ry ⟨_, _, rfl, rfl, q⟩
  | bl b =>
    cases e
    cases rx
    obtain ⟨t, rfl⟩ := ry
    exact PySem.IntBool.sub_bool_int ⟨.int _, H, I.tok _, ⟨_, rfl⟩, q⟩
  | _ => cases e
/-- what str gives of a number -/
def strV : V → Str
  | .int i => toString i
  | .bl b => if b then "True" else "False"
  | _ => Str.empty
theorem call_strI : CallR X (.type "str") (fun xs H Q => ∃ x i, xs = [x] ∧ numV x = some i ∧ i.natAbs.log2 < 1920 ∧ Q (.str (strV x)) H) := by
  intro pins s σ H xs us Q I r h
  obtain ⟨x, i, rfl, e, hz, q⟩ := h
  obtain ⟨u, rfl, ru⟩ := vals1 r
  cases x with
  | int k =>
    cases e
    obtain ⟨t, rfl⟩ := ru
    exact PySem.P.str_of_int hz ⟨.str _, H, I.tok _, ⟨_, rfl⟩, q⟩
  | bl b =>
    cases ru
    exact PySem.P.str_of_bool ⟨.str _, H, I.tok _, ⟨_, rfl⟩, q⟩
  | _ => cases e
def rNeTT : R2 := fun x y H Q => ∃ a xs t, x = .ref a ∧ H a = some (.tup xs) ∧ y = .ref t ∧ H t = some (.tup []) ∧ Q (.bl (!decide (xs = []))) H
theorem op_neTT (hu : X.A.units + 64 < cLine) : OpR X (compareOp .NotEq) rNeTT := by
  intro pins s σ H x y v u Q I rx ry h
  obtain ⟨a, xs, t, rfl, ha, rfl, ht, q⟩ := h
  cases rx
  cases ry
  obtain ⟨its, rv, hT, _⟩ := I.tuple (SqT.of ht)
  cases rv
  obtain ⟨its2, rv2, hT2, _⟩ := I.tuple (SqT.of ha)
  refine RcNeAt.tuples (e := fun _ => false) hT2 hT (by omega) (fun j _ h2 => by simp at h2) _ _ _ _ ?_
  refine ⟨.bl _, H, I, rfl, ?_⟩
  cases rv2 with
  | nil => exact q
  | cons h1 h2 => exact q
end
/-! ### data that a list under construction is no part of -/
abbrev Dx (p c D : Addr) (H : Hp) (v : V) (d : PyData) : Prop := Dg p c (hd1 D H) v d
abbrev DxA (p c D : Addr) (H : Hp) (vs : List V) (ds : List PyData) : Prop := DgA p c (hd1 D H) vs ds
abbrev Ax (p c D : Addr) (H : Hp) (a : Addr) (o : HO) : Prop := At p c (hd1 D H) a o
section
variable {p c D a : Addr} {H H' : Hp}
theorem hd_kp (g : Kp p c H H') : Kp p c (hd1 D H) (hd1 D H') := fun b o n1 n2 e => hd1_of (hd1_some e).1 (g b o n1 n2 (hd1_some e).2)
theorem hd_up : Kp p c (hd1 D H) H := fun b o _ _ e => (hd1_some e).2
theorem hd_ap {o : HO} : Kp p c (hd1 D H) (hd1 D (upd H D o)) := fun b u _ _ e => hd1_of (hd1_some e).1 (by rw [upd_ne (hd1_some e).1]; exact (hd1_some e).2)
theorem Ax.at_ {o : HO} (h : Ax p c D H a o) : At p c H a o := ⟨h.1, h.2.1, (hd1_some h.2.2).2⟩
theorem Ax.new {o : HO} (dk : Dk p c H) (hD : H D ≠ none) (h : H a = none) : Ax p c D (upd H a o) a o := ⟨(dk.ne h).1, (dk.ne h).2, hd1_of (fun e => hD (e ▸ h)) upd_same⟩
theorem Has.gx (dk : Dk p c H) (g : Gx p c H H') (h : H D ≠ none) : H' D ≠ none := by
  obtain ⟨m, t, cs, e1, e2, _⟩ := g.2
  by_cases h1 : D = p
  · rw [h1, e1]; simp
  by_cases h2 : D = c
  · rw [h2, e2]; simp
  cases e : H D with
  | none => exact absurd e h
  | some o => rw [g.1 D o h1 h2 e]; simp
variable {K : PySem.W.Frag} {Q : VK} {b : Addr} {xs ys : List V} {lo hi : Option Int}
theorem sl_x (dk : Dk p c H) (hD : H D ≠ none) (ha : Ax p c D H a (.tup xs)) (k : ∀ a' H', Same H H' → Ax p c D H' a' (.tup (cutV xs lo hi)) → Q (.ref a') H') : rSlA K (.ref a) lo hi H Q := by
  refine ⟨a, xs, rfl, SqT.of ha.at_.2.2, fun h => ?_, fun _ q hq => ?_⟩
  · refine k a H (Same.refl _) ?_
    have e : cutV xs lo hi = xs := by
      unfold cutV
      rw [h.1, h.2]
      simp
    rw [e]
    exact ha
  · exact k q _ (same_new hq) (Ax.new dk hD hq)
theorem cat_x (dk : Dk p c H) (hD : H D ≠ none) (ha : Ax p c D H a (.tup xs)) (hb : Ax p c D H b (.tup ys)) (hz : xs.length + ys.length ≤ 1000000) (k : ∀ a' H', Same H H' → Ax p c D H' a' (.tup (xs ++ ys)) → Q (.ref a') H') : rCatA K (.ref a) (.ref b) H Q := by
  refine ⟨a, b, xs, ys, rfl, rfl, SqT.of ha.at_.2.2, SqT.of hb.at_.2.2, sz (by omega), fun h => ?_, fun _ h => ?_, fun _ _ q hq => ?_⟩
  · subst h
    exact k b H (Same.refl _) hb
  · subst h
    rw [List.append_nil] at k
    exact k a H (Same.refl _) ha
  · exact k q _ (same_new hq) (Ax.new dk hD hq)
end
theorem cutV_to (xs : List V) (b : Nat) : cutV xs none (some (b : Int)) = xs.take b := by
  unfold cutV
  rw [HT.sIx_none, HT.sIx_nat, List.drop_zero, Nat.sub_zero]
  by_cases hb : b ≤ xs.length
  · rw [Nat.min_eq_left hb]
  · rw [Nat.min_eq_right (by omega), List.take_of_length_le (Nat.le_refl _), List.take_of_length_le (by omega)]
theorem cutV_from (xs : List V) {a : Nat} (ha : a ≤ xs.length) : cutV xs (some (a : Int)) none = xs.drop a := by
  unfold cutV
  rw [sIx_at ha, HT.sIx_none, List.take_of_length_le (by rw [List.length_drop]; exact Nat.le_refl _)]
theorem cutV_mid (xs : List V) {a b : Nat} (ha : a ≤ xs.length) : cutV xs (some (a : Int)) (some (b : Int)) = (xs.drop a).take (b - a) := by
  unfold cutV
  rw [sIx_at ha, HT.sIx_nat]
  by_cases hb : b ≤ xs.length
  · rw [Nat.min_eq_left hb]
  · rw [Nat.min_eq_right (by omega), List.take_of_length_le (by rw [List.length_drop]; exact Nat.le_refl _), List.take_of_length_le (by rw [List.length_drop]; omega)]
/-! ### the bounds of texts, numbers and rows -/
theorem bBA_all {m : Nat} : ∀ ds : List PyData, bB.bBA m ds = ds.all (bB m)
  | [] => rfl
  | d :: ds => by
    show (bB m d && bB.bBA m ds) = _
    rw [bBA_all ds]
    rfl
theorem bB_tup {m : Nat} {ds : List PyData} : bB m (.tuple ds) = (decide (ds.length ≤ m) && ds.all (bB m)) := by
  show (decide (ds.length ≤ m) && bB.bBA m ds) = _
  rw [bBA_all]
mutual
theorem bB_mono {m n : Nat} (h : m ≤ n) : ∀ d : PyData, bB m d = true → bB n d = true
  | .str x, e => by
    have e : (x.cps.toList.all (· < 128) && decide (x.cps.toList.length ≤ sl m)) = true := e
    show (x.cps.toList.all (· < 128) && decide (x.cps.toList.length ≤ sl n)) = true
    rw [Bool.and_eq_true, decide_eq_true_eq] at e ⊢
    exact ⟨e.1, Nat.le_trans e.2 (sl_mono h)⟩
  | .tuple ds, e => by
    rw [bB_tup, Bool.and_eq_true, decide_eq_true_eq] at e ⊢
    exact ⟨by omega, bBA_mono h ds e.2⟩
  | .int i, e => by
    have e : decide (i.natAbs ≤ 10 ^ 50 + m) = true := e
    show decide (i.natAbs ≤ 10 ^ 50 + n) = true
    rw [decide_eq_true_eq] at e ⊢
    omega
  | .none, e => rfl
  | .bool _, e => rfl
  | .list _, e => rfl
  | .dict _, e => rfl
theorem bBA_mono {m n : Nat} (h : m ≤ n) : ∀ ds : List PyData, ds.all (bB m) = true → ds.all (bB n) = true
  | [], _ => rfl
  | d :: ds, e => by
    rw [List.all_cons, Bool.and_eq_true] at e ⊢
    exact ⟨bB_mono h d e.1, bBA_mono h ds e.2⟩
end
theorem bB_str {m : Nat} {l : List Nat} (h : l.all (· < 128) = true) (h2 : l.length ≤ sl m) : bB m (.str (S l)) = true := by
  show ((S l).cps.toList.all (· < 128) && decide ((S l).cps.toList.length ≤ sl m)) = true
  rw [Bool.and_eq_true, decide_eq_true_eq]
  exact ⟨h, h2⟩
theorem bB_strE {m : Nat} {x : Str} (h : bB m (.str x) = true) : ∃ l, x = S l ∧ l.all (· < 128) = true ∧ l.length ≤ sl m := by
  have h : (x.cps.toList.all (· < 128) && decide (x.cps.toList.length ≤ sl m)) = true := h
  rw [Bool.and_eq_true, decide_eq_true_eq] at h
  exact ⟨x.cps.toList, rfl, h.1, h.2⟩
theorem bB_int {m : Nat} {i : Int} (h : i.natAbs ≤ 10 ^ 50 + m) : bB m (.int i) = true := decide_eq_true h
theorem bB_sk (m : Nat) : ∀ d : PyData, bB m d = true → bB m (skD d) = true
  | .str x, e => by simpa only [skD] using e
  | .tuple ds, e => by
    rw [bB_tup, Bool.and_eq_true, decide_eq_true_eq] at e
    simp only [skD]
    rw [bB_tup, Bool.and_eq_true, decide_eq_true_eq, skA_len]
    exact ⟨e.1, bB_skA m ds e.2⟩
  | .int i, e => by simpa only [skD] using e
  | .none, e => by simp only [skD]; rfl
  | .bool _, e => by simp only [skD]; rfl
  | .list _, e => by simp only [skD]; rfl
  | .dict _, e => by simp only [skD]; rfl
where bB_skA (m : Nat) : ∀ ds : List PyData, ds.all (bB m) = true → (skA ds).all (bB m) = true
  | [], _ => by simp [skA]
  | d :: ds, e => by
    rw [List.all_cons, Bool.and_eq_true] at e
    simp only [skA, List.all_cons, Bool.and_eq_true]
    exact ⟨bB_sk m d e.1, bB_skA m ds e.2⟩
theorem bB_sOk {m : Nat} {d : PyData} (h : bB m d = true) (hm : m ≤ 52) : sOk d := by
  rintro x rfl
  have h : (x.cps.toList.all (· < 128) && decide (x.cps.toList.length ≤ sl m)) = true := h
  rw [Bool.and_eq_true, decide_eq_true_eq] at h
  have := sl_le hm
  exact ⟨h.1, by omega⟩
end Ag

end
/-! ## D3 -/
section
set_option linter.all false
set_option maxRecDepth 100000
namespace Ag
open PySem PySem.Spec PyProof.Rows L2
open SX (S S_len S_cat S_inj)
theorem numLen {k n : Nat} (hk : 1 ≤ k) (h : n < 10 ^ k) : (numL n).length ≤ k := TL.numL_len hk h
theorem toStrN (n : Nat) : (Str.ofString (toString ((n : Nat) : Int))) = S (numL n) := SX.num_S n
/-! ### good data: ascii texts, ints from -1 below 10 ** 40, short tuples; q: dicts and no lists, not q: lists and no dicts -/
def intOk (i : Int) : Bool := decide (-1 ≤ i) && decide (i < 10 ^ 40)
def strOkB (x : Str) : Bool := x.cps.toList.all (· < 128) && decide (x.cps.size ≤ 300)
mutual
def okV (q : Bool) : PyData → Bool
  | .none => true
  | .bool _ => true
  | .int i => intOk i
  | .str x => strOkB x
  | .list xs => !q && okVA q xs
  | .tuple xs => decide (xs.length ≤ 60) && okVA q xs
  | .dict kvs => q && okVK q kvs
def okVA (q : Bool) : List PyData → Bool
  | [] => true
  | x :: xs => okV q x && okVA q xs
def okVK (q : Bool) : List (PyData × PyData) → Bool
  | [] => true
  | (k, v) :: r => okV q k && okV q v && okVK q r
end
theorem int_good {i : Int} (h : intOk i = true) : i.natAbs.log2 < 1920 ∧ (PyData.int i).shown.length ≤ 60 := by
  simp only [intOk, Bool.and_eq_true, decide_eq_true_eq] at h
  obtain ⟨h1, h2⟩ := h
  rw [PyData.shown_int]
  by_cases h0 : 0 ≤ i
  · obtain ⟨n, rfl⟩ := Int.eq_ofNat_of_zero_le h0
    have hn : n < 10 ^ 40 := by omega
    refine ⟨?_, ?_⟩
    · rw [Int.natAbs_natCast]
      by_cases z : n = 0
      · subst z; decide
      · exact (Nat.log2_lt z).mpr (Nat.lt_of_lt_of_le hn (by decide +kernel))
    · rw [toStrN, S_len]
      have := numLen (k := 40) (by decide) hn
      omega
  · have : i = -1 := by omega
    subst this
    decide +kernel
theorem str_good {x : Str} (h : strOkB x = true) : PyData.strOk x = true ∧ (PyData.str x).leavesShort 60 = true := by
  simp only [strOkB, Bool.and_eq_true, List.all_eq_true, decide_eq_true_eq] at h
  refine ⟨?_, ?_⟩
  · unfold PyData.strOk
    rw [← Array.all_toList, List.all_eq_true]
    intro c hc
    have := h.1 c hc
    simp
    omega
  · simp only [PyData.leavesShort]
    rw [List.all_eq_true]
    intro c hc
    have := h.1 c hc
    simp
    omega
mutual
theorem okV_show {q : Bool} : ∀ d : PyData, okV q d = true → d.showable = true ∧ d.leavesShort 60 = true ∧ (q = true → noL d = true) ∧ (q = false → d.hasDict = false) ∧ (q = false → d.canLay0 = true)
  | .none, _ => by simp [PyData.showable, PyData.hasDict, noL, PyData.canLay0, PyData.leavesShort]
  | .bool _, _ => by simp [PyData.showable, PyData.hasDict, noL, PyData.canLay0, PyData.leavesShort]
  | .int i, h => by
    have := int_good (by simpa only [okV] using h)
    simp only [PyData.showable, PyData.hasDict, noL, PyData.canLay0, PyData.leavesShort, decide_eq_true_eq]
    exact ⟨this.1, this.2, fun _ => trivial, fun _ => trivial, fun _ => trivial⟩
  | .str x, h => by
    obtain ⟨h1, h2⟩ := str_good (by simpa only [okV] using h)
    exact ⟨by simp only [PyData.showable], h2, fun _ => by simp only [noL], fun _ => by simp only [PyData.hasDict], fun _ => by simp only [PyData.canLay0]; exact h1⟩
  | .list xs, h => by
    simp only [okV, Bool.and_eq_true, Bool.not_eq_true'] at h
    obtain ⟨h0, h⟩ := h
    subst h0
    obtain ⟨a, b, _, c, d⟩ := okVA_show xs h
    refine ⟨by simpa only [PyData.showable] using a, by simpa only [PyData.leavesShort] using b, fun z => absurd z (by decide), fun z => ?_, fun z => ?_⟩
    · simpa only [PyData.hasDict] using c z
    · simpa only [PyData.canLay0] using d z
  | .tuple xs, h => by
    simp only [okV, Bool.and_eq_true] at h
    have := okVA_show xs h.2
    simpa only [PyData.showable, PyData.hasDict, noL, PyData.canLay0, PyData.leavesShort] using this
  | .dict kvs, h => by
    simp only [okV, Bool.and_eq_true] at h
    obtain ⟨h0, h⟩ := h
    subst h0
    obtain ⟨a, b, c⟩ := okVK_show kvs h
    refine ⟨by simpa only [PyData.showable] using a, by simpa only [PyData.leavesShort] using b, fun z => ?_, fun z => absurd z (by decide), fun z => absurd z (by decide)⟩
    simpa only [noL] using c z
theorem okVA_show {q : Bool} : ∀ xs : List PyData, okVA q xs = true → PyData.showableAll xs = true ∧ PyData.leavesShortAll 60 xs = true ∧ (q = true → noLA xs = true) ∧ (q = false → PyData.hasDictAll xs = false) ∧ (q = false → PyData.canLayAll0 xs = true)
  | [], _ => by simp [PyData.showableAll, PyData.hasDictAll, noLA, PyData.canLayAll0, PyData.leavesShortAll]
  | x :: xs, h => by
    simp only [okVA, Bool.and_eq_true] at h
    obtain ⟨a1, a2, a3, a4, a5⟩ := okV_show x h.1
    obtain ⟨b1, b2, b3, b4, b5⟩ := okVA_show xs h.2
    simp only [PyData.showableAll, PyData.hasDictAll, noLA, PyData.canLayAll0, PyData.leavesShortAll, a1, a2, b1, b2]
    exact ⟨rfl, rfl, fun z => by rw [a3 z, b3 z]; rfl, fun z => by rw [a4 z, b4 z]; rfl, fun z => by rw [a5 z, b5 z]; rfl⟩
theorem okVK_show {q : Bool} : ∀ xs : List (PyData × PyData), okVK q xs = true → PyData.showableKv xs = true ∧ PyData.leavesShortKv 60 xs = true ∧ (q = true → noLK xs = true)
  | [], _ => by simp [PyData.showableKv, noLK, PyData.leavesShortKv]
  | (k, v) :: xs, h => by
    simp only [okVK, Bool.and_eq_true] at h
    obtain ⟨a1, a2, a3, a4, a5⟩ := okV_show k h.1.1
    obtain ⟨c1, c2, c3, c4, c5⟩ := okV_show v h.1.2
    obtain ⟨b1, b2, b3⟩ := okVK_show xs h.2
    simp only [PyData.showableKv, noLK, PyData.leavesShortKv, a1, a2, b1, b2, c1, c2]
    exact ⟨rfl, rfl, fun z => by rw [c3 z, b3 z]; rfl⟩
end
structure Gd (q : Bool) (d : PyData) (n b : Nat) : Prop where
  ok : okV q d = true
  dp : d.depth ≤ n
  bk : d.bulk ≤ b
structure GdA (q : Bool) (ds : List PyData) (n b : Nat) : Prop where
  ok : okVA q ds = true
  dp : PyData.depthAll ds ≤ n
  bk : PyData.bulkAll ds ≤ b
theorem Gd.mono {q : Bool} {d : PyData} {n m b c : Nat} (h : Gd q d n b) (hn : n ≤ m) (hb : b ≤ c) : Gd q d m c := ⟨h.ok, Nat.le_trans h.dp hn, Nat.le_trans h.bk hb⟩
theorem GdA.mono {q : Bool} {d : List PyData} {n m b c : Nat} (h : GdA q d n b) (hn : n ≤ m) (hb : b ≤ c) : GdA q d m c := ⟨h.ok, Nat.le_trans h.dp hn, Nat.le_trans h.bk hb⟩
theorem Gd.fit {q : Bool} {d : PyData} {n b : Nat} (h : Gd q d n b) (hn : n ≤ 60) (hb : b ≤ 100000) : d.showable = true ∧ (d.hasDict = true → noL d = true) ∧ d.depth ≤ 64 ∧ d.shown.length ≤ sizeLine := by
  obtain ⟨a1, a2, a3, a4, _⟩ := okV_show d h.ok
  refine ⟨a1, fun z => ?_, by have := h.dp; omega, ?_⟩
  · cases q with
    | true => exact a3 rfl
    | false => rw [a4 rfl] at z; cases z
  · have h1 := PyData.shown_le_bulk 60 (by decide) d a2
    have h2 : d.bulk ≤ 100000 := Nat.le_trans h.bk hb
    rw [sizeLine_eq]
    omega
theorem Gd.shaped {d : PyData} {n b : Nat} (h : Gd false d n b) (hn : n ≤ 60) : SeqAt.shaped d = true := by
  unfold SeqAt.shaped
  rw [(okV_show d h.ok).2.2.2.2 rfl, decide_eq_true (by have := h.dp; omega)]
  rfl
theorem Gd.asc {q : Bool} {d : PyData} {n b : Nat} (h : Gd q d n b) : ascS d = true := by
  cases d with
  | str x => exact (str_good (by simpa only [okV] using h.ok)).1
  | _ => rfl
theorem GdA.nil {q : Bool} {n b : Nat} : GdA q [] n b := ⟨by simp [okVA], by simp [PyData.depthAll], by simp [PyData.bulkAll]⟩
theorem GdA.cons {q : Bool} {d : PyData} {ds : List PyData} {n b b1 b2 : Nat} (h : Gd q d n b1) (k : GdA q ds n b2) (hb : b1 + b2 + 1 ≤ b) : GdA q (d :: ds) n b := by
  refine ⟨?_, ?_, ?_⟩
  · simp only [okVA, h.ok, k.ok]
    rfl
  · simp only [PyData.depthAll]
    have := h.dp
    have := k.dp
    omega
  · simp only [PyData.bulkAll]
    have := h.bk
    have := k.bk
    omega
theorem Gd.tup {q : Bool} {ds : List PyData} {n b : Nat} (h : GdA q ds n b) (hl : ds.length ≤ 60) : Gd q (.tuple ds) (n + 1) b := by
  refine ⟨?_, ?_, ?_⟩
  · simp only [okV, h.ok, decide_eq_true hl]
    rfl
  · simp only [PyData.depth]
    have := h.dp
    omega
  · simp only [PyData.bulk]
    exact h.bk
theorem Gd.lst {ds : List PyData} {n b : Nat} (h : GdA false ds n b) : Gd false (.list ds) (n + 1) b := by
  refine ⟨?_, ?_, ?_⟩
  · simp only [okV, h.ok]
    rfl
  · simp only [PyData.depth]
    have := h.dp
    omega
  · simp only [PyData.bulk]
    exact h.bk
theorem Gd.untup {q : Bool} {ds : List PyData} {n b : Nat} (h : Gd q (.tuple ds) n b) : GdA q ds (n - 1) b ∧ ds.length ≤ 60 := by
  have h1 := h.ok
  simp only [okV, Bool.and_eq_true, decide_eq_true_eq] at h1
  have h2 := h.dp
  simp only [PyData.depth] at h2
  have h3 := h.bk
  simp only [PyData.bulk] at h3
  exact ⟨⟨h1.2, by omega, h3⟩, h1.1⟩
theorem GdA.hd {q : Bool} {d : PyData} {ds : List PyData} {n b : Nat} (h : GdA q (d :: ds) n b) : Gd q d n b ∧ GdA q ds n b := by
  have h1 := h.ok
  simp only [okVA, Bool.and_eq_true] at h1
  have h2 := h.dp
  simp only [PyData.depthAll] at h2
  have h3 := h.bk
  simp only [PyData.bulkAll] at h3
  exact ⟨⟨h1.1, by omega, by omega⟩, ⟨h1.2, by omega, by omega⟩⟩
theorem GdA.mem {q : Bool} {n b : Nat} : ∀ {ds : List PyData}, GdA q ds n b → ∀ d ∈ ds, Gd q d n b
  | [], _, d, hd => by cases hd
  | x :: xs, h, d, hd => by
    rcases List.mem_cons.mp hd with rfl | hd
    · exact h.hd.1
    · exact GdA.mem h.hd.2 d hd
theorem bulk_app : ∀ (xs ys : List PyData), PyData.bulkAll (xs ++ ys) = PyData.bulkAll xs + PyData.bulkAll ys
  | [], ys => by simp [PyData.bulkAll]
  | x :: xs, ys => by
    rw [List.cons_append]
    simp only [PyData.bulkAll, bulk_app xs ys]
    omega
theorem GdA.app {q : Bool} {n b1 b2 b : Nat} : ∀ {xs ys : List PyData}, GdA q xs n b1 → GdA q ys n b2 → b1 + b2 ≤ b → GdA q (xs ++ ys) n b := by
  intro xs ys h k hb
  have hk := k.bk
  have hh := h.bk
  refine ⟨?_, ?_, by rw [bulk_app]; omega⟩
  · have h1 := h.ok
    clear h hh
    induction xs with
    | nil => exact k.ok
    | cons x xs ih =>
      simp only [okVA, Bool.and_eq_true] at h1
      rw [List.cons_append]
      simp only [okVA, h1.1, ih h1.2]
      rfl
  · have h1 := h.dp
    clear h hh
    induction xs with
    | nil => exact k.dp
    | cons x xs ih =>
      simp only [PyData.depthAll] at h1
      rw [List.cons_append]
      simp only [PyData.depthAll]
      have := ih (by omega)
      omega
theorem GdA.take {q : Bool} {n b : Nat} : ∀ {xs : List PyData} (m : Nat), GdA q xs n b → GdA q (xs.take m) n b := by
  intro xs m h
  have e := bulk_app (xs.take m) (xs.drop m)
  rw [List.take_append_drop] at e
  have hb := h.bk
  refine ⟨?_, ?_, by omega⟩
  · have h1 := h.ok
    clear h e hb
    induction xs generalizing m with
    | nil => simpa using h1
    | cons x xs ih =>
      cases m with
      | zero => simp [okVA]
      | succ m =>
        simp only [okVA, Bool.and_eq_true] at h1
        rw [List.take_succ_cons]
        simp only [okVA, h1.1, ih m h1.2]
        rfl
  · have h1 := h.dp
    clear h e hb
    induction xs generalizing m with
    | nil => simpa using h1
    | cons x xs ih =>
      cases m with
      | zero => simp [PyData.depthAll]
      | succ m =>
        simp only [PyData.depthAll] at h1
        rw [List.take_succ_cons]
        simp only [PyData.depthAll]
        have := ih m (by omega)
        omega
theorem GdA.drop {q : Bool} {n b : Nat} : ∀ {xs : List PyData} (m : Nat), GdA q xs n b → GdA q (xs.drop m) n b
  | _, 0, h => h
  | [], _ + 1, h => by simpa using h
  | _ :: xs, m + 1, h => by
    rw [List.drop_succ_cons]
    exact GdA.drop m h.hd.2
theorem GdA.rev {q : Bool} {n b : Nat} : ∀ {xs : List PyData}, GdA q xs n b → GdA q xs.reverse n b := by
  intro xs h
  have key : ∀ xs : List PyData, okVA q xs = true → PyData.depthAll xs ≤ n → GdA q xs.reverse n (PyData.bulkAll xs) := by
    intro xs
    induction xs with
    | nil => exact fun _ _ => .nil
    | cons x xs ih =>
      intro h1 h2
      simp only [okVA, Bool.and_eq_true] at h1
      simp only [PyData.depthAll] at h2
      rw [List.reverse_cons]
      simp only [PyData.bulkAll]
      exact (ih h1.2 (by omega)).app (b2 := x.bulk + 1) (.cons (b1 := x.bulk) (b2 := 0) ⟨h1.1, by omega, Nat.le_refl _⟩ .nil (by omega)) (by omega)
  exact (key xs h.ok h.dp).mono (Nat.le_refl _) h.bk
theorem Gd.non {q : Bool} {n b : Nat} : Gd q .none n b := ⟨by simp [okV], by simp [PyData.depth], by simp [PyData.bulk]⟩
theorem Gd.bl {q c : Bool} {n b : Nat} : Gd q (.bool c) n b := ⟨by simp [okV], by simp [PyData.depth], by simp [PyData.bulk]⟩
theorem Gd.int {q : Bool} {i : Int} {n b : Nat} (h : intOk i = true) : Gd q (.int i) n b := ⟨by simp [okV, h], by simp [PyData.depth], by simp [PyData.bulk]⟩
theorem Gd.str {q : Bool} {x : Str} {n b : Nat} (h : strOkB x = true) (hb : x.cps.size ≤ b) : Gd q (.str x) n b := ⟨by simp [okV, h], by simp [PyData.depth], by simp [PyData.bulk]; exact hb⟩
theorem S_toList (x : Str) : S x.cps.toList = x := rfl
theorem Gd.strL {q : Bool} {l : List Nat} {n b : Nat} (h : l.all (· < 128) = true) (h2 : l.length ≤ 300) (hb : l.length ≤ b) : Gd q (.str (S l)) n b := by
  refine .str ?_ (by rw [show (S l).cps.size = l.length from List.size_toArray ..]; exact hb)
  simp only [strOkB, Bool.and_eq_true, decide_eq_true_eq]
  exact ⟨h, by rw [show (S l).cps.size = l.length from List.size_toArray ..]; exact h2⟩
theorem Gd.strlen {q : Bool} {x : Str} {n b : Nat} (h : Gd q (.str x) n b) : x.cps.toList.all (· < 128) = true ∧ x.cps.toList.length ≤ 300 := by
  have := h.ok
  simp only [okV, strOkB, Bool.and_eq_true, decide_eq_true_eq] at this
  exact ⟨this.1, by rw [Array.length_toList]; exact this.2⟩
end Ag

end
/-! ## ZK -/
section
set_option linter.all false
set_option maxRecDepth 100000
set_option maxHeartbeats 4000000
namespace Ag
open PySem PySem.Spec PyProof.Rows L2
open SX (S S_len S_cat S_inj)
theorem testIf {t : TT} {σ : L2.St} {H : Hp} {Q : Bool → Hp → Prop} (I : Bool → Hp → Prop) (h : ∀ Q' : Bool → Hp → Prop, (∀ b H', I b H' → Q' b H') → t σ H Q') (k : ∀ b H', I b H' → Q b H') : t σ H Q := h Q k
def upC (c : Nat) : Nat := if 97 ≤ c ∧ c ≤ 122 then c - 32 else c
theorem up_S : ∀ {l : List Nat}, l.all (· < 128) = true → Txt.upper (S l) = S (l.map upC)
  | [], _ => rfl
  | c :: l, h => by
    rw [List.all_cons, Bool.and_eq_true, decide_eq_true_eq] at h
    have e : S (c :: l) = S [c] ++ S l := (S_cat [c] l).symm
    have e2 : S ((c :: l).map upC) = S [upC c] ++ S (l.map upC) := (S_cat [upC c] (l.map upC)).symm
    rw [e, PySem.W.KOpn.upper_app, up_S h.2, e2]
    congr 1
    exact PySem.W.KOpn.upper_one h.1
theorem up_asc {l : List Nat} (h : l.all (· < 128) = true) : (l.map upC).all (· < 128) = true := by
  rw [List.all_map, List.all_eq_true]
  intro c hc
  have := List.all_eq_true.mp h c hc
  simp only [decide_eq_true_eq] at this
  show decide (upC c < 128) = true
  unfold upC
  split
  · exact decide_eq_true (by omega)
  · exact decide_eq_true this
/-- a value that is put by another, none of it in the list that is being made at D -/
def spBent : Nat → Sp
  | 0 => fun _ _ _ _ => False
  | n + 1 => fun vs H Q _ => ∃ (p c D : Addr) (v : V) (d : PyData) (k m : Nat), vs = [.ref p, v, .int (k : Int)] ∧ Dk p c H ∧ H D ≠ none ∧ Dx p c D H v d ∧ bB m d = true ∧ m % 13 = 12 ∧ m ≤ 51 ∧ k ≤ n ∧ ∀ v' d' H', Gx p c H H' → Dx p c D H' v' d' → bB (m + 1) d' = true → Q v' H'
theorem all_take {α : Type} {t : α → Bool} {l : List α} (h : l.all t = true) (n : Nat) : (l.take n).all t = true := List.all_eq_true.mpr fun x hx => List.all_eq_true.mp h x (List.mem_of_mem_take hx)
theorem all_drop {α : Type} {t : α → Bool} {l : List α} (h : l.all t = true) (n : Nat) : (l.drop n).all t = true := List.all_eq_true.mpr fun x hx => List.all_eq_true.mp h x (List.mem_of_mem_drop hx)
theorem bB_row {m n : Nat} {ds : List PyData} (h : ds.all (bB m) = true) (hm : m ≤ n) (hl : ds.length ≤ n) : bB n (.tuple ds) = true := by
  rw [bB_tup, Bool.and_eq_true, decide_eq_true_eq]
  exact ⟨hl, bBA_mono hm ds h⟩
theorem numD {p c : Addr} {H : Hp} {v : V} {d : PyData} (h : Dg p c H v d) (e : isI d = true) : ∃ i, numV v = some i ∧ ∀ m, bB m d = true → i.natAbs ≤ 10 ^ 50 + m := by
  cases h with
  | int i => exact ⟨i, rfl, fun m z => of_decide_eq_true z⟩
  | bl b =>
    refine ⟨_, rfl, fun m z => ?_⟩
    cases b
    · simp
    · simp
      omega
  | _ => simp [isI] at e
theorem truD {K : PySem.W.Frag} {p c : Addr} {H : Hp} {v : V} {d : PyData} (h : Dg p c H v d) (e : isI d = true) : ∃ k, ∀ H', TruV K v H' k := by
  cases h with
  | int i => exact ⟨_, fun _ => rfl⟩
  | bl b => exact ⟨_, fun _ => rfl⟩
  | _ => simp [isI] at e
theorem shaped_n {d : PyData} (e : isI d = true) : SeqAt.shaped d = true := by
  cases d with
  | int i => simp [SeqAt.shaped, PyData.canLay0, PyData.depth]
  | bool b => simp [SeqAt.shaped, PyData.canLay0, PyData.depth]
  | _ => simp [isI] at e
theorem cut_fromS {l : List Nat} {a : Nat} : cutS (S l) (some (a : Int)) none = S (l.drop a) := by
  by_cases h : a ≤ l.length
  · exact cut_from h
  · unfold cutS
    rw [S_len, HT.sIx_nat, HT.sIx_none, Nat.min_eq_right (by omega)]
    show S _ = _
    congr 1
    rw [List.drop_of_length_le (i := a) (by omega)]
    simp
theorem allB_take {t : Nat → Bool} {l : List Nat} (h : l.all t = true) (n : Nat) : (l.take n).all t = true := List.all_eq_true.mpr fun x hx => List.all_eq_true.mp h x (List.mem_of_mem_take hx)
theorem log_int {i : Int} (h : i.natAbs ≤ 10 ^ 60) : i.natAbs.log2 < 1920 := by
  by_cases h0 : i.natAbs = 0
  · rw [h0]; decide
  · rw [Nat.log2_lt h0]
    exact Nat.lt_of_le_of_lt h (by decide +kernel)
theorem strV_ok {v : V} {i : Int} (e : numV v = some i) (h : i.natAbs ≤ 10 ^ 60) : ∃ l, strV v = S l ∧ l.all (· < 128) = true ∧ l.length ≤ 70 := by
  cases v with
  | int k =>
    have e : k = i := Option.some.inj e
    subst e
    have hn : (numL k.natAbs).length ≤ 61 := numLen (by decide) (Nat.lt_of_le_of_lt h (by decide +kernel))
    have ha : (numL k.natAbs).all (· < 128) = true := List.all_eq_true.mpr fun c hc => by
      have := numL_all k.natAbs c hc
      simp
      omega
    cases k with
    | ofNat n => exact ⟨numL n, toStrN n, ha, by have : (numL n).length ≤ 61 := hn; omega⟩
    | negSucc n =>
      refine ⟨45 :: numL (n + 1), ?_, ?_, ?_⟩
      · show Str.ofString ("-" ++ Nat.repr (n + 1)) = _
        have h1 : Str.ofString (Nat.repr (n + 1)) = S (numL (n + 1)) := toStrN (n + 1)
        rw [Str.ofString_eq_toList] at h1 ⊢
        have h3 : ((Nat.repr (n + 1)).toList.map Char.toNat) = numL (n + 1) := by
          have h1 := congrArg (fun x : Str => x.cps.toList) h1
          simpa using h1
        rw [String.toList_append, List.map_append, h3]
        rfl
      · rw [List.all_cons]
        exact (by simpa using ha)
      · have : (numL (n + 1)).length ≤ 61 := hn
        rw [List.length_cons]
        omega
  | bl b =>
    cases b
    · exact ⟨[70, 97, 108, 115, 101], by decide +kernel, by decide, by decide⟩
    · exact ⟨[84, 114, 117, 101], by decide +kernel, by decide, by decide⟩
  | _ => cases e
section
variable {P : Program} {w : World} {K : PySem.W.Frag} {mg : Str → Option Value} {base : Heap} {tm tn tb : Tok}
theorem ok_bent {f f1 f2 f3 : Addr} {fd fd1 fd2 fd3 : FuncData} (F : Fn K mg "_law_bent" s__law_bent ["_law_deck_here", "_law_value", "_law_deep"] f fd) (B : Con mg tm tn tb) (F__law_draw : Fn K mg "_law_draw" s__law_draw ["_law_deck_here", "_law_below"] f1 fd1) (F__law_pick : Fn K mg "_law_pick" s__law_pick ["_law_deck_here", "_law_some"] f2 fd2)
    (F__law_any : Fn K mg "_law_any" s__law_any ["_law_deck_here", "_law_deep"] f3 fd3) (n : Nat) : FnOk P w K mg base CX0 (5 + n) f fd ["_law_deck_here", "_law_value", "_law_deep"] (spBent n) := by
  induction n with
  | zero => exact ⟨fun _ _ _ _ h => h.elim, fun _ _ _ _ _ _ _ _ _ _ _ _ _ h => h.elim⟩
  | succ n G__law_bent =>
    have G__law_draw : FnOk P w K mg base CX0 1 f1 fd1 ["_law_deck_here", "_law_below"] spDraw := ok_draw F__law_draw B.toBlt
    have G__law_pick : FnOk P w K mg base CX0 2 f2 fd2 ["_law_deck_here", "_law_some"] spPick := ok_pick F__law_pick B.toBlt F__law_draw
    have G__law_any : FnOk P w K mg base CX0 5 f3 fd3 ["_law_deck_here", "_law_deep"] (spAny 2) := ok_any F__law_any B F__law_draw F__law_pick 2
    have F__law_bent := F
    refine F.F.ok sc__law_bent (fun vs H Q E h => ?_) (fun cdv A outer s H vs Q E hr h => ?_)
    · obtain ⟨p, c, D, v, d, k, m, rfl, _⟩ := h
      rfl
    · obtain ⟨p, c, D, x, d, k, m, rfl, dk, hD, hd, hb, hm, hm2, hk, q⟩ := h
      have hs1 := sl_ge m
      have hs2 := sl_two hm
      have hs3 : sl m ≤ 4096 := sl_le (by omega)
      refine ⟨_, (pss_cons (ps_set (i := 3) sc__law_bent.nd rfl (.inl rfl) (pe_call G__law_draw (hr.mono (by show _ ≤ 5 + n; omega)) (by rfl) F__law_draw.g F__law_draw.F.kp F__law_draw.b .nil pass0 (pa_cons (pv 0) (pa_cons pe_int pa_nil))))
      (pss_cons (ps_if (PW.pt (pw_and (pt_val (pe_callB call_isi (by rfl) B.n_isinstance (by decide +kernel) (pa_cons (pv 1) (pa_cons (pe_bltn (v := .ty "tuple") (by rfl) B.n_tuple (by decide +kernel) rfl) pa_nil)))) (pw_and1 (pt_cmpR (op_neTT hr.units) (pv 1) (pe_tup pa_nil) (nomark _)))))
      (pss_cons (ps_par (i := 4) (j := 5) (by rfl) sc__law_bent.nd rfl rfl (by decide) rfl rfl (pa_cons (pe_call G__law_draw (hr.mono (by show _ ≤ 5 + n; omega)) (by rfl) F__law_draw.g F__law_draw.F.kp F__law_draw.b .nil pass0 (pa_cons (pv 0) (pa_cons (pe_callB call_len_seq (by rfl) B.n_len PySem.boot_len (pa_cons (pv 1) pa_nil)) pa_nil))) (pa_cons (pe_call G__law_draw (hr.mono (by show _ ≤ 5 + n; omega)) (by rfl) F__law_draw.g F__law_draw.F.kp F__law_draw.b .nil pass0 (pa_cons (pv 0) (pa_cons (pe_callB call_len_seq (by rfl) B.n_len PySem.boot_len (pa_cons (pv 1) pa_nil)) pa_nil))) pa_nil)) (by rfl))
        (pss_cons (ps_if (PW.pt (pw_and (pt_cmpR op_lt (pv 3) pe_int (nomark _)) (pw_and1 (pt_cmpR op_gt (pv 2) pe_int (nomark _)))))
        (pss_one (ps_ret (pe_op op_catA (pe_op op_catA (pe_slice sl_tupA (pv 1) po_none (po_some (pv 4))) (pe_tup (pa_cons (pe_call G__law_bent (hr.mono (by show _ ≤ 5 + n; omega)) (by rfl) F__law_bent.g F__law_bent.F.kp F__law_bent.b .nil pass0 (pa_cons (pv 0) (pa_cons (pe_ix ix_tup (pv 1) (pv 4) (fun _ _ => rfl)) (pa_cons (pe_op op_sub (pv 2) pe_int) pa_nil)))) pa_nil))) (pe_slice sl_tupA (pv 1) (po_some (pe_op op_add (pv 4) pe_int)) po_none))))
        pss_nil)
        (pss_cons (ps_if (pt_cmpR op_eq (pv 3) pe_int (nomark _))
        (pss_one (ps_ret (pe_op op_catA (pe_slice sl_tupA (pv 1) po_none (po_some (pv 4))) (pe_slice sl_tupA (pv 1) (po_some (pe_op op_add (pv 4) pe_int)) po_none))))
        pss_nil)
        (pss_cons (ps_if (pt_cmpR op_eq (pv 3) pe_int (nomark _))
        (pss_one (ps_ret (pe_op op_catA (pe_op op_catA (pe_slice sl_tupA (pv 1) po_none (po_some (pv 4))) (pe_slice sl_tupA (pv 1) (po_some (pv 5)) (po_some (pe_op op_add (pv 5) pe_int)))) (pe_slice sl_tupA (pv 1) (po_some (pv 4)) po_none))))
        pss_nil)
        (pss_cons (ps_if (pt_cmpR op_eq (pv 3) pe_int (nomark _))
        (pss_one (ps_ret (pe_op op_catA (pe_op op_catA (pe_slice sl_tupA (pv 1) po_none (po_some (pv 4))) (pe_slice sl_tupA (pv 1) (po_some (pv 5)) (po_some (pe_op op_add (pv 5) pe_int)))) (pe_slice sl_tupA (pv 1) (po_some (pe_op op_add (pv 4) pe_int)) po_none))))
        pss_nil)
        (pss_one (ps_ret (pe_call G__law_pick (hr.mono (by show _ ≤ 5 + n; omega)) (by rfl) F__law_pick.g F__law_pick.F.kp F__law_pick.b .nil pass0 (pa_cons (pv 0) (pa_cons (pe_lst (pa_cons (pe_callTy call_list_of (by rfl) B.n_list (by decide +kernel) (pa_cons (pv 1) pa_nil)) (pa_cons (pe_tup (pa_cons (pv 1) pa_nil)) (pa_cons (pe_revT (pv 1)) (pa_cons (pe_op op_catA (pv 1) (pe_tup (pa_cons pe_non pa_nil))) (pa_cons (pe_tup pa_nil) (pa_cons (pe_disp (pps_cons pe_int pe_int pps_nil) (by rfl) (by rfl) (fun z => by cases z) (by decide)) (pa_cons (pe_op op_catA (pv 1) (pe_slice sl_tupA (pv 1) po_none (po_some pe_int))) pa_nil)))))))) pa_nil))))))))))
      pss_nil)
      (pss_cons (ps_if (PW.pt (pw_and (pt_val (pe_callB call_isi (by rfl) B.n_isinstance (by decide +kernel) (pa_cons (pv 1) (pa_cons (pe_bltn (v := .ty "int") (by rfl) B.n_int (by decide +kernel) rfl) pa_nil)))) (pw_and1 (pt_cmpR op_lt (pv 3) pe_int (nomark _)))))
      (pss_cons (ps_set (i := 6) sc__law_bent.nd rfl (.inl rfl) (pe_lst (pa_cons (pe_op op_addI (pv 1) pe_int) (pa_cons (pe_op op_subI (pv 1) pe_int) (pa_cons (pe_cmpR (op_eqG hr.units) (pv 1) pe_int (nomark _)) (pa_cons pe_int (pa_cons (pe_un un_neg pe_int) (pa_cons (pe_op op_pow pe_int pe_int) (pa_cons (pe_op op_add (pe_op op_pow pe_int pe_int) pe_int) (pa_cons (pe_callTy call_strI (by rfl) B.n_str (by decide +kernel) (pa_cons (pv 1) pa_nil)) (pa_cons (pe_tup (pa_cons (pv 1) pa_nil)) (pa_cons (pe_notT (pv 1)) (pa_cons (pe_op op_addI (pv 1) pe_int) pa_nil)))))))))))))
        (pss_one (ps_ret (pe_call G__law_pick (hr.mono (by show _ ≤ 5 + n; omega)) (by rfl) F__law_pick.g F__law_pick.F.kp F__law_pick.b .nil pass0 (pa_cons (pv 0) (pa_cons (pv 6) pa_nil))))))
      pss_nil)
      (pss_cons (ps_if (PW.pt (pw_and (pt_val (pe_callB call_isi (by rfl) B.n_isinstance (by decide +kernel) (pa_cons (pv 1) (pa_cons (pe_bltn (v := .ty "str") (by rfl) B.n_str (by decide +kernel) rfl) pa_nil)))) (pw_and1 (pt_cmpR op_lt (pv 3) pe_int (nomark _)))))
      (pss_cons (ps_set (i := 4) sc__law_bent.nd rfl (.inl rfl) (pe_call G__law_draw (hr.mono (by show _ ≤ 5 + n; omega)) (by rfl) F__law_draw.g F__law_draw.F.kp F__law_draw.b .nil pass0 (pa_cons (pv 0) (pa_cons (pe_op op_add (pe_callB call_len_str (by rfl) B.n_len PySem.boot_len (pa_cons (pv 1) pa_nil)) pe_int) pa_nil))))
        (pss_cons (ps_set (i := 7) sc__law_bent.nd rfl (.inl rfl) (pe_call G__law_pick (hr.mono (by show _ ≤ 5 + n; omega)) (by rfl) F__law_pick.g F__law_pick.F.kp F__law_pick.b .nil pass0 (pa_cons (pv 0) (pa_cons (pe_lst (pa_cons pe_str (pa_cons pe_str (pa_cons pe_str (pa_cons pe_str (pa_cons pe_str (pa_cons pe_str (pa_cons pe_str (pa_cons pe_str (pa_cons pe_str pa_nil)))))))))) pa_nil))))
        (pss_cons (ps_set (i := 6) sc__law_bent.nd rfl (.inl rfl) (pe_lst (pa_cons (pe_op op_add_str (pe_op op_add_str (pe_slice sl_str (pv 1) po_none (po_some (pv 4))) (pv 7)) (pe_slice sl_str (pv 1) (po_some (pv 4)) po_none)) (pa_cons (pe_op op_add_str (pe_slice sl_str (pv 1) po_none (po_some (pv 4))) (pe_slice sl_str (pv 1) (po_some (pe_op op_add (pv 4) pe_int)) po_none)) (pa_cons (pe_op op_add_str (pe_op op_add_str (pe_slice sl_str (pv 1) po_none (po_some (pv 4))) (pv 7)) (pe_slice sl_str (pv 1) (po_some (pe_op op_add (pv 4) pe_int)) po_none)) (pa_cons (pe_slice sl_str (pv 1) po_none (po_some (pv 4))) pa_nil))))))
        (pss_one (ps_ret (pe_call G__law_pick (hr.mono (by show _ ≤ 5 + n; omega)) (by rfl) F__law_pick.g F__law_pick.F.kp F__law_pick.b .nil pass0 (pa_cons (pv 0) (pa_cons (pe_op op_cat (pv 6) (pe_lst (pa_cons (pe_op op_add_str (pv 1) (pv 1)) (pa_cons (pe_upper (pv 1)) (pa_cons (pe_lst (pa_cons (pv 1) pa_nil)) pa_nil))))) pa_nil))))))))
      pss_nil)
      (pss_one (ps_ret (pe_call G__law_any (hr.mono (by show _ ≤ 5 + n; omega)) (by rfl) F__law_any.g F__law_any.F.kp F__law_any.b .nil pass0 (pa_cons (pv 0) (pa_cons pe_int pa_nil))))))))), ?_⟩
      refine ⟨_, rfl, p, c, 12, rfl, dk, by decide, by decide, fun way H1 hway g1 => ?_⟩
      have hD1 := Has.gx dk g1 hD
      have hx1 : Dx p c D H1 x d := hd.to (hd_kp g1.kp)
      dsimp only [gName]
      unfold tSeq
      dsimp only
      unfold tIfS
      refine testIf (fun b H' => Same H1 H' ∧ (b = true → isT d = true ∧ d ≠ .tuple [])) (fun Q' hQ' => ?_) ?_
      · have hu := hx1.to hd_up
        refine ⟨_, rfl, x, .ty "tuple", _, _, _, rfl, .ty "tuple", hu.tyx, isi_T d, _, rfl, ?_⟩
        cases hT : isT d with
        | false => exact iteF (hQ' _ _ ⟨Same.refl _, fun z => by cases z⟩)
        | true =>
          refine iteT ?_
          cases hu with
          | @tup a xs ds ha hA =>
            refine ⟨_, rfl, sz (by show 0 ≤ 16000000; decide), fun t ht => ?_⟩
            refine ⟨a, xs, t, rfl, (same_new ht) _ _ ha.2.2, rfl, upd_same, _, rfl, hQ' _ _ ⟨same_new ht, fun z => ⟨rfl, fun e => ?_⟩⟩⟩
            injection e with e
            subst e
            have := hA.len
            rw [List.length_nil, List.length_eq_zero_iff] at this
            subst this
            rw [decide_eq_true rfl] at z
            cases z
          | _ => simp [isT] at hT
      rintro b1 H2 ⟨s2, hb1⟩
      have g2 := g1.trans (Gx.same g1.2 s2)
      have hD2 := Has.gx dk g2 hD
      have hx2 : Dx p c D H2 x d := hx1.to (hd_kp (.same s2))
      have dk2 := g2.2
      clear hx1 hD1 hd
      refine ite2 (fun h => ?_) (fun _ => ?_)
      · -- inside of it
        obtain ⟨hT, hne⟩ := hb1 h
        cases hx2 with
        | @tup a xs ds ha hA =>
          have hlen := hA.len
          rw [bB_tup, Bool.and_eq_true, decide_eq_true_eq] at hb
          obtain ⟨hl, hall⟩ := hb
          have hne1 : 1 ≤ ds.length := by
            cases ds with
            | nil => exact absurd rfl hne
            | cons _ _ => simp
          have fin : ∀ {e : Addr} {zs : List V} {es : List PyData} {m' : Nat} {H' : Hp}, Gx p c H H' → Ax p c D H' e (.tup zs) → DxA p c D H' zs es → es.all (bB m') = true → m' ≤ m + 1 → es.length ≤ m + 1 → Q (.ref e) H' :=
            fun g h1 h2 h3 h4 h5 => q _ _ _ g (.tup h1 h2) (bB_row h3 h4 h5)
          refine ⟨_, rfl, _, rfl, a, xs, rfl, .inr (SqT.of (Ax.at_ ha).2.2), p, c, (xs.length : Int), rfl, dk2, by omega, by omega, fun i H3 hi g3 => ?_⟩
          have ha3 := ha.kp (hd_kp g3.kp)
          have hA3 := hA.to (hd_kp g3.kp)
          have hD3 := Has.gx dk2 g3 hD2
          have g3 := g2.trans g3
          refine ⟨_, rfl, _, rfl, a, xs, rfl, .inr (SqT.of (Ax.at_ ha3).2.2), p, c, (xs.length : Int), rfl, g3.2, by omega, by omega, fun j H4 hj g4 => ⟨_, _, rfl, ?_⟩⟩
          have hi : i < xs.length := by omega
          have hj : j < xs.length := by omega
          have ha4 := ha3.kp (hd_kp g4.kp)
          have hA4 := hA3.to (hd_kp g4.kp)
          have hD4 := Has.gx g3.2 g4 hD3
          have g4 := g3.trans g4
          clear ha3 hA3 hD3 g3 ha hA hD2 s2 hb1 dk2 g2 g1
          have ei : ((i : Int) + 1) = ((i + 1 : Nat) : Int) := by omega
          have ej : ((j : Int) + 1) = ((j + 1 : Nat) : Int) := by omega
          dsimp only
          refine testIf (fun b H' => H4 = H' ∧ (b = true → 1 ≤ k)) (fun Q' hQ' => ?_) ?_
          · refine ⟨_, rfl, _, _, rfl, rfl, _, rfl, ite2 (fun _ => ?_) (fun _ => hQ' _ _ ⟨rfl, fun z => by cases z⟩)⟩
            exact ⟨_, rfl, _, _, rfl, rfl, _, rfl, hQ' _ _ ⟨rfl, fun z => by have := of_decide_eq_true z; omega⟩⟩
          rintro b2 _ ⟨rfl, hk1⟩
          refine ite2 (fun h => ?_) (fun _ => ?_)
          · -- an item bent
            have hk1 := hk1 h
            cases n with
            | zero => omega
            | succ n =>
            obtain ⟨y, hy⟩ : ∃ y, xs[i]? = some y := ⟨xs[i]'(by omega), List.getElem?_eq_getElem (by omega)⟩
            refine ⟨_, rfl, _, rfl, _, rfl, sl_x g4.2 hD4 ha4 fun a1 H5 s5 h1 => ?_⟩
            have g5 := g4.trans (Gx.same g4.2 s5)
            have hD5 := Has.gx g4.2 (Gx.same g4.2 s5) hD4
            rw [cutV_to] at h1
            have ha5 := ha4.kp (hd_kp (.same s5))
            have hA5 := hA4.to (hd_kp (.same s5))
            obtain ⟨dy, hdy, hgy⟩ := hA5.at_ hy
            refine ⟨_, rfl, _, rfl, _, rfl, a, xs, _, y, rfl, rfl, SqT.of (Ax.at_ ha5).2.2, atI_nat hy, ?_⟩
            refine ⟨_, rfl, _, _, rfl, rfl, p, c, D, y, dy, k - 1, m, by show [V.ref p, y, V.int ((k : Int) - 1)] = _; rw [show ((k : Int) - 1) = ((k - 1 : Nat) : Int) by omega], g5.2, hD5, hgy, List.all_eq_true.mp hall dy (List.mem_of_getElem? hdy), hm, hm2, by omega, fun r dr H6 g6 hr6 kr => ⟨sz (by show 1 ≤ 16000000; decide), fun t ht => ?_⟩⟩
            have h1 := h1.kp (hd_kp g6.kp)
            have ha6 := ha5.kp (hd_kp g6.kp)
            have hA6 := hA5.to (hd_kp g6.kp)
            have hD6 := Has.gx g5.2 g6 hD5
            have g6 := g5.trans g6
            have st := same_new (o := .tup [r]) ht
            have g7 := g6.trans (Gx.same g6.2 st)
            have hD7 := Has.gx g6.2 (Gx.same g6.2 st) hD6
            have h7 := Ax.new (o := .tup [r]) g6.2 hD6 ht
            have hr7 := hr6.to (hd_kp (.same st))
            have h1 := h1.kp (hd_kp (.same st))
            have ha7 := ha6.kp (hd_kp (.same st))
            have hA7 := hA6.to (hd_kp (.same st))
            generalize upd H6 t (.tup [r]) = H7 at g7 hD7 h7 hr7 h1 ha7 hA7 ⊢
            refine cat_x g7.2 hD7 h1 h7 (by simp only [List.length_take, List.length_cons, List.length_nil]; omega) fun a3 H8 s8 h3 => ?_
            have g8 := g7.trans (Gx.same g7.2 s8)
            have hD8 := Has.gx g7.2 (Gx.same g7.2 s8) hD7
            refine ⟨_, rfl, _, rfl, _, _, rfl, rfl, _, rfl, ?_⟩
            dsimp only [tNoPart]
            refine sl_x g8.2 hD8 (ha7.kp (hd_kp (.same s8))) fun a4 H9 s9 h4 => ?_
            have g9 := g8.trans (Gx.same g8.2 s9)
            have hD9 := Has.gx g8.2 (Gx.same g8.2 s9) hD8
            rw [ei, cutV_from xs (by omega)] at h4
            refine cat_x g9.2 hD9 (h3.kp (hd_kp (.same s9))) h4 (by simp only [List.length_take, List.length_drop, List.length_append, List.length_cons, List.length_nil]; omega) fun a5 HA sA h5 => ?_
            have kk : Kp p c (hd1 D H7) (hd1 D HA) := hd_kp (.same ((s8.trans s9).trans sA))
            have hAA := hA7.to kk
            refine fin (g9.trans (Gx.same g9.2 sA)) h5 (((hAA.take i).app (.cons (hr7.to kk) .nil)).app (hAA.drop (i + 1))) ?_ (Nat.le_refl _) (by simp only [List.length_append, List.length_take, List.length_drop, List.length_cons, List.length_nil]; omega)
            rw [List.all_append, List.all_append, bBA_mono (by omega) _ (all_take hall i), bBA_mono (by omega) _ (all_drop hall (i + 1)), List.all_cons, kr]
            rfl
          try unfold tNext
          try dsimp only
          refine ⟨_, rfl, rfl, _, rfl, ite2 (fun _ => ?_) (fun _ => ?_)⟩
          · -- an item left out
            refine ⟨_, rfl, _, rfl, _, rfl, sl_x g4.2 hD4 ha4 fun a1 H5 s5 h1 => ?_⟩
            have g5 := g4.trans (Gx.same g4.2 s5)
            have hD5 := Has.gx g4.2 (Gx.same g4.2 s5) hD4
            rw [cutV_to] at h1
            refine ⟨_, rfl, _, rfl, _, _, rfl, rfl, _, rfl, ?_⟩
            dsimp only [tNoPart]
            refine sl_x g5.2 hD5 (ha4.kp (hd_kp (.same s5))) fun a2 H6 s6 h2 => ?_
            have g6 := g5.trans (Gx.same g5.2 s6)
            have hD6 := Has.gx g5.2 (Gx.same g5.2 s6) hD5
            rw [ei, cutV_from xs (by omega)] at h2
            refine cat_x g6.2 hD6 (h1.kp (hd_kp (.same s6))) h2 (by simp only [List.length_take, List.length_drop]; omega) fun a3 H7 s7 h3 => ?_
            have hA7 := hA4.to (hd_kp (.same ((s5.trans s6).trans s7)))
            refine fin (g6.trans (Gx.same g6.2 s7)) h3 ((hA7.take i).app (hA7.drop (i + 1))) (m' := m) ?_ (by omega) (by simp only [List.length_append, List.length_take, List.length_drop]; omega)
            rw [List.all_append, all_take hall, all_drop hall]
            rfl
          try unfold tNext
          try dsimp only
          refine ⟨_, rfl, rfl, _, rfl, ite2 (fun _ => ?_) (fun _ => ?_)⟩
          · -- an item put in
            refine ⟨_, rfl, _, rfl, _, rfl, sl_x g4.2 hD4 ha4 fun a1 H5 s5 h1 => ?_⟩
            have g5 := g4.trans (Gx.same g4.2 s5)
            have hD5 := Has.gx g4.2 (Gx.same g4.2 s5) hD4
            rw [cutV_to] at h1
            refine ⟨_, rfl, _, rfl, _, rfl, _, rfl, _, _, rfl, rfl, _, rfl, sl_x g5.2 hD5 (ha4.kp (hd_kp (.same s5))) fun a2 H6 s6 h2 => ?_⟩
            have g6 := g5.trans (Gx.same g5.2 s6)
            have hD6 := Has.gx g5.2 (Gx.same g5.2 s6) hD5
            rw [ej, cutV_mid xs (by omega)] at h2
            refine cat_x g6.2 hD6 (h1.kp (hd_kp (.same s6))) h2 (by simp only [List.length_take, List.length_drop]; omega) fun a3 H7 s7 h3 => ?_
            have g7 := g6.trans (Gx.same g6.2 s7)
            have hD7 := Has.gx g6.2 (Gx.same g6.2 s7) hD6
            refine ⟨_, rfl, _, rfl, _, rfl, ?_⟩
            dsimp only [tNoPart]
            refine sl_x g7.2 hD7 (ha4.kp (hd_kp (.same ((s5.trans s6).trans s7)))) fun a4 H8 s8 h4 => ?_
            have g8 := g7.trans (Gx.same g7.2 s8)
            have hD8 := Has.gx g7.2 (Gx.same g7.2 s8) hD7
            rw [cutV_from xs (by omega)] at h4
            refine cat_x g8.2 hD8 (h3.kp (hd_kp (.same s8))) h4 (by simp only [List.length_append, List.length_take, List.length_drop]; omega) fun a5 H9 s9 h5 => ?_
            have hA9 := hA4.to (hd_kp (.same ((((s5.trans s6).trans s7).trans s8).trans s9)))
            refine fin (g8.trans (Gx.same g8.2 s9)) h5 (((hA9.take i).app ((hA9.drop j).take (j + 1 - j))).app (hA9.drop i)) (m' := m) ?_ (by omega) (by simp only [List.length_append, List.length_take, List.length_drop]; omega)
            rw [List.all_append, List.all_append, all_take hall, all_take (all_drop hall j), all_drop hall]
            rfl
          try unfold tNext
          try dsimp only
          refine ⟨_, rfl, rfl, _, rfl, ite2 (fun _ => ?_) (fun _ => ?_)⟩
          · -- an item put by another
            refine ⟨_, rfl, _, rfl, _, rfl, sl_x g4.2 hD4 ha4 fun a1 H5 s5 h1 => ?_⟩
            have g5 := g4.trans (Gx.same g4.2 s5)
            have hD5 := Has.gx g4.2 (Gx.same g4.2 s5) hD4
            rw [cutV_to] at h1
            refine ⟨_, rfl, _, rfl, _, rfl, _, rfl, _, _, rfl, rfl, _, rfl, sl_x g5.2 hD5 (ha4.kp (hd_kp (.same s5))) fun a2 H6 s6 h2 => ?_⟩
            have g6 := g5.trans (Gx.same g5.2 s6)
            have hD6 := Has.gx g5.2 (Gx.same g5.2 s6) hD5
            rw [ej, cutV_mid xs (by omega)] at h2
            refine cat_x g6.2 hD6 (h1.kp (hd_kp (.same s6))) h2 (by simp only [List.length_take, List.length_drop]; omega) fun a3 H7 s7 h3 => ?_
            have g7 := g6.trans (Gx.same g6.2 s7)
            have hD7 := Has.gx g6.2 (Gx.same g6.2 s7) hD6
            refine ⟨_, rfl, _, rfl, _, _, rfl, rfl, _, rfl, ?_⟩
            dsimp only [tNoPart]
            refine sl_x g7.2 hD7 (ha4.kp (hd_kp (.same ((s5.trans s6).trans s7)))) fun a4 H8 s8 h4 => ?_
            have g8 := g7.trans (Gx.same g7.2 s8)
            have hD8 := Has.gx g7.2 (Gx.same g7.2 s8) hD7
            rw [ei, cutV_from xs (by omega)] at h4
            refine cat_x g8.2 hD8 (h3.kp (hd_kp (.same s8))) h4 (by simp only [List.length_append, List.length_take, List.length_drop]; omega) fun a5 H9 s9 h5 => ?_
            have hA9 := hA4.to (hd_kp (.same ((((s5.trans s6).trans s7).trans s8).trans s9)))
            refine fin (g8.trans (Gx.same g8.2 s9)) h5 (((hA9.take i).app ((hA9.drop j).take (j + 1 - j))).app (hA9.drop (i + 1))) (m' := m) ?_ (by omega) (by simp only [List.length_append, List.length_take, List.length_drop]; omega)
            rw [List.all_append, List.all_append, all_take hall, all_take (all_drop hall j), all_drop hall]
            rfl
          try unfold tNext
          try dsimp only
          -- something else of it
          have whole : ∀ {H' : Hp}, Kp p c (hd1 D H4) (hd1 D H') → Dx p c D H' (.ref a) (.tuple ds) := fun g => .tup (ha4.kp g) (hA4.to g)
          have hbT : bB m (.tuple ds) = true := bB_row hall (Nat.le_refl _) hl
          refine ⟨_, rfl, _, rfl, a, xs, rfl, .inr (SqT.of (Ax.at_ ha4).2.2), fun l1 h1 => ?_⟩
          have s5 := same_new (o := .lst xs) h1
          have o1 := Ax.new (o := .lst xs) g4.2 hD4 h1
          have g5 := g4.trans (Gx.same g4.2 s5)
          have hD5 := Has.gx g4.2 (Gx.same g4.2 s5) hD4
          generalize upd H4 l1 (.lst xs) = H5 at s5 o1 g5 hD5 ⊢
          refine ⟨_, rfl, sz (by show 1 ≤ 16000000; decide), fun t2 h2 => ?_⟩
          have s6 := same_new (o := .tup [.ref a]) h2
          have o2 := Ax.new (o := .tup [.ref a]) g5.2 hD5 h2
          have g6 := g5.trans (Gx.same g5.2 s6)
          have hD6 := Has.gx g5.2 (Gx.same g5.2 s6) hD5
          generalize upd H5 t2 (.tup [.ref a]) = H6 at s6 o2 g6 hD6 ⊢
          have ha6 := ha4.kp (hd_kp (.same (s5.trans s6)))
          refine ⟨_, rfl, a, xs, rfl, SqT.of (Ax.at_ ha6).2.2, fun r3 h3 => ?_⟩
          have s7 := same_new (o := .tup xs.reverse) h3
          have o3 := Ax.new (o := .tup xs.reverse) g6.2 hD6 h3
          have g7 := g6.trans (Gx.same g6.2 s7)
          have hD7 := Has.gx g6.2 (Gx.same g6.2 s7) hD6
          generalize upd H6 r3 (.tup xs.reverse) = H7 at s7 o3 g7 hD7 ⊢
          refine ⟨_, rfl, sz (by show 1 ≤ 16000000; decide), fun t4 h4 => ?_⟩
          have s8 := same_new (o := .tup [.non]) h4
          have o4 := Ax.new (o := .tup [.non]) g7.2 hD7 h4
          have g8 := g7.trans (Gx.same g7.2 s8)
          have hD8 := Has.gx g7.2 (Gx.same g7.2 s8) hD7
          generalize upd H7 t4 (.tup [.non]) = H8 at s8 o4 g8 hD8 ⊢
          have ha8 := ha6.kp (hd_kp (.same (s7.trans s8)))
          refine cat_x g8.2 hD8 ha8 o4 (by simp only [List.length_cons, List.length_nil]; omega) fun a5 H9 s9 o5 => ?_
          have g9 := g8.trans (Gx.same g8.2 s9)
          have hD9 := Has.gx g8.2 (Gx.same g8.2 s9) hD8
          refine ⟨Nat.zero_le _, fun t6 h6 => ?_⟩
          have sA := same_new (o := .tup []) h6
          have o6 := Ax.new (o := .tup []) g9.2 hD9 h6
          have gA := g9.trans (Gx.same g9.2 sA)
          have hDA := Has.gx g9.2 (Gx.same g9.2 sA) hD9
          generalize upd H9 t6 (.tup []) = HA at sA o6 gA hDA ⊢
          refine fun t7 h7 => ⟨upd_same, [(Sum.inl 0, .int 1)], rfl, by show 1 ≤ 15; decide, ?_⟩
          rw [show mergeK [] [(Sum.inl (0 : Int), V.int 1)] = [(Sum.inl 0, .int 1)] from by simp [mergeK, putK], upd_upd]
          have sB := same_new (o := .dK [(Sum.inl 0, .int 1)]) h7
          have o7 := Ax.new (o := .dK [(Sum.inl 0, .int 1)]) gA.2 hDA h7
          have gB := gA.trans (Gx.same gA.2 sB)
          have hDB := Has.gx gA.2 (Gx.same gA.2 sB) hDA
          generalize upd HA t7 (.dK [(Sum.inl 0, .int 1)]) = HB at sB o7 gB hDB ⊢
          have s4B := (((((s5.trans s6).trans s7).trans s8).trans s9).trans sA).trans sB
          have haB := ha4.kp (hd_kp (.same s4B))
          refine ⟨_, rfl, _, rfl, _, rfl, sl_x gB.2 hDB haB fun a8 HC sC o8 => ?_⟩
          have gC := gB.trans (Gx.same gB.2 sC)
          have hDC := Has.gx gB.2 (Gx.same gB.2 sC) hDB
          rw [show cutV xs none (some (1 : Int)) = xs.take 1 from cutV_to xs 1] at o8
          refine cat_x gC.2 hDC (haB.kp (hd_kp (.same sC))) o8 (by simp only [List.length_take]; omega) fun a9 HD' sD o9 => ?_
          have gD := gC.trans (Gx.same gC.2 sD)
          have hDD := Has.gx gC.2 (Gx.same gC.2 sD) hDC
          refine ⟨sz (by show 7 ≤ 16000000; decide), fun L hL => ?_⟩
          have sE := same_new (o := .lst [.ref l1, .ref t2, .ref r3, .ref a5, .ref t6, .ref t7, .ref a9]) hL
          have dkE := gD.2.same sE
          refine ⟨p, c, .ref L, rfl, dkE, .inl ⟨L, _, rfl, At.new gD.2 hL, (by show 1 ≤ 7; decide), (by show 7 ≤ 100000; decide), fun z y HF hy gF => ?_⟩⟩
          have gG := (gD.trans (Gx.same gD.2 sE)).trans gF
          have kE : Kp p c (hd1 D HD') (hd1 D HF) := (hd_kp (.same sE)).trans (hd_kp gF.kp)
          have kDD := (hd_kp (D := D) (Kp.same (p := p) (c := c) sD)).trans kE
          have kB := (hd_kp (D := D) (Kp.same (p := p) (c := c) sC)).trans kDD
          have kA := (hd_kp (D := D) (Kp.same (p := p) (c := c) sB)).trans kB
          have k9 := (hd_kp (D := D) (Kp.same (p := p) (c := c) sA)).trans kA
          have k8 := (hd_kp (D := D) (Kp.same (p := p) (c := c) s9)).trans k9
          have k7 := (hd_kp (D := D) (Kp.same (p := p) (c := c) s8)).trans k8
          have k6 := (hd_kp (D := D) (Kp.same (p := p) (c := c) s7)).trans k7
          have k5 := (hd_kp (D := D) (Kp.same (p := p) (c := c) s6)).trans k6
          have k4 := (hd_kp (D := D) (Kp.same (p := p) (c := c) s5)).trans k5
          have hAF := hA4.to k4
          match z, hy with
          | 0, hy =>
            rw [← Option.some.inj hy]
            exact q _ (.list ds) _ gG (.lst (o1.kp k5) hAF) rfl
          | 1, hy =>
            rw [← Option.some.inj hy]
            refine fin gG (o2.kp k6) (.cons (whole k4) .nil) (m' := m) ?_ (by omega) (by simp)
            rw [List.all_cons, hbT]
            rfl
          | 2, hy =>
            rw [← Option.some.inj hy]
            exact fin gG (o3.kp k7) hAF.rev (m' := m) (by rw [List.all_reverse]; exact hall) (by omega) (by rw [List.length_reverse]; omega)
          | 3, hy =>
            rw [← Option.some.inj hy]
            refine fin gG (o5.kp k9) (hAF.app (.cons .non .nil)) (m' := m) ?_ (by omega) (by simp only [List.length_append, List.length_cons, List.length_nil]; omega)
            rw [List.all_append, hall]
            rfl
          | 4, hy =>
            rw [← Option.some.inj hy]
            exact fin gG (o6.kp kA) .nil (m' := m) rfl (by omega) (by simp)
          | 5, hy =>
            rw [← Option.some.inj hy]
            exact q _ (.dict [(kD (Sum.inl 0), .int 1)]) _ gG (.dic (o7.kp kB) (.cons (.int 1) .nil)) rfl
          | 6, hy =>
            rw [← Option.some.inj hy]
            refine fin gG (o9.kp kE) (hAF.app (hAF.take 1)) (m' := m) ?_ (by omega) (by simp only [List.length_append, List.length_take]; omega)
            rw [List.all_append, hall, all_take hall]
            rfl
          | z + 7, hy => cases hy
        | _ => simp [isT] at hT
      · try unfold tNext
        try dsimp only
        refine testIf (fun b H' => H2 = H' ∧ (b = true → isI d = true)) (fun Q' hQ' => ?_) ?_
        · have hu := hx2.to hd_up
          refine ⟨_, rfl, x, .ty "int", _, _, _, rfl, .ty "int", hu.tyx, isi_I d, _, rfl, ite2 (fun hi => ?_) (fun _ => hQ' _ _ ⟨rfl, fun z => by cases z⟩)⟩
          exact ⟨_, rfl, _, _, rfl, rfl, _, rfl, hQ' _ _ ⟨rfl, fun _ => hi⟩⟩
        rintro b3 _ ⟨rfl, hb3⟩
        refine ite2 (fun h => ?_) (fun _ => ?_)
        · have hi := hb3 h
          obtain ⟨i, hi1, hi2⟩ := numD hx2 hi
          have hi2 := hi2 m hb
          obtain ⟨kt, hkt⟩ := truD (K := K) hx2 hi
          have c9 : CPow 10 9 := ⟨by decide, by decide, by decide⟩
          have hi60 : i.natAbs ≤ 10 ^ 60 := Nat.le_trans hi2 (by have : (10 : Nat) ^ 50 + 3000 ≤ 10 ^ 60 := by decide
                                                                 omega)
          refine ⟨_, rfl, _, _, hi1, rfl, _, rfl, _, _, hi1, rfl, _, rfl, p, c, d, .int 1, hx2.to hd_up, .int 1, shaped_n hi, rfl, ?_⟩
          refine ⟨_, rfl, _, _, rfl, rfl, c9, _, _, rfl, rfl, c9, _, _, rfl, rfl, _, rfl, x, i, rfl, hi1, log_int hi60, _, rfl, sz (by show 1 ≤ 16000000; decide), fun t ht => ?_⟩
          have s5 := same_new (o := .tup [x]) ht
          have o5 := Ax.new (o := .tup [x]) dk2 hD2 ht
          have g5 := g2.trans (Gx.same g2.2 s5)
          have hD5 := Has.gx g2.2 (Gx.same g2.2 s5) hD2
          have hx5 := hx2.to (hd_kp (.same s5))
          generalize upd H2 t (.tup [x]) = H5 at s5 o5 g5 hD5 hx5 ⊢
          refine ⟨_, rfl, kt, hkt _, _, rfl, _, _, hi1, rfl, sz (by show 11 ≤ 16000000; decide), fun L hL => ?_⟩
          have sE := same_new (o := .lst [.int (i + 1), .int (i - 1), .bl (PyData.eqv d (.int 1)), .int 0, .int (-1), .int (10 ^ (9 : Int).toNat), .int (10 ^ (9 : Int).toNat + 1), .str (strV x), .ref t, .bl (!kt), .int (i + 1)]) hL
          refine ⟨_, rfl, _, rfl, p, c, .ref L, rfl, g5.2.same sE, .inl ⟨L, _, rfl, At.new g5.2 hL, (by show 1 ≤ 11; decide), (by show 11 ≤ 100000; decide), fun z y HF hy gF => ?_⟩⟩
          have gG := (g5.trans (Gx.same g5.2 sE)).trans gF
          have kE : Kp p c (hd1 D H5) (hd1 D HF) := (hd_kp (.same sE)).trans (hd_kp gF.kp)
          have mem := List.mem_of_getElem? hy
          simp only [List.mem_cons, List.not_mem_nil, or_false] at mem
          have num : ∀ j : Int, j.natAbs ≤ 10 ^ 50 + (m + 1) → Q (.int j) HF := fun j h => q _ _ _ gG (.int j) (bB_int h)
          rcases mem with rfl | rfl | rfl | rfl | rfl | rfl | rfl | rfl | rfl | rfl | rfl
          · exact num _ (by omega)
          · exact num _ (by omega)
          · exact q _ _ _ gG (.bl _) rfl
          · exact num _ (by simp)
          · exact num _ (by simp; omega)
          · exact num _ (Nat.le_trans (show ((10 : Int) ^ (9 : Int).toNat).natAbs ≤ 10 ^ 50 by decide) (by omega))
          · exact num _ (Nat.le_trans (show ((10 : Int) ^ (9 : Int).toNat + 1).natAbs ≤ 10 ^ 50 by decide) (by omega))
          · obtain ⟨l, e1, e2, e3⟩ := strV_ok hi1 hi60
            rw [e1]
            exact q _ _ _ gG (.str _) (bB_str e2 (by omega))
          · refine q _ (.tuple [d]) _ gG (.tup (o5.kp kE) (.cons (hx5.to kE) .nil)) (bB_row (m := m) ?_ (by omega) (by simp))
            rw [List.all_cons, hb]
            rfl
          · exact q _ _ _ gG (.bl _) rfl
          · exact num _ (by omega)
        · try unfold tNext
          try dsimp only
          refine testIf (fun b H' => H2 = H' ∧ (b = true → isS d = true)) (fun Q' hQ' => ?_) ?_
          · have hu := hx2.to hd_up
            refine ⟨_, rfl, x, .ty "str", _, _, _, rfl, .ty "str", hu.tyx, isi_S d, _, rfl, ite2 (fun hi => ?_) (fun _ => hQ' _ _ ⟨rfl, fun z => by cases z⟩)⟩
            exact ⟨_, rfl, _, _, rfl, rfl, _, rfl, hQ' _ _ ⟨rfl, fun _ => hi⟩⟩
          rintro b4 _ ⟨rfl, hb4⟩
          refine ite2 (fun h => ?_) (fun _ => ?_)
          · have hS := hb4 h
            cases hx2 with
            | str x =>
              obtain ⟨l, rfl, hl1, hl2⟩ := bB_strE hb
              have zl : (S l).length ≤ sizeLine := sz (by rw [S_len]; omega)
              refine ⟨_, rfl, _, rfl, S l, rfl, zl, _, _, rfl, rfl, p, c, _, rfl, dk2, by rw [S_len]; omega, by rw [S_len]; omega, fun i H3 hi g3 => ?_⟩
              rw [S_len] at hi
              have hi : i ≤ l.length := by omega
              have hD3 := Has.gx dk2 g3 hD2
              have g3 := g2.trans g3
              refine ⟨_, rfl, sz (by show 9 ≤ 16000000; decide), fun L hL => ?_⟩
              have sL := same_new (o := .lst [.str (Str.ofString " "), .str (Str.ofString "0"), .str (Str.ofString "1"), .str (Str.ofString ","), .str (Str.ofString ":"), .str (Str.ofString "a"), .str (Str.ofString "\n"), .str (Str.ofString "A"), .str (Str.ofString "2")]) hL
              refine ⟨p, c, .ref L, rfl, g3.2.same sL, .inl ⟨L, _, rfl, At.new g3.2 hL, (by show 1 ≤ 9; decide), (by show 9 ≤ 100000; decide), fun z y H4 hy g4 => ?_⟩⟩
              have hD4 := Has.gx (g3.2.same sL) g4 (Has.gx g3.2 (Gx.same g3.2 sL) hD3)
              have g4 := (g3.trans (Gx.same g3.2 sL)).trans g4
              obtain ⟨sg, rfl, hg1, hg2⟩ : ∃ sg, y = .str (S sg) ∧ sg.all (· < 128) = true ∧ sg.length ≤ 1 := by
                match z, hy with
                | 0, hy => exact ⟨[32], by rw [← Option.some.inj hy]; decide +kernel, by decide, by decide⟩
                | 1, hy => exact ⟨[48], by rw [← Option.some.inj hy]; decide +kernel, by decide, by decide⟩
                | 2, hy => exact ⟨[49], by rw [← Option.some.inj hy]; decide +kernel, by decide, by decide⟩
                | 3, hy => exact ⟨[44], by rw [← Option.some.inj hy]; decide +kernel, by decide, by decide⟩
                | 4, hy => exact ⟨[58], by rw [← Option.some.inj hy]; decide +kernel, by decide, by decide⟩
                | 5, hy => exact ⟨[97], by rw [← Option.some.inj hy]; decide +kernel, by decide, by decide⟩
                | 6, hy => exact ⟨[10], by rw [← Option.some.inj hy]; decide +kernel, by decide, by decide⟩
                | 7, hy => exact ⟨[65], by rw [← Option.some.inj hy]; decide +kernel, by decide, by decide⟩
                | 8, hy => exact ⟨[50], by rw [← Option.some.inj hy]; decide +kernel, by decide, by decide⟩
                | z + 9, hy => cases hy
              clear hy sL hL
              have f1 : (cutS (S l) none (some (i : Int))).length + (S sg).length ≤ sizeLine := by
                rw [cut_to, S_len, S_len]
                exact sz (by rw [List.length_take]; omega)
              have f2 : (cutS (S l) none (some (i : Int)) ++ S sg).length + (cutS (S l) (some (i : Int)) none).length ≤ sizeLine := by
                rw [cut_to, cut_fromS, S_cat, S_len, S_len]
                exact sz (by rw [List.length_append, List.length_take, List.length_drop]; omega)
              have f3 : (cutS (S l) none (some (i : Int))).length + (cutS (S l) (some ((i : Int) + 1)) none).length ≤ sizeLine := by
                rw [show ((i : Int) + 1) = ((i + 1 : Nat) : Int) by omega, cut_to, cut_fromS, S_len, S_len]
                exact sz (by rw [List.length_take, List.length_drop]; omega)
              have f4 : (cutS (S l) none (some (i : Int)) ++ S sg).length + (cutS (S l) (some ((i : Int) + 1)) none).length ≤ sizeLine := by
                rw [show ((i : Int) + 1) = ((i + 1 : Nat) : Int) by omega, cut_to, cut_fromS, S_cat, S_len, S_len]
                exact sz (by rw [List.length_append, List.length_take, List.length_drop]; omega)
              refine ⟨_, rfl, _, rfl, _, rfl, S l, rfl, zl, _, rfl, _, _, rfl, rfl, f1, _, rfl, _, rfl, _, rfl, S l, rfl, zl, _, _, rfl, rfl, f2, ?_⟩
              refine ⟨_, rfl, _, rfl, _, rfl, S l, rfl, zl, _, rfl, _, rfl, _, _, rfl, rfl, _, rfl, S l, rfl, zl, _, _, rfl, rfl, f3, ?_⟩
              refine ⟨_, rfl, _, rfl, _, rfl, S l, rfl, zl, _, rfl, _, _, rfl, rfl, f1, _, rfl, _, rfl, _, _, rfl, rfl, _, rfl, S l, rfl, zl, _, _, rfl, rfl, f4, ?_⟩
              refine ⟨_, rfl, _, rfl, _, rfl, S l, rfl, zl, sz (by show 4 ≤ 16000000; decide), fun L1 hL1 => ?_⟩
              have el : ([.str (cutS (S l) none (some (i : Int)) ++ S sg ++ cutS (S l) (some (i : Int)) none), .str (cutS (S l) none (some (i : Int)) ++ cutS (S l) (some ((i : Int) + 1)) none), .str (cutS (S l) none (some (i : Int)) ++ S sg ++ cutS (S l) (some ((i : Int) + 1)) none), .str (cutS (S l) none (some (i : Int)))] : List V) = [.str (S ((l.take i ++ sg) ++ l.drop i)), .str (S (l.take i ++ l.drop (i + 1))), .str (S ((l.take i ++ sg) ++ l.drop (i + 1))), .str (S (l.take i))] := by
                rw [show ((i : Int) + 1) = ((i + 1 : Nat) : Int) by omega, cut_to, cut_fromS, cut_fromS, S_cat, S_cat, S_cat, S_cat]
              rw [el]
              have s5 := same_new (o := .lst [.str (S ((l.take i ++ sg) ++ l.drop i)), .str (S (l.take i ++ l.drop (i + 1))), .str (S ((l.take i ++ sg) ++ l.drop (i + 1))), .str (S (l.take i))]) hL1
              have o5 : upd H4 L1 (.lst [.str (S ((l.take i ++ sg) ++ l.drop i)), .str (S (l.take i ++ l.drop (i + 1))), .str (S ((l.take i ++ sg) ++ l.drop (i + 1))), .str (S (l.take i))]) L1 = _ := upd_same
              have g5 := g4.trans (Gx.same g4.2 s5)
              have hD5 := Has.gx g4.2 (Gx.same g4.2 s5) hD4
              generalize upd H4 L1 (.lst [.str (S ((l.take i ++ sg) ++ l.drop i)), .str (S (l.take i ++ l.drop (i + 1))), .str (S ((l.take i ++ sg) ++ l.drop (i + 1))), .str (S (l.take i))]) = H5 at s5 o5 g5 hD5 ⊢
              have ll : (S l).length + (S l).length ≤ sizeLine := sz (by rw [S_len]; omega)
              refine ⟨_, rfl, _, rfl, _, rfl, _, rfl, _, _, rfl, rfl, ll, _, rfl, ⟨_, rfl⟩, S l, rfl, rfl, by rw [S_len]; omega, _, rfl, sz (by show 1 ≤ 16000000; decide), fun L2 hL2 => ?_⟩
              have s6 := same_new (o := .lst [.str (S l)]) hL2
              have o6 := Ax.new (o := .lst [.str (S l)]) g5.2 hD5 hL2
              have g6 := g5.trans (Gx.same g5.2 s6)
              have hD6 := Has.gx g5.2 (Gx.same g5.2 s6) hD5
              have o56 := s6 _ _ o5
              generalize upd H5 L2 (.lst [.str (S l)]) = H6 at s6 o6 g6 hD6 o56 ⊢
              refine ⟨sz (by show 3 ≤ 16000000; decide), fun L3 hL3 => ?_⟩
              have s7 := same_new (o := .lst [.str (S l ++ S l), .str (Txt.upper (S l)), .ref L2]) hL3
              have o7 : upd H6 L3 (.lst [.str (S l ++ S l), .str (Txt.upper (S l)), .ref L2]) L3 = some (.lst [.str (S l ++ S l), .str (Txt.upper (S l)), .ref L2]) := upd_same
              have g7 := g6.trans (Gx.same g6.2 s7)
              have hD7 := Has.gx g6.2 (Gx.same g6.2 s7) hD6
              have o57 := s7 _ _ o56
              have o67 := o6.kp (hd_kp (.same s7))
              generalize upd H6 L3 (.lst [.str (S l ++ S l), .str (Txt.upper (S l)), .ref L2]) = H7 at s7 o7 g7 hD7 o57 o67 ⊢
              refine ⟨L1, L3, _, _, rfl, rfl, o57, o7, sz (by show 7 ≤ 16000000; decide), fun L4 hL4 => ?_⟩
              have sE := same_new (o := .lst ([.str (S ((l.take i ++ sg) ++ l.drop i)), .str (S (l.take i ++ l.drop (i + 1))), .str (S ((l.take i ++ sg) ++ l.drop (i + 1))), .str (S (l.take i))] ++ [.str (S l ++ S l), .str (Txt.upper (S l)), .ref L2])) hL4
              refine ⟨p, c, .ref L4, rfl, g7.2.same sE, .inl ⟨L4, _, rfl, At.new g7.2 hL4, (by show 1 ≤ 7; decide), (by show 7 ≤ 100000; decide), fun z y HF hy gF => ?_⟩⟩
              have gG := (g7.trans (Gx.same g7.2 sE)).trans gF
              have kE : Kp p c (hd1 D H7) (hd1 D HF) := (hd_kp (.same sE)).trans (hd_kp gF.kp)
              have mem := List.mem_of_getElem? hy
              simp only [List.cons_append, List.nil_append, List.mem_cons, List.not_mem_nil, or_false] at mem
              have txt : ∀ z : List Nat, z.all (· < 128) = true → z.length ≤ sl (m + 1) → Q (.str (S z)) HF := fun z h1 h2 => q _ _ _ gG (.str _) (bB_str h1 h2)
              have at1 := allB_take hl1 i
              have ad1 : ∀ j, (l.drop j).all (· < 128) = true := fun j => List.all_eq_true.mpr fun c hc => List.all_eq_true.mp hl1 c (List.mem_of_mem_drop hc)
              rcases mem with rfl | rfl | rfl | rfl | rfl | rfl | rfl
              · exact txt _ (by rw [List.all_append, List.all_append, at1, hg1, ad1]; rfl) (by rw [List.length_append, List.length_append, List.length_take, List.length_drop]; omega)
              · exact txt _ (by rw [List.all_append, at1, ad1]; rfl) (by rw [List.length_append, List.length_take, List.length_drop]; omega)
              · exact txt _ (by rw [List.all_append, List.all_append, at1, hg1, ad1]; rfl) (by rw [List.length_append, List.length_append, List.length_take, List.length_drop]; omega)
              · exact txt _ at1 (by rw [List.length_take]; omega)
              · rw [S_cat]
                exact txt _ (by rw [List.all_append, hl1]; rfl) (by rw [List.length_append]; omega)
              · rw [up_S hl1]
                exact txt _ (up_asc hl1) (by rw [List.length_map]; omega)
              · exact q _ (.list [.str (S l)]) _ gG (.lst (o67.kp kE) (.cons (.str _) .nil)) rfl
            | _ => simp [isS] at hS
          · try unfold tNext
            try dsimp only
            refine ⟨_, rfl, p, c, 1, rfl, dk2, Nat.le_refl 1, fun v dv H5 g5 hv hr => q _ dv _ (g2.trans g5) (hv.to fun b u _ _ e => ?_) (bB_mono (by omega) _ hr)⟩
            obtain ⟨e1, e2⟩ := nw_some e
            exact hd1_of (fun z => hD2 (z ▸ e1)) e2
end
end Ag

end
/-! ## SetI -/
section
set_option linter.all false
set_option maxRecDepth 100000
namespace Ag
open PySem PySem.Spec PyProof.Rows L2
/-! ### set(xs) of a list or a tuple of ints, its length -/
section
variable {P : Program} {w : World} {A : Around} {E : Value → Shared → Prop} {s : Shared}
/-- a set's object as it is made -/
abbrev nilSetI (w : World) : Obj := { cls := .type "set", dict := none, data := .set #[] 0 (.fresh 0 0 (!w.params.followText "set-order")) }
set_option maxHeartbeats 3200000 in
theorem set_lstI {l : Addr} {its : Array Value} (ns : List Int) {Q : Value → Shared → Prop} (hh : A.handled = none) (hl : s.heap.IsList l its) (hit : IntsAre its.toList ns) (hb : ns.length + 1 < scanBound)
    (fin : ∀ (h' : Heap) (tk c : Nat), SetR w h' s.heap.objs.size (fun j => decide (j ∈ ns)) c → c ≤ ns.length → (∀ b o, s.heap.get? b = some o → h'.get? b = some o) → Q (.ref s.heap.objs.size) { s with heap := h', toks := tk }) :
    wpAny (model P w) A (call (.type "set") [.ref l]) Q E s := by
  have esz : its.size = ns.length := by
    have q := IntsAre.length hit
    rwa [Array.length_toList] at q
  obtain ⟨cc, tl, m0⟩ := F.called_set.mro
  have m1 := F.called_set.made
  have m2 := F.called_set.sub
  refine wpAny_call (codeAny_of_tree (show wpAny _ _ (callAny (.type "set") _) _ _ _ from wpAny_pure ⟨Code.quiet_builtin _ (by decide +kernel), codeAny_builtin F.entry_type_call ?_⟩))
  rw [Around.under_plain (weight_type_call_type "set" [.ref l] []) rfl]
  have m3 := F.called_set.notType
  have m4 := F.called_set.canCreate
  have m5 := F.typeCall_set_1 (.ref l)
  repeat (any_goals (first | assumption | wp_step))
  refine codeAny_mono (code_set_led1 (.ref l) (E := E) (Q₁ := fun ob s1 => ob = .ref s.heap.objs.size ∧ s1 = { s with heap := s.heap.push (nilSetI w) }) ⟨rfl, rfl⟩) fun r s1 hr => ?_
  match r, hr with
  | .error e, hr => exact hr
  | .ok .next, hr => exact hr.elim
  | .ok .brk, hr => exact hr.elim
  | .ok .cont, hr => exact hr.elim
  | .ok (.ret ob), hr =>
    obtain ⟨rfl, rfl⟩ := hr
    have g1 : (s.heap.push (nilSetI w)).get? s.heap.objs.size = some (nilSetI w) := Heap.get?_push_size _ rfl
    have g2 : Shared.TypeIs { s with heap := s.heap.push (nilSetI w) } (.ref s.heap.objs.size) "set" := ⟨_, g1, rfl⟩
    have m6 := F.called_set.init.lookup
    have m7 := F.called_set.init.bind (.ref s.heap.objs.size)
    repeat (any_goals (first | assumption | wp_step))
    refine codeAny_mono (codeAny_call_builtin (R := wants (fun r s2 => r = .none ∧ ∃ h' tk c, s2 = { s with heap := h', toks := tk } ∧ SetR w h' s.heap.objs.size (fun j => decide (j ∈ ns)) c ∧ c ≤ ns.length ∧
        (∀ b o, s.heap.get? b = some o → h'.get? b = some o)) E) F.called_set.init.plain F.entry_set_init (check_set_init_1 g2 ?_)) fun r2 s2 hr2 => ?_
    · obtain ⟨ol, e1, e2, nl, e3⟩ := hl
      obtain ⟨k1, k2, k3, k4⟩ := ol
      simp only at e2 e3
      subst e2 e3
      have g3 : (s.heap.push (nilSetI w)).get? l = some { cls := .type "list", dict := k2, data := .seq its nl, slots := k4 } := Heap.get?_push_of_some _ e1
      have m8 := F.sub_list_set
      have m9 := F.sub_list_frozenset
      have ma : (Value.type "list" == Value.type "dict") = false := by decide
      have hl1 : (s.heap.push (nilSetI w)).IsList l its := ⟨_, g3, rfl, nl, rfl⟩
      unfold Builtin.«set.__init__» noKeywords Builtin.Frozenset.updateFrom
      generalize hPI : pyIter = PI
      wp_walk
      subst hPI
      refine wpAny_pyIter_list hl1 (wpAny_bind (wpAny_runValue ?_))
      have lt := Heap.lt_size e1
      have hh3 : A.in1.in1.in1.handled = none := by simp [hh]
      have nI : l ≠ (s.heap.push (nilSetI w)).objs.size := by
        rw [Heap.size_push]
        exact Nat.ne_of_lt (Nat.lt_succ_of_lt lt)
      have nS : s.heap.objs.size ∉ [(s.heap.push (nilSetI w)).objs.size, l] := by
        rw [Heap.size_push]
        intro z
        rcases List.mem_cons.mp z with z | z
        · exact Nat.ne_of_lt (Nat.lt_succ_self _) z
        · exact Nat.ne_of_gt lt (List.mem_singleton.mp z)
      have vals : ∀ (i : Nat) (v : Value), its[i]? = some v → ∃ k t, ns[i]? = some k ∧ v = .int k t := fun i v hv => by
        have hi : i < ns.length := by rw [← esz]; exact (Array.getElem?_eq_some_iff.mp hv).1
        obtain ⟨t, e⟩ := IntsAre.int_at hit i v (by rw [Array.getElem?_toList]; exact hv)
        exact ⟨ns[i], t, List.getElem?_eq_getElem hi, by rw [e, List.getD_eq_getElem?_getD, List.getElem?_eq_getElem hi] <;> rfl⟩
      refine set_update_ints ((Walks.list hh3 _ l nI its).toS) s.heap.objs.size nS ns esz hb vals (its.size - 0) 0 _ (by omega) (Nat.zero_le _) ⟨⟨_, Heap.get?_push_size _ rfl, rfl, rfl⟩, (hl1.push _)⟩ ?_ ?_
      · exact ⟨0, Nat.le_refl 0, setR_new_at (Heap.get?_push_of_some _ g1)⟩
      · intro s' c' hm hc' hS'
        obtain ⟨h', q1, q2, tk', q3⟩ := s'
        obtain rfl : q1 = s.gens := hm.gens
        obtain rfl : q2 = s.drawn := hm.drawn
        obtain rfl : q3 = s.os := hm.os
        rw [esz] at hc'
        refine show wpAny _ _ _ _ _ _ from wpAny_pure (show wpAny _ _ (ret Value.none) _ _ _ from wpAny_pure ⟨rfl, h', tk', c', rfl, hS', hc', fun b o e => ?_⟩)
        have b0 : b < s.heap.objs.size := Heap.lt_size e
        refine hm.heap b o ?_ (Heap.get?_push_of_some _ (Heap.get?_push_of_some _ e))
        rw [Heap.size_push]
        intro z
        rcases List.mem_cons.mp z with z | z
        · exact Nat.ne_of_lt b0 z
        · exact Nat.ne_of_lt (Nat.lt_succ_of_lt b0) (List.mem_singleton.mp z)
    · match r2, hr2 with
      | .error e, hr2 => exact hr2
      | .ok .next, hr2 => exact hr2.elim
      | .ok .brk, hr2 => exact hr2.elim
      | .ok .cont, hr2 => exact hr2.elim
      | .ok (.ret r), hr2 =>
        obtain ⟨rfl, h', tk, c', rfl, a1, a2, a3⟩ := hr2
        repeat (any_goals (first | assumption | wp_step))
        exact fin _ _ _ a1 a2 a3
end
theorem setR_mem {w : World} {h : Heap} {a : Addr} {F : Int → Bool} {n : Nat} (R : SetR w h a F n) : ∃ L : List Int, L.Nodup ∧ (∀ k, k ∈ L ↔ F k = true) ∧ L.length = n := by
  obtain ⟨o, es, ep, t, _, _, _, _, nd, hk, _, _, hn, _⟩ := R
  exact ⟨es.toList.map keyOf, nd, fun k => (hk k).symm, by rw [List.length_map, Array.length_toList, hn]⟩
section
variable {X : Cx}
def rSetI (K : PySem.W.Frag) (w : World) : List V → Hp → VK → Prop := fun xs H Q => ∃ (l : Addr) (ns : List Int), xs = [.ref l] ∧ (SqL K H l (ns.map V.int) ∨ SqT K H l (ns.map V.int)) ∧ ns.length ≤ 1000 ∧
  ∀ (a : Addr) (L : List Int), H a = none → L.Nodup → (∀ k, k ∈ L ↔ k ∈ ns) → L.length ≤ ns.length → Q (.ref a) (upd H a (SetO w a (fun j => decide (j ∈ ns)) L.length))
theorem cr_setI (hc : X.calm = true) : CallR X (.type "set") (rSetI X.K X.w) := by
  intro pins s σ H xs us Q I r h
  obtain ⟨l, ns, rfl, hs, hz, q⟩ := h
  rw [Vals.ref1 r]
  have hz2 : ns.length + 1 < scanBound := by unfold scanBound; omega
  have done : ∀ (h' : Heap) (tk c : Nat), SetR X.w h' s.heap.objs.size (fun j => decide (j ∈ ns)) c → c ≤ ns.length → (∀ b o, s.heap.get? b = some o → h'.get? b = some o) → EP X pins σ Q (.ref s.heap.objs.size) { s with heap := h', toks := tk } := by
    intro h' tk c R hcn kp
    obtain ⟨L, nd, hm, hl⟩ := setR_mem R
    subst hl
    exact ⟨.ref _, _, I.laid (t' := tk) kp (Nat.le_refl _) (setO_new R), rfl, q _ L (I.hok.fresh (Nat.le_refl _)) nd (fun k => by rw [hm k, decide_eq_true_eq]) hcn⟩
  rcases hs with hs | hs
  · obtain ⟨its, rv, pl, _⟩ := I.list hs
    exact set_lstI ns (I.ok.hd hc) pl.isList (by simpa using ints_of_vals rv) hz2 done
  · obtain ⟨its, rv, pl, _⟩ := I.tuple hs
    exact call_set_tupI ns (I.ok.hd hc) pl (by simpa using ints_of_vals rv) hz2 done
def rLenSet (w : World) : List V → Hp → VK → Prop := fun xs H Q => ∃ (a : Addr) (F : Int → Bool) (n : Nat), xs = [.ref a] ∧ H a = some (SetO w a F n) ∧ n ≤ 1000 ∧ Q (.int (n : Nat)) H
theorem cr_lenSet : CallR X (.builtin "len") (rLenSet X.w) := by
  intro pins s σ H xs us Q I r h
  obtain ⟨a, F, n, rfl, ha, hn, q⟩ := h
  rw [Vals.ref1 r]
  obtain ⟨o, es, ep, t, ho, hex, hd, _, _, _, _, hf, he, _⟩ := setO_get I ha
  exact call_len_set ho hex hd hf (by rw [he]; omega) ⟨.int n, H, I.tok _, ⟨_, by rw [he]⟩, q⟩
end
end Ag

end
/-! ## WordM -/
section
set_option linter.all false
set_option maxRecDepth 100000
namespace Ag
open PySem PySem.Spec PyProof.Rows L2
open SX (S S_len S_cat S_inj)
/-! ### words: one to ten small letters -/
def azC (c : Nat) : Bool := decide (97 ≤ c) && decide (c ≤ 122)
def wordL (l : List Nat) : Bool := (decide (1 ≤ l.length) && decide (l.length ≤ 10)) && l.all azC
theorem alpha128 : ∀ c < 128, Unicode.isAlpha c = ((decide (65 ≤ c) && decide (c ≤ 90)) || azC c) := by decide +kernel
theorem lower128 : ∀ c < 128, Unicode.isLower c = azC c := by decide +kernel
theorem upper128 : ∀ c < 128, (Unicode.isUpper c || Unicode.isTitle c) = (decide (65 ≤ c) && decide (c ≤ 90)) := by decide +kernel
theorem word_of {l : List Nat} (ha : l.all (· < 128) = true) (hne : l ≠ []) : (Txt.isalpha (S l) && Txt.islower (S l)) = l.all azC := by
  have e1 : Txt.isalpha (S l) = l.all Unicode.isAlpha := by
    show (decide ((S l).length > 0) && (S l).cps.all _) = _
    rw [← Array.all_toList, S_len, decide_eq_true (by cases l; exact absurd rfl hne; simp), Bool.true_and]
  have e2 : Txt.islower (S l) = (l.any Unicode.isLower && !l.any fun c => Unicode.isUpper c || Unicode.isTitle c) := by
    show ((S l).cps.any _ && !(S l).cps.any _) = _
    rw [← Array.any_toList, ← Array.any_toList]
  have lt : ∀ c ∈ l, c < 128 := fun c hc => by simpa using List.all_eq_true.mp ha c hc
  rw [e1, e2, Bool.eq_iff_iff]
  simp only [Bool.and_eq_true, List.all_eq_true, List.any_eq_true, Bool.not_eq_true', List.any_eq_false]
  constructor
  · rintro ⟨h1, _, h3⟩ c hc
    have a1 := h1 c hc
    have a3 := h3 c hc
    rw [upper128 c (lt c hc)] at a3
    rw [alpha128 c (lt c hc), Bool.or_eq_true] at a1
    rcases a1 with a1 | a1
    · rw [a1] at a3
      exact absurd rfl a3
    · exact a1
  · intro h
    refine ⟨fun c hc => ?_, ?_, fun c hc => ?_⟩
    · rw [alpha128 c (lt c hc), h c hc, Bool.or_true]
    · cases l with
      | nil => exact absurd rfl hne
      | cons c l => exact ⟨c, List.mem_cons_self, by rw [lower128 c (lt c List.mem_cons_self)]; exact h c List.mem_cons_self⟩
    · rw [upper128 c (lt c hc)]
      have := h c hc
      simp only [azC, Bool.and_eq_true, decide_eq_true_eq] at this
      simp
      omega
end Ag

end
/-! ## Sel -/
section
set_option linter.all false
set_option maxRecDepth 100000
namespace Ag
open PySem PySem.Spec PyProof.Rows L2
/-- a comprehension with a pure test and a pure value at each place, under which things may be made -/
theorem lc_sel {J : It} {n : Nat} {G : Hp → Prop} {Y : Nat → Hp → V → Hp → Prop} (w : Walk J n G Y) {g : TG} {tt : TT} {te : TE} {vs : List Nat} {σ : L2.St} {H1 : Hp} {D : Addr} {Qd : Hp → Prop}
    (t : Nat → Bool) (e : Nat → V) (hn : n ≤ 16000000) (hD : H1 D = none) (hG : ∀ H, Same H1 H → G H)
    (hs : ∀ i x H H' (k : VK) (k0 : Hp → Prop), i < n → Same H1 H → Y i H x H' → (t i = true → ∀ H4, Same H H4 → k (e i) H4) → (t i = false → ∀ H4, Same H H4 → k0 H4) →
      g x (wipe σ vs) H' fun σ2 H2 => wipe σ2 vs = wipe σ vs ∧ tt σ2 H2 fun b H3 => if b = true then te σ2 H3 k else k0 H3)
    (hd : ∀ H, Same H1 H → H D = some (.lst (((List.range n).filter t).map e)) → Qd H) :
    ∃ W : Nat → Nat → Hp → Prop, (∃ m, W 0 m (upd H1 D (.lst []))) ∧ ∀ i m H, W i m H →
      (J.stop i H ∧ Qd H) ∨ (J.go i H ∧ ∃ Nx : Hp → Prop, (∀ H', Nx H' → ∃ m', m' < m ∧ W (i + 1) m' H') ∧ ∀ x H', J.yld i H x H' → g x (wipe σ vs) H' fun σ2 H2 => wipe σ2 vs = wipe σ vs ∧ tt σ2 H2 fun b H3 =>
        if b = true then te σ2 H3 fun y H4 => ∃ acc, H4 D = some (.lst acc) ∧ acc.length < sizeLine ∧ Nx (upd H4 D (.lst (acc ++ [y]))) else Nx H3) := by
  have put : ∀ (H : Hp) (o : HO), Same H1 H → Same H1 (upd H D o) := fun H o s b u eb => by
    rw [upd_ne (ne_of_none eb hD)]
    exact s b u eb
  have step : ∀ i, (List.range (i + 1)).filter t = (List.range i).filter t ++ (if t i = true then [i] else []) := fun i => by
    rw [List.range_succ, List.filter_append]
    cases h : t i <;> simp [h]
  refine lc_it (g := g) (tt := tt) (te := te) (vs := vs) (σ := σ) w (fun i H => Same H1 H ∧ H D = some (.lst (((List.range i).filter t).map e))) ⟨put _ _ (Same.refl _), by simpa using upd_same⟩ (fun i H _ h => hG H h.1) (fun i x H H' hi h hy => ?_) (fun H h => hd H h.1 h.2)
  obtain ⟨s1, h1⟩ := h
  have hl : (((List.range i).filter t).map e).length ≤ i := by
    rw [List.length_map]
    exact Nat.le_trans (List.length_filter_le _ _) (by rw [List.length_range]; exact Nat.le_refl _)
  refine hs i x H H' _ _ hi s1 hy (fun ht H4 s4 => ?_) (fun ht H4 s4 => ?_)
  · refine ⟨_, s4 _ _ h1, by rw [sizeLine_eq]; omega, put _ _ (s1.trans s4), ?_⟩
    rw [upd_same, step, if_pos ht, List.map_append]
    rfl
  · refine ⟨s1.trans s4, ?_⟩
    rw [step, if_neg (by rw [ht]; decide), List.append_nil]
    exact s4 _ _ h1
/-- len of a list or a tuple, where a comprehension's block runs -/
def rLenK (K : PySem.W.Frag) : List V → Hp → VK → Prop := fun xs H Q => ∃ p ys, xs = [.ref p] ∧ (SqL K H p ys ∨ SqT K H p ys) ∧ Q (.int ys.length) H
theorem call_lenK {X : Cx} (K : PySem.W.Frag) (hK : X.K = K) : CallR X (.builtin "len") (rLenK K) := by
  subst hK
  exact call_len_seq
theorem filt_all {n : Nat} (e : Nat → V) : ((List.range n).filter fun _ => true).map e = (List.range n).map e := by rw [List.filter_eq_self.mpr fun _ _ => rfl]
/-- bools by place -/
theorem bls_map {n : Nat} (b : Nat → Bool) : (List.range n).map (fun i => V.bl (b i)) = ((List.range n).map b).map V.bl := by rw [List.map_map]; rfl
theorem all_at {α : Type} (l : List α) (t : α → Bool) (d : α) : ((List.range l.length).map fun i => t (l.getD i d)).all id = l.all t := by
  induction l with
  | nil => rfl
  | cons a l ih =>
    rw [List.length_cons, List.range_succ_eq_map, List.map_cons, List.all_cons, List.map_map, List.all_cons, ← ih]
    rfl
theorem none_at {α : Type} (l : List α) (t : α → Bool) (d : α) : decide (((List.range l.length).filter fun i => !t (l.getD i d)) = []) = l.all t := by
  rw [Bool.eq_iff_iff, decide_eq_true_eq, List.filter_eq_nil_iff, List.all_eq_true]
  constructor
  · intro h a ha
    obtain ⟨i, hi, rfl⟩ := List.mem_iff_getElem.mp ha
    have := h i (List.mem_range.mpr hi)
    rw [List.getD_eq_getElem?_getD, List.getElem?_eq_getElem hi] at this
    simpa using this
  · intro h i hi
    have hi := List.mem_range.mp hi
    rw [List.getD_eq_getElem?_getD, List.getElem?_eq_getElem hi]
    simpa using h _ (List.getElem_mem hi)
theorem eqv_map_nil {α : Type} (l : List α) (e : α → PyData) : PyData.eqv (.list (l.map e)) (.list []) = decide (l = []) := by
  cases l <;> simp [PyData.eqv, PyData.eqvAll]
theorem dp_const {K : PySem.W.Frag} {H : Hp} {α : Type} : ∀ l : List α, DpAll K H (l.map fun _ => V.int 1) (l.map fun _ => PyData.int 1)
  | [] => .nil
  | _ :: l => .cons (.int 1) (dp_const l)
end Ag

end
/-! ## ZP -/
section
set_option linter.all false
set_option maxRecDepth 100000
set_option maxHeartbeats 4000000
namespace Ag
open PySem PySem.Spec PyProof.Rows L2
open SX (S S_len S_cat S_inj)
theorem bB_sOk5 {m : Nat} {d : PyData} (h : bB m d = true) (hm : m ≤ 52) : sOk5 d := by
  rintro x rfl
  have h : (x.cps.toList.all (· < 128) && decide (x.cps.toList.length ≤ sl m)) = true := h
  rw [Bool.and_eq_true, decide_eq_true_eq] at h
  have := sl_le hm
  exact ⟨h.1, by omega⟩
/-! ### words and ascending numbers among data -/
def wordB : PyData → Bool
  | .str x => wordL x.cps.toList
  | _ => false
def ascI : List Int → Bool
  | [] => true
  | a :: l => l.all (fun b => decide (a < b)) && ascI l
def cntB (hi : Int) : PyData → Bool
  | .tuple xs => xs.all (wholeB 1 hi) && ascI (xs.map asInt)
  | _ => false
theorem ascI_iff : ∀ l : List Int, ascI l = true ↔ l.Pairwise (· < ·)
  | [] => by simp [ascI]
  | a :: l => by
    rw [ascI, Bool.and_eq_true, ascI_iff l, List.pairwise_cons, List.all_eq_true]
    simp
theorem asc_uniq : ∀ {l k : List Int}, l.Pairwise (· < ·) → k.Pairwise (· < ·) → (∀ x, x ∈ l ↔ x ∈ k) → l = k
  | [], [], _, _, _ => rfl
  | [], b :: k, _, _, h => absurd ((h b).mpr List.mem_cons_self) (by simp)
  | a :: l, [], _, _, h => absurd ((h a).mp List.mem_cons_self) (by simp)
  | a :: l, b :: k, hl, hk, h => by
    rw [List.pairwise_cons] at hl hk
    have hab : a = b := by
      have h1 := (h a).mp List.mem_cons_self
      have h2 := (h b).mpr List.mem_cons_self
      rcases List.mem_cons.mp h1 with e | e
      · exact e
      · rcases List.mem_cons.mp h2 with e2 | e2
        · exact e2.symm
        · have := hk.1 a e
          have := hl.1 b e2
          omega
    subst hab
    congr 1
    refine asc_uniq hl.2 hk.2 fun x => ⟨fun hx => ?_, fun hx => ?_⟩
    · rcases List.mem_cons.mp ((h x).mp (List.mem_cons_of_mem _ hx)) with e | e
      · have := hl.1 x hx
        omega
      · exact e
    · rcases List.mem_cons.mp ((h x).mpr (List.mem_cons_of_mem _ hx)) with e | e
      · have := hk.1 x hx
        omega
      · exact e
theorem eqv_ints : ∀ a b : List Int, PyData.eqvAll (a.map PyData.int) (b.map PyData.int) = decide (a = b)
  | [], [] => by simp [PyData.eqvAll]
  | [], _ :: _ => by simp [PyData.eqvAll]
  | _ :: _, [] => by simp [PyData.eqvAll]
  | x :: a, y :: b => by
    simp only [List.map_cons, PyData.eqvAll, PyData.eqv, eqv_ints a b]
    rw [Bool.eq_iff_iff]
    simp
/-- a tuple's items that are all ints -/
theorem ints_of_D {K : PySem.W.Frag} {p c : Addr} {H : Hp} {lo hi : Int} : ∀ {vs : List V} {ds : List PyData}, DoA K p c H vs ds → ds.all (wholeB lo hi) = true → vs = (ds.map asInt).map V.int
  | [], [], _, _ => rfl
  | v :: vs, d :: ds, .cons h t, e => by
    rw [List.all_cons, Bool.and_eq_true] at e
    rw [List.map_cons, List.map_cons, ← ints_of_D t e.2]
    cases h with
    | int i => rfl
    | _ => exact absurd e.1 (by simp [wholeB])
theorem dpIntsG {K : PySem.W.Frag} {H : Hp} : ∀ cs : List Int, DpAll K H (cs.map V.int) (cs.map PyData.int)
  | [] => .nil
  | c :: cs => .cons (.int c) (dpIntsG cs)
theorem azS : (Str.ofString "abcdefghijklmnopqrstuvwxyz").cps.toList = (List.range 26).map (· + 97) := by decide +kernel
theorem mem_az {c : Nat} : decide (c ∈ (Str.ofString "abcdefghijklmnopqrstuvwxyz").cps.toList) = azC c := by
  rw [azS, Bool.eq_iff_iff, decide_eq_true_eq]
  unfold azC
  simp
  constructor
  · rintro ⟨a, h, rfl⟩
    omega
  · intro h
    exact ⟨c - 97, by omega, by omega⟩
theorem map_const {α : Type} (l : List α) : (l.map fun _ => (1 : Int)).map V.int = l.map fun _ => V.int 1 := by rw [List.map_map]; rfl
section
variable {P : Program} {w : World} {K : PySem.W.Frag} {mg : Str → Option Value} {base : Heap} {tm tn tb : Tok}
def spCntD (K : PySem.W.Frag) : Sp := fun vs H Q _ => ∃ p c v d m, vs = [v, .int m] ∧ Do K p c H v d ∧ bB 52 d = true ∧ ∀ H', Same H H' → Q (.bl (cntB m d)) H'
theorem ok_cnt_D (hset : mg "set" = none) {f f1 : Addr} {fd fd1 : FuncData} (F : Fn K mg "are_counted" s_are_counted ["thing", "most"] f fd) (B : Con mg tm tn tb) (F_is_between : Fn K mg "is_between" s_is_between ["thing", "least", "most"] f1 fd1) (G_is_between : FnOk P w K mg base CX0 2 f1 fd1 ["thing", "least", "most"] (spBtwD K)) : FnOk P w K mg base CX0 3 f fd ["thing", "most"] (spCntD K) := by
  refine F.F.ok sc_are_counted (fun vs H Q E h => ?_) (fun cdv A outer s H vs Q E hr h => ?_)
  · obtain ⟨p, c, x, d, m, rfl, _⟩ := h
    rfl
  · obtain ⟨p, c, x, d, m, rfl, hd, hg, q⟩ := h
    refine ⟨_, (pss_cons (ps_if (PW.pt (pw_or (pt_not (pt_val (pe_callB call_isi (by rfl) B.n_isinstance (by decide +kernel) (pa_cons (pv 0) (pa_cons (pe_bltn (v := .ty "tuple") (by rfl) B.n_tuple (by decide +kernel) rfl) pa_nil))))) (pw_or1 (pt_not (pt_val (pe_callB (cr_all rfl) (by rfl) B.n_all (by decide +kernel) (pa_cons (pe_lc (own := [("number", 2)]) rfl sc_are_counted.nd (pi_tup (pv 0)) (blkOk_by (N := N_are_counted) (sc := defScope s_are_counted) (by decide +kernel)) (fun _ _ _ _ _ => (pg_name (i := 2) sc_are_counted.nd rfl (Or.inl rfl))) (fun _ _ _ _ _ => pts_nil) (fun _ _ _ _ _ => (pe_call G_is_between (hr.mono (by decide)) (by rfl) F_is_between.g F_is_between.F.kp F_is_between.b .nil pass0 (pa_cons (pv 2) (pa_cons pe_int (pa_cons (pv 1) pa_nil)))))) pa_nil)))))))
      (pss_one (ps_ret pe_bl))
      pss_nil)
      (pss_one (ps_ret (pe_cmpR (op_eqD hr.units) (pe_callTy call_list_of (by rfl) B.n_list (by decide +kernel) (pa_cons (pv 0) pa_nil)) (pe_callB (cr_sortedSet rfl) (by rfl) B.n_sorted (by decide +kernel) (pa_cons (pe_callTy (cr_setI rfl) (by rfl) hset (by decide +kernel) (pa_cons (pv 0) pa_nil)) pa_nil)) (nomark _))))), ?_⟩
    refine ⟨_, rfl, x, .ty "tuple", _, _, _, rfl, .ty "tuple", hd.tyx, hd.kT, _, rfl, ?_⟩
    cases hd with
    | tup ha hA =>
      rename_i a xs ds
      rw [bB_tup, Bool.and_eq_true, decide_eq_true_eq] at hg
      have hl := hg.1
      have hxl : xs.length ≤ 60 := by rw [hA.len]; omega
      refine iteF ?_
      refine ⟨_, rfl, a, rfl, ⟨_, SqT.of ha.2.2⟩, fun D hD => ?_⟩
      refine lc_sel (walk_tup (K := K) (a := a) (xs := xs)) (fun _ => true) (fun i => .bl (wholeB 1 m (ds.getD i .none))) (by omega) hD (fun H' s => SqT.of (s _ _ ha.2.2)) ?_ ?_
      · rintro i y H1 H2 k k0 hi s1 ⟨rfl, hy⟩ hk _
        obtain ⟨d, hdi, hdg⟩ := hA.at_ hy
        have hk := hk rfl H2 (Same.refl _)
        rw [List.getD_eq_getElem?_getD, hdi] at hk
        have hk : k (.bl (wholeB 1 m d)) H2 := hk
        have hdg := hdg.to (.same s1)
        exact ⟨rfl, _, rfl, _, rfl, p, c, y, d, 1, m, rfl, hdg, hk⟩
      · intro H1 s1 h1
        rw [filt_all, bls_map] at h1
        refine ⟨D, _, rfl, SqL.of h1, _, rfl, ?_⟩
        have e : ((List.range xs.length).map fun i => wholeB 1 m (ds.getD i .none)).all id = ds.all (wholeB 1 m) := by
          rw [hA.len]
          exact all_at ds (wholeB 1 m) .none
        rw [e]
        have q : ∀ H', Same H H' → Q (.bl (ds.all (wholeB 1 m) && ascI (ds.map asInt))) H' := q
        cases hall : ds.all (wholeB 1 m) with
        | false =>
          rw [hall, Bool.false_and] at q
          exact iteT (q _ s1)
        | true =>
          rw [hall, Bool.true_and] at q
          refine iteF ?_
          have hxs := ints_of_D hA hall
          generalize ds.map asInt = ns at hxs q
          subst hxs
          rw [List.length_map] at hxl
          refine ⟨_, rfl, a, _, rfl, .inr (SqT.of (s1 _ _ ha.2.2)), fun l hl => ?_⟩
          have s2 := s1.trans (same_new (o := .lst (ns.map V.int)) hl)
          refine ⟨_, rfl, a, ns, rfl, .inr (SqT.of (s2 _ _ ha.2.2)), by omega, fun st L hst nd hm hll => ?_⟩
          have nls : l ≠ st := ne_of_none (H := upd H1 l (.lst (ns.map V.int))) upd_same hst
          refine ⟨st, _, _, rfl, upd_same, by omega, fun ns' r hpw hmem hlen hr => ?_⟩
          have nsr : st ≠ r := ne_of_none upd_same hr
          have nlr : l ≠ r := ne_of_none (by rw [upd_ne nls]; exact upd_same) hr
          refine ⟨.list (ns.map .int), .list (ns'.map .int), .lst (SqL.of (by rw [upd_ne nlr, upd_ne nls, upd_same])) (dpIntsG _), .lst (SqL.of upd_same) (dpIntsG _), shaped_ints _, shaped_ints _, ?_⟩
          have e2 : PyData.eqv (.list (ns.map .int)) (.list (ns'.map .int)) = ascI ns := by
            rw [PyData.eqv, eqv_ints, Bool.eq_iff_iff, decide_eq_true_eq, ascI_iff]
            constructor
            · rintro rfl
              exact hpw
            · intro h
              exact asc_uniq h hpw fun k => by rw [hmem k, decide_eq_true_eq]
          rw [e2]
          exact q _ ((s2.trans (same_new hst)).trans (same_new hr))
    | _ => exact iteT (iteT (q _ (Same.refl _)))
def spWordD (K : PySem.W.Frag) : Sp := fun vs H Q _ => ∃ p c v d, vs = [v] ∧ Do K p c H v d ∧ sOk d ∧ Q (.bl (wordB d)) H
theorem ok_word_D {tw : Tok} {f : Addr} {fd : FuncData} (F : Fn K mg "is_word" s_is_word ["thing"] f fd) (B : Con mg tm tn tb) (hw : mg "WORD_MOST" = some (.int 10 tw)) : FnOk P w K mg base CX0 1 f fd ["thing"] (spWordD K) := by
  refine F.F.ok sc_is_word (fun vs H Q E h => ?_) (fun cdv A outer s H vs Q E hr h => ?_)
  · obtain ⟨p, c, x, d, rfl, _⟩ := h
    rfl
  · obtain ⟨p, c, x, d, rfl, hd, hs, q⟩ := h
    refine ⟨_, (pss_cons (ps_if (PW.pt (pw_or (pt_not (pt_val (pe_callB call_isi (by rfl) B.n_isinstance (by decide +kernel) (pa_cons (pv 0) (pa_cons (pe_bltn (v := .ty "str") (by rfl) B.n_str (by decide +kernel) rfl) pa_nil))))) (pw_or1 (pt_not (pt_chain op_le op_le pe_int (pe_callB call_len_str (by rfl) B.n_len PySem.boot_len (pa_cons (pv 0) pa_nil)) (pe_glob (v := .int 10) rfl hw ⟨_, rfl⟩))))))
      (pss_one (ps_ret pe_bl))
      pss_nil)
      (pss_one (ps_ret (pe_and (pe_m0 PySem.F.slot_str_isascii PySem.F.type_str_isascii mt_isascii (pv 0)) (pe_and (pe_m0 PySem.F.slot_str_isalpha PySem.F.type_str_isalpha mt_isalpha (pv 0)) (pe_one (pe_m0 PySem.F.slot_str_islower PySem.F.type_str_islower mt_islower (pv 0)))))))), ?_⟩
    refine ⟨_, rfl, x, .ty "str", _, _, _, rfl, .ty "str", hd.tyx, hd.kS, _, rfl, ?_⟩
    cases hd with
    | str x =>
      obtain ⟨h1, h2⟩ := hs x rfl
      have hx : x = S x.cps.toList := rfl
      clear hs
      simp only [wordB] at q
      generalize x.cps.toList = l at h1 h2 hx q
      subst hx
      refine iteF ?_
      refine ⟨_, rfl, S l, rfl, sz (by rw [S_len]; omega), _, _, rfl, rfl, _, rfl, ?_⟩
      rw [S_len]
      unfold wordL at q
      have e1 : decide ((1 : Int) ≤ (l.length : Int)) = decide (1 ≤ l.length) := by
        rw [Bool.eq_iff_iff, decide_eq_true_eq, decide_eq_true_eq]
        omega
      have e2 : decide ((l.length : Int) ≤ 10) = decide (l.length ≤ 10) := by
        rw [Bool.eq_iff_iff, decide_eq_true_eq, decide_eq_true_eq]
        omega
      rw [e1]
      cases h3 : decide (1 ≤ l.length) with
      | false =>
        rw [h3, Bool.false_and, Bool.false_and] at q
        exact iteF ⟨_, rfl, iteT q⟩
      | true =>
        rw [h3, Bool.true_and] at q
        refine iteT ⟨_, _, rfl, rfl, _, rfl, ?_⟩
        refine (show (if (!decide (((l.length : Nat) : Int) ≤ 10)) = true then _ else _) from ?_)
        rw [e2]
        cases h4 : decide (l.length ≤ 10) with
        | false =>
          rw [h4, Bool.false_and] at q
          exact iteT q
        | true =>
          rw [h4, Bool.true_and] at q
          refine iteF ?_
          have hne : l ≠ [] := by
            rintro rfl
            cases h3
          have wo := word_of h1 hne
          refine ⟨.str (S l), rfl, ⟨_, rfl⟩, S l, rfl, rfl, trivial, _, rfl, ?_⟩
          rw [ascii_S, h1]
          refine iteT ⟨.str (S l), rfl, ⟨_, rfl⟩, S l, rfl, rfl, trivial, _, rfl, ?_⟩
          rw [← wo] at q
          cases h5 : Txt.isalpha (S l) with
          | false =>
            rw [h5, Bool.false_and] at q
            exact iteF q
          | true =>
            rw [h5, Bool.true_and] at q
            exact iteT ⟨.str (S l), rfl, ⟨_, rfl⟩, S l, rfl, rfl, trivial, q⟩
    | _ => exact iteT q
def spWordS (K : PySem.W.Frag) : Sp := fun vs H Q _ => ∃ p c v d, vs = [v] ∧ Do K p c H v d ∧ sOk d ∧ ∀ H', Same H H' → Q (.bl (wordB d)) H'
theorem ok_lword_D {f : Addr} {fd : FuncData} (F : Fn K mg "_law_is_word" s__law_is_word ["_law_thing"] f fd) (B : Con mg tm tn tb) : FnOk P w K mg base CX0 1 f fd ["_law_thing"] (spWordS K) := by
  refine F.F.ok sc__law_is_word (fun vs H Q E h => ?_) (fun cdv A outer s H vs Q E hr h => ?_)
  · obtain ⟨p, c, x, d, rfl, _⟩ := h
    rfl
  · obtain ⟨p, c, x, d, rfl, hd, hs, q⟩ := h
    refine ⟨_, (pss_cons (ps_if (PW.pt (pw_or (pt_not (pt_val (pe_callB call_isi (by rfl) B.n_isinstance (by decide +kernel) (pa_cons (pv 0) (pa_cons (pe_bltn (v := .ty "str") (by rfl) B.n_str (by decide +kernel) rfl) pa_nil))))) (pw_or1 (pt_not (pt_chain op_le op_le pe_int (pe_callB call_len_str (by rfl) B.n_len PySem.boot_len (pa_cons (pv 0) pa_nil)) pe_int)))))
      (pss_one (ps_ret pe_bl))
      pss_nil)
      (pss_one (ps_ret (pe_cmpR (op_eqD hr.units) (pe_lc (own := [("_law_letter", 1)]) rfl sc__law_is_word.nd (pi_str (pv 0)) (blkOk_by (N := N__law_is_word) (sc := defScope s__law_is_word) (by decide +kernel)) (fun _ _ _ _ _ => (pg_name (i := 1) sc__law_is_word.nd rfl (Or.inl rfl))) (fun _ _ _ _ _ => (pts_one (pt_cmpR op_notIn_sign (pv 1) pe_str rfl))) (fun _ _ _ _ _ => (pv 1))) (pe_lst pa_nil) (nomark _))))), ?_⟩
    refine ⟨_, rfl, x, .ty "str", _, _, _, rfl, .ty "str", hd.tyx, hd.kS, _, rfl, ?_⟩
    cases hd with
    | str x =>
      obtain ⟨h1, h2⟩ := hs x rfl
      have hx : x = S x.cps.toList := rfl
      clear hs
      simp only [wordB] at q
      generalize x.cps.toList = l at h1 h2 hx q
      subst hx
      have al : asc l := fun c hc => by
        have := List.all_eq_true.mp h1 c hc
        simpa using this
      refine iteF ?_
      refine ⟨.str (S l), rfl, S l, rfl, sz (by rw [S_len]; omega), _, _, rfl, rfl, _, rfl, ?_⟩
      rw [S_len]
      unfold wordL at q
      have e1 : decide ((1 : Int) ≤ (l.length : Int)) = decide (1 ≤ l.length) := by
        rw [Bool.eq_iff_iff, decide_eq_true_eq, decide_eq_true_eq]
        omega
      have e2 : decide ((l.length : Int) ≤ 10) = decide (l.length ≤ 10) := by
        rw [Bool.eq_iff_iff, decide_eq_true_eq, decide_eq_true_eq]
        omega
      rw [e1]
      cases h3 : decide (1 ≤ l.length) with
      | false =>
        rw [h3, Bool.false_and, Bool.false_and] at q
        exact iteF ⟨_, rfl, iteT (q _ (Same.refl _))⟩
      | true =>
        rw [h3, Bool.true_and] at q
        refine iteT ⟨_, _, rfl, rfl, _, rfl, ?_⟩
        refine (show (if (!decide (((l.length : Nat) : Int) ≤ 10)) = true then _ else _) from ?_)
        rw [e2]
        cases h4 : decide (l.length ≤ 10) with
        | false =>
          rw [h4, Bool.false_and] at q
          exact iteT (q _ (Same.refl _))
        | true =>
          rw [h4, Bool.true_and] at q
          refine iteF ⟨_, rfl, S l, rfl, fun D hD => ?_⟩
          refine lc_flt (fun c => !azC c) (by omega) (fun c H' k k0 h1 h2 => ?_) ?_
          · refine ⟨rfl, _, rfl, c, _, rfl, rfl, _, rfl, ?_⟩
            rw [mem_az]
            cases ha : azC c with
            | false => exact iteT ⟨_, rfl, h1 (by rw [ha]; rfl)⟩
            | true => exact iteF (h2 (by rw [ha]; rfl))
          · refine ⟨Nat.zero_le _, fun t ht => ?_⟩
            have nD : D ≠ t := ne_of_none (H := upd H D (.lst (chars (l.filter fun c => !azC c)))) upd_same ht
            have af : asc (l.filter fun c => !azC c) := fun c hc => al c ((List.mem_filter.mp hc).1)
            refine ⟨.list (dChars (l.filter fun c => !azC c)), .list [], .lst (SqL.of (by rw [upd_ne nD, upd_same])) (dpChars _), .lst (SqL.of upd_same) .nil, shaped_chars af, shaped_ints [], ?_⟩
            have e : decide ((l.filter fun c => !azC c) = []) = l.all azC := by
              rw [Bool.eq_iff_iff, decide_eq_true_eq, List.filter_eq_nil_iff, List.all_eq_true]
              simp
            rw [eq_nil_chars, e]
            exact q _ ((same_new hD).trans (same_new ht))
    | _ => exact iteT (iteT (q _ (Same.refl _)))
end
end Ag

end
/-! ## ZQ0 -/
section
set_option linter.all false
set_option maxRecDepth 100000
set_option maxHeartbeats 4000000
namespace Ag
open PySem PySem.Spec PyProof.Rows L2
open SX (S S_len S_cat S_inj)
open SeqAt
section
variable {A : Around} {s : Shared}
theorem rc_dictS {z : Addr} {o : Obj} {es : Array DictEntry} {e1 : Nat} (b : Str) (k : Tok) (ho : s.heap.get? z = some o) (hc : o.cls = .type "dict") (hd : o.data = .dict es e1) (hu : A.units < cLine) : RcAt A s (.ref z) (.str b k) false := by
  intro pr w E Q y
  obtain ⟨cls, q, data, sl⟩ := o
  simp only at hc hd
  subst hc hd
  refine rc_eq_decline_or (k := false) ⟨_, ho, rfl⟩ (typeIs_str s b k) (by decide) F.sub_str_dict F.slot_dict_eq F.slot_str_eq_refl ?_ ?_ ?_ (.inr hu) y
  · exact fun _ hq => call_meets F.slot_dict_eq ⟨_, ho, rfl⟩ F.entry_dict_eq (F.args_dict_eq_2 _ _) (dctS z es e1 q sl b k) ⟨ho, hq⟩
  · exact fun _ hq => call_meets F.slot_str_eq_refl (typeIs_str s b k) F.entry_str_eq (F.args_str_eq_2 _ _) (strD b k z es e1 q sl) ⟨ho, hq⟩
  · exact fun _ hq => wpAny_of_eq (rfl : isSame (.ref z) (.str b k) = pure false) hq
end
section
variable {X : Cx}
/-- any data == a text -/
def eqDS (b : Str) : PyData → Bool
  | .str x => x == b
  | _ => false
def rEqS : R2 := fun x y H Q => ∃ p c d b, Dg p c H x d ∧ y = .str b ∧ Q (.bl (eqDS b d)) H
theorem op_eqSA (hu : X.A.units + 64 < cLine) : OpR X (compareOp .Eq) rEqS := by
  intro pins s σ H x y v u Q I rx ry h
  obtain ⟨p, c, d, b, hd, rfl, q⟩ := h
  obtain ⟨k, rfl⟩ := ry
  have hu0 : X.A.units < cLine := by omega
  cases hd with
  | non => cases rx; exact RcAt.none_str b k _ _ _ _ ⟨.bl _, H, I, rfl, q⟩
  | bl i => cases rx; exact RcAt.bool_str i b k _ _ _ _ ⟨.bl _, H, I, rfl, q⟩
  | int i => obtain ⟨t, rfl⟩ := rx; exact RcAt.int_str i t b k _ _ _ _ ⟨.bl _, H, I, rfl, q⟩
  | str z => obtain ⟨t, rfl⟩ := rx; exact RcAt.str_str z t b k _ _ _ _ ⟨.bl _, H, I, rfl, q⟩
  | lst e _ =>
    cases rx
    obtain ⟨its2, rv2, hL, _⟩ := I.list (SqL.of e.2.2)
    exact RcAt.list_str b k hL.isList hu0 _ _ _ _ ⟨.bl _, H, I, rfl, q⟩
  | tup e _ =>
    cases rx
    obtain ⟨its2, rv2, hL, _⟩ := I.tuple (SqT.of e.2.2)
    exact RcAt.tuple_str b k hL hu0 _ _ _ _ ⟨.bl _, H, I, rfl, q⟩
  | dic e _ =>
    cases rx
    obtain ⟨_, _, vs, _, o, es, ep, ho, hex, hdt, _⟩ := I.hok _ _ e.2.2
    exact rc_dictS b k ho hex.1 hdt hu0 _ _ _ _ ⟨.bl _, H, I, rfl, q⟩
/-- a list == [], a list != [] -/
def rEqL0 : R2 := fun x y H Q => ∃ a xs t, x = .ref a ∧ H a = some (.lst xs) ∧ y = .ref t ∧ H t = some (.lst []) ∧ Q (.bl (decide (xs = []))) H
def rNeL0 : R2 := fun x y H Q => ∃ a xs t, x = .ref a ∧ H a = some (.lst xs) ∧ y = .ref t ∧ H t = some (.lst []) ∧ Q (.bl (!decide (xs = []))) H
theorem op_eqL0 (hu : X.A.units + 64 < cLine) : OpR X (compareOp .Eq) rEqL0 := by
  intro pins s σ H x y v u Q I rx ry h
  obtain ⟨a, xs, t, rfl, ha, rfl, ht, q⟩ := h
  cases rx
  cases ry
  have hu0 : X.A.units < cLine := by omega
  obtain ⟨its, rv, hT, _⟩ := I.list (SqL.of ht)
  cases rv
  obtain ⟨its2, rv2, hT2, _⟩ := I.list (SqL.of ha)
  cases rv2 with
  | nil => exact RcAt.lists (e := fun _ => true) hT2.isList hT.isList rfl hu0 (fun j h1 _ => by simp at h1) _ _ _ _ ⟨.bl _, H, I, rfl, q⟩
  | cons h1 h2 => exact RcAt.lists_lengths hT2.isList hT.isList (by simp) hu0 _ _ _ _ ⟨.bl _, H, I, rfl, q⟩
theorem op_neL0 (hu : X.A.units + 64 < cLine) : OpR X (compareOp .NotEq) rNeL0 := by
  intro pins s σ H x y v u Q I rx ry h
  obtain ⟨a, xs, t, rfl, ha, rfl, ht, q⟩ := h
  cases rx
  cases ry
  have hu0 : X.A.units < cLine := by omega
  obtain ⟨its, rv, hT, _⟩ := I.list (SqL.of ht)
  cases rv
  obtain ⟨its2, rv2, hT2, _⟩ := I.list (SqL.of ha)
  cases rv2 with
  | nil => exact RcNeAt.lists (e := fun _ => true) hT2.isList hT.isList rfl hu0 (fun j h1 _ => by simp at h1) _ _ _ _ ⟨.bl _, H, I, rfl, q⟩
  | cons h1 h2 => exact RcNeAt.lists_lengths hT2.isList hT.isList (by simp) hu0 _ _ _ _ ⟨.bl _, H, I, rfl, q⟩
end
/-! ### rows and houses among data -/
def asB : PyData → Bool
  | .bool b => b
  | _ => false
def lenT : PyData → Nat
  | .tuple xs => xs.length
  | _ => 0
def itT (i : Nat) : PyData → PyData
  | .tuple xs => xs.getD i .none
  | _ => .none
def bodiesB : PyData → Bool
  | .tuple xs => xs.all (txtB 150)
  | _ => false
def stB (n : Nat) (b : Int) (r st : PyData) : Bool :=
  if eqDS (Str.ofString "closed") st = true then decide (b = n) && eqDS (Str.ofString "") r else eqDS (Str.ofString "open") st || (eqDS (Str.ofString "away") st && decide (b = n))
def rowB : PyData → Bool
  | .tuple [l, r, cs, b, dn, st] => (wholeB 0 1000000000 l && rstB r) && (bodiesB cs && ((wholeB 0 1000000000 b && (decide (asInt b ≤ lenT cs) && cntB (asInt b) dn)) && stB (lenT cs) (asInt b) r st))
  | _ => false
def opB (r : PyData) : Bool := eqDS (Str.ofString "open") (itT 5 r)
def rowsB : PyData → Bool
  | .tuple rs => rs.all rowB && ascI (rs.map fun r => asInt (itT 0 r))
  | _ => false
def shutB (up lv : Bool) : PyData → Bool
  | .tuple rs => if up = true then !lv || rs.all fun r => !opB r else !lv && decide (rs = [])
  | _ => false
def houseB : PyData → Bool
  | .tuple [nm, bt, up, lv, rs] => (wordB nm && (wholeB 0 1000000000 bt && !decide (asInt bt = 0))) && ((isB up && isB lv) && (rowsB rs && shutB (asB up) (asB lv) rs))
  | _ => false
theorem len6 {α : Type} : ∀ {l : List α}, l.length = 6 → ∃ a b c d e f, l = [a, b, c, d, e, f]
  | [a, b, c, d, e, f], _ => ⟨a, b, c, d, e, f, rfl⟩
theorem len5 {α : Type} : ∀ {l : List α}, l.length = 5 → ∃ a b c d e, l = [a, b, c, d, e]
  | [a, b, c, d, e], _ => ⟨a, b, c, d, e, rfl⟩
theorem row6 {ds : List PyData} (h : ds.length ≠ 6) : rowB (.tuple ds) = false := by
  match ds, h with
  | [], _ => rfl
  | [_], _ => rfl
  | [_, _], _ => rfl
  | [_, _, _], _ => rfl
  | [_, _, _, _], _ => rfl
  | [_, _, _, _, _], _ => rfl
  | [_, _, _, _, _, _], h => exact absurd rfl h
  | _ :: _ :: _ :: _ :: _ :: _ :: _ :: _, _ => rfl
theorem house5 {ds : List PyData} (h : ds.length ≠ 5) : houseB (.tuple ds) = false := by
  match ds, h with
  | [], _ => rfl
  | [_], _ => rfl
  | [_, _], _ => rfl
  | [_, _, _], _ => rfl
  | [_, _, _, _], _ => rfl
  | [_, _, _, _, _], h => exact absurd rfl h
  | _ :: _ :: _ :: _ :: _ :: _ :: _, _ => rfl
theorem row_not {d : PyData} (h : isT d = false) : rowB d = false := by cases d <;> first | rfl | cases h
theorem house_not {d : PyData} (h : isT d = false) : houseB d = false := by cases d <;> first | rfl | cases h
theorem bodies_not {d : PyData} (h : isT d = false) : bodiesB d = false := by cases d <;> first | rfl | cases h
theorem eqDS_sk (b : Str) (d : PyData) : eqDS b (skD d) = eqDS b d := by cases d <;> simp [skD, eqDS]
/-- a row that is data, or no tuple; rows of such; a house of such -/
def RwD (K : PySem.W.Frag) (p c : Addr) (H : Hp) (v : V) (d : PyData) : Prop := Do K p c H v d ∧ (isT d = true → ∃ d0, Dg p c H v d0 ∧ d = skD d0)
def RsD (K : PySem.W.Frag) (p c : Addr) (H : Hp) (v : V) (d : PyData) : Prop := Do K p c H v d ∧ ∀ ds, d = .tuple ds → ∃ a xs, v = .ref a ∧ At p c H a (.tup xs) ∧ xs.length = ds.length ∧ ∀ (i : Nat) x, xs[i]? = some x → ∃ e, ds[i]? = some e ∧ RwD K p c H x e
def HsD (K : PySem.W.Frag) (p c : Addr) (H : Hp) (v : V) (d : PyData) : Prop := Do K p c H v d ∧ ∀ ds, d = .tuple ds → ∃ a xs, v = .ref a ∧ At p c H a (.tup xs) ∧ DoA K p c H xs ds ∧ ∀ x e, xs[4]? = some x → ds[4]? = some e → RsD K p c H x e
section
variable {K : PySem.W.Frag} {p c : Addr} {H H' : Hp} {v : V} {d : PyData}
theorem RwD.to (h : RwD K p c H v d) (g : Kp p c H H') : RwD K p c H' v d := ⟨h.1.to g, fun e => by
  obtain ⟨d0, h1, h2⟩ := h.2 e
  exact ⟨d0, h1.to g, h2⟩⟩
theorem RsD.to (h : RsD K p c H v d) (g : Kp p c H H') : RsD K p c H' v d := ⟨h.1.to g, fun ds e => by
  obtain ⟨a, xs, h1, h2, h3, h4⟩ := h.2 ds e
  refine ⟨a, xs, h1, h2.kp g, h3, fun i x hx => ?_⟩
  obtain ⟨e, h5, h6⟩ := h4 i x hx
  exact ⟨e, h5, h6.to g⟩⟩
theorem HsD.to (h : HsD K p c H v d) (g : Kp p c H H') : HsD K p c H' v d := ⟨h.1.to g, fun ds e => by
  obtain ⟨a, xs, h1, h2, h3, h4⟩ := h.2 ds e
  exact ⟨a, xs, h1, h2.kp g, h3.to g, fun x e hx he => (h4 x e hx he).to g⟩⟩
theorem RwD.of (h : Dg p c H v d) : RwD K p c H v (skD d) := ⟨h.seen, fun _ => ⟨d, h, rfl⟩⟩
theorem skA_at : ∀ {ds : List PyData} {i : Nat} {d : PyData}, ds[i]? = some d → (skA ds)[i]? = some (skD d)
  | [], i, d, h => by simp at h
  | e :: ds, 0, d, h => by
    cases h
    simp [skA]
  | e :: ds, i + 1, d, h => by
    simp only [skA, List.getElem?_cons_succ] at h ⊢
    exact skA_at h
theorem RsD.of (h : Dg p c H v d) : RsD K p c H v (skD d) := ⟨h.seen, fun ds e => by
  cases h with
  | @tup a xs es ha hA =>
    simp only [skD] at e
    cases e
    refine ⟨a, xs, rfl, ha, by rw [hA.len, skA_len], fun i x hx => ?_⟩
    obtain ⟨d, h1, h2⟩ := hA.at_ hx
    exact ⟨_, skA_at h1, .of h2⟩
  | _ => simp [skD] at e⟩
theorem HsD.of (h : Dg p c H v d) : HsD K p c H v (skD d) := ⟨h.seen, fun ds e => by
  cases h with
  | @tup a xs es ha hA =>
    simp only [skD] at e
    cases e
    refine ⟨a, xs, rfl, ha, DgA.seen _ _ hA, fun x e hx he => ?_⟩
    obtain ⟨d, h1, h2⟩ := hA.at_ hx
    rw [skA_at h1] at he
    cases he
    exact .of h2
  | _ => simp [skD] at e⟩
end
end Ag

end
/-! ## ZQ -/
section
set_option linter.all false
set_option maxRecDepth 100000
set_option maxHeartbeats 4000000
namespace Ag
open PySem PySem.Spec PyProof.Rows L2
open SX (S S_len S_cat S_inj)
theorem whole_int {lo hi : Int} {d : PyData} (h : wholeB lo hi d = true) : d = .int (asInt d) := by
  cases d with
  | int i => rfl
  | _ => cases h
theorem Do.intE {K : PySem.W.Frag} {p c : Addr} {H : Hp} {v : V} {d : PyData} {lo hi : Int} (h : Do K p c H v d) (e : wholeB lo hi d = true) : v = .int (asInt d) := by
  cases h with
  | int i => rfl
  | _ => cases e
section
variable {P : Program} {w : World} {K : PySem.W.Frag} {mg : Str → Option Value} {base : Heap} {tm tn tb : Tok}
def spRowD (K : PySem.W.Frag) : Sp := fun vs H Q _ => ∃ p c v d, vs = [v] ∧ RwD K p c H v d ∧ bB 52 d = true ∧ ∀ H', Same H H' → Q (.bl (rowB d)) H'
theorem ok_row_D {f f1 f2 f3 f4 : Addr} {fd fd1 fd2 fd3 fd4 : FuncData} (F : Fn K mg "is_row" s_is_row ["thing"] f fd) (B : Con mg tm tn tb)
    (F_is_number : Fn K mg "is_number" s_is_number ["thing"] f1 fd1) (G_is_number : FnOk P w K mg base CX0 3 f1 fd1 ["thing"] (spNumD K))
    (F_is_rest : Fn K mg "is_rest" s_is_rest ["thing"] f2 fd2) (G_is_rest : FnOk P w K mg base CX0 2 f2 fd2 ["thing"] (spRstD K))
    (F_is_body : Fn K mg "is_body" s_is_body ["thing"] f3 fd3) (G_is_body : FnOk P w K mg base CX0 2 f3 fd3 ["thing"] (spTxtD K 150))
    (F_are_counted : Fn K mg "are_counted" s_are_counted ["thing", "most"] f4 fd4) (G_are_counted : FnOk P w K mg base CX0 3 f4 fd4 ["thing", "most"] (spCntD K)) :
    FnOk P w K mg base CX0 4 f fd ["thing"] (spRowD K) := by
  refine F.F.ok sc_is_row (fun vs H Q E h => ?_) (fun cdv A outer s H vs Q E hr h => ?_)
  · obtain ⟨p, c, x, d, rfl, _⟩ := h
    rfl
  · obtain ⟨p, c, x, d, rfl, hw, hb, q⟩ := h
    refine ⟨_, (pss_cons (ps_if (PW.pt (pw_or (pt_not (pt_val (pe_callB call_isi (by rfl) B.n_isinstance (by decide +kernel) (pa_cons (pv 0) (pa_cons (pe_bltn (v := .ty "tuple") (by rfl) B.n_tuple (by decide +kernel) rfl) pa_nil))))) (pw_or1 (pt_cmpR op_ne (pe_callB call_len_seq (by rfl) B.n_len PySem.boot_len (pa_cons (pv 0) pa_nil)) pe_int (nomark _)))))
      (pss_one (ps_ret pe_bl))
      pss_nil)
      (pss_cons (ps_asg (pv 0) (pg_tup rfl (pgs_cons (pg_name (i := 1) sc_is_row.nd rfl (Or.inl rfl)) (pgs_cons (pg_name (i := 2) sc_is_row.nd rfl (Or.inl rfl)) (pgs_cons (pg_name (i := 3) sc_is_row.nd rfl (Or.inl rfl)) (pgs_cons (pg_name (i := 4) sc_is_row.nd rfl (Or.inl rfl)) (pgs_cons (pg_name (i := 5) sc_is_row.nd rfl (Or.inl rfl)) (pgs_cons (pg_name (i := 6) sc_is_row.nd rfl (Or.inl rfl)) pgs_nil))))))))
      (pss_cons (ps_if (PW.pt (pw_or (pt_not (pt_val (pe_call G_is_number (hr.mono (by decide)) (by rfl) F_is_number.g F_is_number.F.kp F_is_number.b .nil pass0 (pa_cons (pv 1) pa_nil)))) (pw_or1 (pt_not (pt_val (pe_call G_is_rest (hr.mono (by decide)) (by rfl) F_is_rest.g F_is_rest.F.kp F_is_rest.b .nil pass0 (pa_cons (pv 2) pa_nil)))))))
      (pss_one (ps_ret pe_bl))
      pss_nil)
      (pss_cons (ps_if (PW.pt (pw_or (pt_not (pt_val (pe_callB call_isi (by rfl) B.n_isinstance (by decide +kernel) (pa_cons (pv 3) (pa_cons (pe_bltn (v := .ty "tuple") (by rfl) B.n_tuple (by decide +kernel) rfl) pa_nil))))) (pw_or1 (pt_not (pt_val (pe_callB (cr_all rfl) (by rfl) B.n_all (by decide +kernel) (pa_cons (pe_lc (own := [("body", 7)]) rfl sc_is_row.nd (pi_tup (pv 3)) (blkOk_by (N := N_is_row) (sc := defScope s_is_row) (by decide +kernel)) (fun _ _ _ _ _ => (pg_name (i := 7) sc_is_row.nd rfl (Or.inl rfl))) (fun _ _ _ _ _ => pts_nil) (fun _ _ _ _ _ => (pe_call G_is_body (hr.mono (by decide)) (by rfl) F_is_body.g F_is_body.F.kp F_is_body.b .nil pass0 (pa_cons (pv 7) pa_nil)))) pa_nil)))))))
      (pss_one (ps_ret pe_bl))
      pss_nil)
      (pss_cons (ps_if (PW.pt (pw_or (pt_not (pt_val (pe_call G_is_number (hr.mono (by decide)) (by rfl) F_is_number.g F_is_number.F.kp F_is_number.b .nil pass0 (pa_cons (pv 4) pa_nil)))) (pw_or (pt_cmpR op_gt (pv 4) (pe_callB call_len_seq (by rfl) B.n_len PySem.boot_len (pa_cons (pv 3) pa_nil)) (nomark _)) (pw_or1 (pt_not (pt_val (pe_call G_are_counted (hr.mono (by decide)) (by rfl) F_are_counted.g F_are_counted.F.kp F_are_counted.b .nil pass0 (pa_cons (pv 5) (pa_cons (pv 4) pa_nil)))))))))
      (pss_one (ps_ret pe_bl))
      pss_nil)
      (pss_cons (ps_if (pt_cmpR (op_eqSA hr.units) (pv 6) pe_str (nomark _))
      (pss_one (ps_ret (pe_and (pe_cmpR op_eq (pv 4) (pe_callB call_len_seq (by rfl) B.n_len PySem.boot_len (pa_cons (pv 3) pa_nil)) (nomark _)) (pe_one (pe_cmpR (op_eqSA hr.units) (pv 2) pe_str (nomark _))))))
      pss_nil)
      (pss_one (ps_ret (pe_or (pe_cmpR (op_eqSA hr.units) (pv 6) pe_str (nomark _)) (pe_one (pe_and (pe_cmpR (op_eqSA hr.units) (pv 6) pe_str (nomark _)) (pe_one (pe_cmpR op_eq (pv 4) (pe_callB call_len_seq (by rfl) B.n_len PySem.boot_len (pa_cons (pv 3) pa_nil)) (nomark _)))))))))))))), ?_⟩
    refine ⟨_, rfl, x, .ty "tuple", _, _, _, rfl, .ty "tuple", hw.1.tyx, hw.1.kT, _, rfl, ?_⟩
    cases hT : isT d with
    | false =>
      rw [row_not hT] at q
      exact iteT (iteT (q _ (Same.refl _)))
    | true =>
      obtain ⟨d0, hg, rfl⟩ := hw.2 hT
      clear hw
      cases hg with
      | @tup a xs es ha hA =>
        simp only [skD] at hb q
        rw [bB_tup, Bool.and_eq_true] at hb
        have hb := hb.2
        refine iteF ?_
        refine ⟨_, rfl, a, xs, rfl, .inr (SqT.of ha.2.2), rfl, _, rfl, ?_⟩
        have hlen := hA.len
        by_cases h6 : es.length = 6
        · have e6 : (!decide (V.int (xs.length : Nat) = V.int 6)) = false := by
            rw [hlen, h6]
            rfl
          rw [e6]
          refine iteF ?_
          obtain ⟨e0, e1, e2, e3, e4, e5, rfl⟩ := len6 h6
          obtain ⟨x0, x1, x2, x3, x4, x5, rfl⟩ := len6 (hlen.trans h6)
          match hA with
          | .cons g0 (.cons g1 (.cons g2 (.cons g3 (.cons g4 (.cons g5 .nil))))) =>
          simp only [skA] at hb q
          simp only [List.all_cons, List.all_nil, Bool.and_true, Bool.and_eq_true] at hb
          obtain ⟨b0, b1, b2, b3, b4, b5⟩ := hb
          have q : ∀ H', Same H H' → Q (.bl ((wholeB 0 1000000000 (skD e0) && rstB (skD e1)) && (bodiesB (skD e2) && ((wholeB 0 1000000000 (skD e3) && (decide (asInt (skD e3) ≤ lenT (skD e2)) && cntB (asInt (skD e3)) (skD e4))) && stB (lenT (skD e2)) (asInt (skD e3)) (skD e1) (skD e5))))) H' := q
          refine ⟨_, rfl, a, _, rfl, SqT.of ha.2.2, rfl, _, _, rfl, _, _, rfl, _, _, rfl, _, _, rfl, _, _, rfl, _, _, rfl, rfl, ?_⟩
          -- the number and the rest
          refine ⟨_, rfl, p, c, x0, skD e0, rfl, g0.seen, _, rfl, ?_⟩
          cases h0 : wholeB 0 1000000000 (skD e0) with
          | false =>
            rw [h0, Bool.false_and, Bool.false_and] at q
            exact iteT (iteT (q _ (Same.refl _)))
          | true =>
          rw [h0, Bool.true_and] at q
          refine iteF ⟨_, rfl, p, c, x1, skD e1, rfl, g1.seen, bB_sOk b1 (by decide), fun H1 s1 => ⟨_, rfl, ?_⟩⟩
          cases h1 : rstB (skD e1) with
          | false =>
            rw [h1, Bool.false_and] at q
            exact iteT (q _ s1)
          | true =>
          rw [h1, Bool.true_and] at q
          refine iteF ?_
          -- the bodies
          have g2 := g2.to (.same s1)
          refine ⟨_, rfl, x2, .ty "tuple", _, _, _, rfl, .ty "tuple", g2.seen.tyx, g2.seen.kT, _, rfl, ?_⟩
          cases g2 with
          | @tup a2 ys us hb2 hB =>
            simp only [skD] at b2 q ⊢
            rw [bB_tup, Bool.and_eq_true, decide_eq_true_eq] at b2
            have hS := DgA.seen (K := K) us ys hB
            have hul : (skA us).length = ys.length := hS.len.symm
            have q : ∀ H', Same H H' → Q (.bl ((skA us).all (txtB 150) && ((wholeB 0 1000000000 (skD e3) && (decide (asInt (skD e3) ≤ ((skA us).length : Nat)) && cntB (asInt (skD e3)) (skD e4))) && stB (skA us).length (asInt (skD e3)) (skD e1) (skD e5)))) H' := q
            refine iteF ?_
            refine ⟨_, rfl, a2, rfl, ⟨_, SqT.of hb2.2.2⟩, fun D hD => ?_⟩
            refine lc_sel (walk_tup (K := K) (a := a2) (xs := ys)) (fun _ => true) (fun i => .bl (txtB 150 ((skA us).getD i .none))) (by omega) hD (fun H' s => SqT.of (s _ _ hb2.2.2)) ?_ ?_
            · rintro i y H2 H3 k kf hi s2 ⟨rfl, hy⟩ hk _
              obtain ⟨d, hdi, hdg⟩ := hS.at_ hy
              have hk := hk rfl H3 (Same.refl _)
              rw [List.getD_eq_getElem?_getD, hdi] at hk
              exact ⟨rfl, _, rfl, p, c, y, d, rfl, hdg.to (.same s2), bB_sOk (List.all_eq_true.mp b2.2 d (List.mem_of_getElem? hdi)) (by decide), hk⟩
            · intro H2 s12 h2
              have s2 := s1.trans s12
              rw [filt_all, bls_map, ← hul] at h2
              refine ⟨D, _, rfl, SqL.of h2, _, rfl, ?_⟩
              rw [all_at (skA us) (txtB 150) .none]
              cases hbs : (skA us).all (txtB 150) with
              | false =>
                rw [hbs, Bool.false_and] at q
                exact iteT (q _ s2)
              | true =>
              rw [hbs, Bool.true_and] at q
              refine iteF ?_
              have hb3 : At p c H2 a2 (.tup ys) := hb2.kp (.same s12)
              have g3 := (g3.to (.same s2)).seen (K := K)
              -- what was begun, what is done
              refine ⟨_, rfl, p, c, x3, skD e3, rfl, g3, _, rfl, ?_⟩
              cases h3 : wholeB 0 1000000000 (skD e3) with
              | false =>
                rw [h3, Bool.false_and, Bool.false_and] at q
                exact iteT (iteT (q _ s2))
              | true =>
              rw [h3, Bool.true_and] at q
              refine iteF ?_
              have e3i := g3.intE h3
              subst e3i
              refine ⟨_, rfl, _, rfl, a2, ys, rfl, .inr (SqT.of hb3.2.2), _, _, rfl, rfl, _, rfl, ?_⟩
              rw [← hul]
              have ed : decide (asInt (skD e3) > ((skA us).length : Nat)) = !decide (asInt (skD e3) ≤ ((skA us).length : Nat)) := by
                rw [Bool.eq_iff_iff, Bool.not_eq_true', decide_eq_false_iff_not, decide_eq_true_eq]
                omega
              rw [ed]
              cases h4 : decide (asInt (skD e3) ≤ ((skA us).length : Nat)) with
              | false =>
                rw [h4, Bool.false_and, Bool.false_and] at q
                exact iteT (iteT (q _ s2))
              | true =>
              rw [h4, Bool.true_and] at q
              refine iteF ⟨_, rfl, _, rfl, p, c, x4, skD e4, asInt (skD e3), rfl, (g4.to (.same s2)).seen, b4, fun H3 s23 => ⟨_, rfl, ?_⟩⟩
              have s3 := s2.trans s23
              cases h5 : cntB (asInt (skD e3)) (skD e4) with
              | false =>
                rw [h5, Bool.false_and] at q
                exact iteT (q _ s3)
              | true =>
              rw [h5, Bool.true_and] at q
              refine iteF ?_
              have hb4 : At p c H3 a2 (.tup ys) := hb3.kp (.same s23)
              unfold stB at q
              simp only [eqDS_sk] at q
              have g5 := g5.to (.same s3)
              have en : decide (V.int (asInt (skD e3)) = V.int ((skA us).length : Nat)) = decide (asInt (skD e3) = ((skA us).length : Nat)) := by simp
              refine ⟨_, rfl, p, c, e5, _, g5, rfl, _, rfl, ite2 (fun h => ?_) (fun h => ?_)⟩
              · rw [if_pos h] at q
                refine ⟨_, rfl, _, rfl, a2, ys, rfl, .inr (SqT.of hb4.2.2), rfl, _, rfl, ?_⟩
                rw [← hul, en]
                cases h7 : decide (asInt (skD e3) = ((skA us).length : Nat)) with
                | false =>
                  rw [h7, Bool.false_and] at q
                  exact iteF (q _ s3)
                | true =>
                  rw [h7, Bool.true_and] at q
                  exact iteT ⟨_, rfl, p, c, e1, _, g1.to (.same s3), rfl, q _ s3⟩
              · rw [if_neg h] at q
                refine ⟨_, rfl, p, c, e5, _, g5, rfl, _, rfl, ?_⟩
                cases h7 : eqDS (Str.ofString "open") e5 with
                | true =>
                  rw [h7, Bool.true_or] at q
                  exact iteT (q _ s3)
                | false =>
                  rw [h7, Bool.false_or] at q
                  refine iteF ⟨_, rfl, p, c, e5, _, g5, rfl, _, rfl, ?_⟩
                  cases h8 : eqDS (Str.ofString "away") e5 with
                  | false =>
                    rw [h8, Bool.false_and] at q
                    exact iteF (q _ s3)
                  | true =>
                    rw [h8, Bool.true_and] at q
                    refine iteT ⟨_, rfl, _, rfl, a2, ys, rfl, .inr (SqT.of hb4.2.2), rfl, ?_⟩
                    rw [← hul, en]
                    exact q _ s3
          | _ =>
            rw [bodies_not (by simp [skD, isT]), Bool.false_and] at q
            exact iteT (iteT (q _ s1))
        · have e6 : (!decide (V.int (xs.length : Nat) = V.int 6)) = true := by
            rw [hlen]
            simp
            omega
          rw [row6 (by rw [skA_len]; exact h6)] at q
          rw [e6]
          exact iteT (q _ (Same.refl _))
      | _ => simp [skD, isT] at hT
end
end Ag

end
/-! ## T0x -/
section
set_option linter.all false
set_option maxRecDepth 100000
namespace Ag
open PySem PySem.Spec PyProof.Rows L2
theorem ix_tupK {X : Cx} (K : PySem.W.Frag) (hK : X.K = K) : IxR X (rIxT K) := by
  subst hK
  exact ix_tup
theorem pe_of_K {X : Cx} (K : PySem.W.Frag) {e : Expr} (f : PySem.W.Frag → TE) (hK : X.K = K) (h : PE X e (f X.K)) : PE X e (f K) := hK ▸ h
end Ag

end
/-! ## ZR -/
section
set_option linter.all false
set_option maxRecDepth 100000
set_option maxHeartbeats 4000000
namespace Ag
open PySem PySem.Spec PyProof.Rows L2
open SX (S S_len S_cat S_inj)
theorem lab_int {e : PyData} (h : rowB e = true) : ∃ l r cs b dn x, e = .tuple [.int l, r, cs, b, dn, .str x] := by
  cases e with
  | tuple ds =>
    by_cases h6 : ds.length = 6
    · obtain ⟨l, r, cs, b, dn, st, rfl⟩ := len6 h6
      have h : ((wholeB 0 1000000000 l && rstB r) && (bodiesB cs && ((wholeB 0 1000000000 b && (decide (asInt b ≤ lenT cs) && cntB (asInt b) dn)) && stB (lenT cs) (asInt b) r st))) = true := h
      simp only [Bool.and_eq_true] at h
      obtain ⟨⟨h1, _⟩, _, _, h2⟩ := h
      rw [whole_int h1]
      cases st with
      | str x => exact ⟨_, _, _, _, _, _, rfl⟩
      | _ => simp [stB, eqDS] at h2
    · rw [row6 h6] at h
      cases h
  | _ => cases h
/-- what a good row holds at its ends -/
theorem Do.ends {K : PySem.W.Frag} {p c : Addr} {H : Hp} {v : V} {e : PyData} (hd : Do K p c H v e) (hr : rowB e = true) : ∃ b zs x, v = .ref b ∧ At p c H b (.tup zs) ∧ zs[0]? = some (.int (asInt (itT 0 e))) ∧ zs[5]? = some (.str x) ∧ itT 5 e = .str x := by
  obtain ⟨l, r, cs, b, dn, x, rfl⟩ := lab_int hr
  cases hd with
  | @tup a xs _ ha hA =>
    obtain ⟨x0, x1, x2, x3, x4, x5, rfl⟩ := len6 (hA.len.trans rfl)
    match hA with
    | .cons (.int _) (.cons _ (.cons _ (.cons _ (.cons _ (.cons (.str _) .nil))))) => exact ⟨a, _, x, rfl, ha, rfl, rfl, rfl⟩
def txV : PyData → V
  | .str x => .str x
  | _ => .non
theorem in_open (rs : List PyData) : (!inV (V.str (Str.ofString "open")) (rs.map fun r => txV (itT 5 r))) = rs.all fun r => !opB r := by
  unfold inV
  induction rs with
  | nil => rfl
  | cons r rs ih =>
    have e : eqV (txV (itT 5 r)) (V.str (Str.ofString "open")) = opB r := by
      unfold opB
      cases itT 5 r <;> rfl
    rw [List.map_cons, List.any_cons, List.all_cons, e, Bool.not_or, ih]
section
variable {P : Program} {w : World} {K : PySem.W.Frag} {mg : Str → Option Value} {base : Heap} {tm tn tb : Tok}
def spHouseD (K : PySem.W.Frag) : Sp := fun vs H Q _ => ∃ p c v d, vs = [v] ∧ HsD K p c H v d ∧ bB 52 d = true ∧ ∀ H', Same H H' → Q (.bl (houseB d)) H'
theorem ok_house_D (hset : mg "set" = none) {f f1 f2 f3 : Addr} {fd fd1 fd2 fd3 : FuncData} (F : Fn K mg "is_house" s_is_house ["thing"] f fd) (B : Con mg tm tn tb)
    (F_is_word : Fn K mg "is_word" s_is_word ["thing"] f1 fd1) (G_is_word : FnOk P w K mg base CX0 1 f1 fd1 ["thing"] (spWordD K))
    (F_is_number : Fn K mg "is_number" s_is_number ["thing"] f2 fd2) (G_is_number : FnOk P w K mg base CX0 3 f2 fd2 ["thing"] (spNumD K))
    (F_is_row : Fn K mg "is_row" s_is_row ["thing"] f3 fd3) (G_is_row : FnOk P w K mg base CX0 4 f3 fd3 ["thing"] (spRowD K)) :
    FnOk P w K mg base CX0 5 f fd ["thing"] (spHouseD K) := by
  refine F.F.ok sc_is_house (fun vs H Q E h => ?_) (fun cdv A outer s H vs Q E hr h => ?_)
  · obtain ⟨p, c, x, d, rfl, _⟩ := h
    rfl
  · obtain ⟨p, c, x, d, rfl, hw, hb, q⟩ := h
    refine ⟨_, (pss_cons (ps_if (PW.pt (pw_or (pt_not (pt_val (pe_callB call_isi (by rfl) B.n_isinstance (by decide +kernel) (pa_cons (pv 0) (pa_cons (pe_bltn (v := .ty "tuple") (by rfl) B.n_tuple (by decide +kernel) rfl) pa_nil))))) (pw_or1 (pt_cmpR op_ne (pe_callB call_len_seq (by rfl) B.n_len PySem.boot_len (pa_cons (pv 0) pa_nil)) pe_int (nomark _)))))
      (pss_one (ps_ret pe_bl))
      pss_nil)
      (pss_cons (ps_asg (pv 0) (pg_tup rfl (pgs_cons (pg_name (i := 1) sc_is_house.nd rfl (Or.inl rfl)) (pgs_cons (pg_name (i := 2) sc_is_house.nd rfl (Or.inl rfl)) (pgs_cons (pg_name (i := 3) sc_is_house.nd rfl (Or.inl rfl)) (pgs_cons (pg_name (i := 4) sc_is_house.nd rfl (Or.inl rfl)) (pgs_cons (pg_name (i := 5) sc_is_house.nd rfl (Or.inl rfl)) pgs_nil)))))))
      (pss_cons (ps_if (PW.pt (pw_or (pt_not (pt_val (pe_call G_is_word (hr.mono (by decide)) (by rfl) F_is_word.g F_is_word.F.kp F_is_word.b .nil pass0 (pa_cons (pv 1) pa_nil)))) (pw_or (pt_not (pt_val (pe_call G_is_number (hr.mono (by decide)) (by rfl) F_is_number.g F_is_number.F.kp F_is_number.b .nil pass0 (pa_cons (pv 2) pa_nil)))) (pw_or1 (pt_cmpR op_eq (pv 2) pe_int (nomark _))))))
      (pss_one (ps_ret pe_bl))
      pss_nil)
      (pss_cons (ps_if (PW.pt (pw_or (pt_not (pt_val (pe_callB call_isi (by rfl) B.n_isinstance (by decide +kernel) (pa_cons (pv 3) (pa_cons (pe_bltn (v := .ty "bool") (by rfl) B.n_bool (by decide +kernel) rfl) pa_nil))))) (pw_or1 (pt_not (pt_val (pe_callB call_isi (by rfl) B.n_isinstance (by decide +kernel) (pa_cons (pv 4) (pa_cons (pe_bltn (v := .ty "bool") (by rfl) B.n_bool (by decide +kernel) rfl) pa_nil))))))))
      (pss_one (ps_ret pe_bl))
      pss_nil)
      (pss_cons (ps_if (PW.pt (pw_or (pt_not (pt_val (pe_callB call_isi (by rfl) B.n_isinstance (by decide +kernel) (pa_cons (pv 5) (pa_cons (pe_bltn (v := .ty "tuple") (by rfl) B.n_tuple (by decide +kernel) rfl) pa_nil))))) (pw_or1 (pt_not (pt_val (pe_callB (cr_all rfl) (by rfl) B.n_all (by decide +kernel) (pa_cons (pe_lc (own := [("row", 7)]) rfl sc_is_house.nd (pi_tup (pv 5)) (blkOk_by (N := N_is_house) (sc := defScope s_is_house) (by decide +kernel)) (fun _ _ _ _ _ => (pg_name (i := 7) sc_is_house.nd rfl (Or.inl rfl))) (fun _ _ _ _ _ => pts_nil) (fun _ _ _ _ _ => (pe_call G_is_row (hr.mono (by decide)) (by rfl) F_is_row.g F_is_row.F.kp F_is_row.b .nil pass0 (pa_cons (pv 7) pa_nil)))) pa_nil)))))))
      (pss_one (ps_ret pe_bl))
      pss_nil)
      (pss_cons (ps_setLc (i := 6) (own := [("row", 7)]) rfl sc_is_house.nd rfl rfl (sw_true rfl rfl rfl (by decide +kernel)) (pi_tup (pv 5)) (blkOk_by (N := N_is_house) (sc := defScope s_is_house) (by decide +kernel)) (fun _ _ _ _ _ => (pg_name (i := 7) sc_is_house.nd rfl (Or.inl rfl))) (fun _ _ _ _ _ => pts_nil) (fun _ _ _ _ _ => (pe_ix (ix_tupK K rfl) (pv 7) pe_int (fun _ _ => rfl))))
      (pss_cons (ps_if (pt_cmpR (op_neD hr.units) (pv 6) (pe_callB (cr_sortedSet rfl) (by rfl) B.n_sorted (by decide +kernel) (pa_cons (pe_callTy (cr_setI rfl) (by rfl) hset (by decide +kernel) (pa_cons (pv 6) pa_nil)) pa_nil)) (nomark _))
      (pss_one (ps_ret pe_bl))
      pss_nil)
      (pss_cons (ps_if (pt_not (pt_val (pv 3)))
      (pss_one (ps_ret (pe_and (pe_not (pv 4)) (pe_one (pe_cmpR (op_eqTT hr.units) (pv 5) (pe_tup pa_nil) (nomark _))))))
      pss_nil)
      (pss_one (ps_ret (pe_or (pe_not (pv 4)) (pe_one (pe_cmpR op_notIn_seq pe_str (pe_lc (own := [("row", 7)]) rfl sc_is_house.nd (pi_tup (pv 5)) (blkOk_by (N := N_is_house) (sc := defScope s_is_house) (by decide +kernel)) (fun _ _ _ _ _ => (pg_name (i := 7) sc_is_house.nd rfl (Or.inl rfl))) (fun _ _ _ _ _ => pts_nil) (fun _ _ _ _ _ => (pe_ix (ix_tupK K rfl) (pv 7) pe_int (fun _ _ => rfl)))) rfl))))))))))))), ?_⟩
    refine ⟨_, rfl, x, .ty "tuple", _, _, _, rfl, .ty "tuple", hw.1.tyx, hw.1.kT, _, rfl, ?_⟩
    cases hT : isT d with
    | false =>
      rw [house_not hT] at q
      exact iteT (iteT (q _ (Same.refl _)))
    | true =>
      cases d with
      | tuple ds =>
        obtain ⟨a, xs, rfl, ha, hA, h4⟩ := hw.2 ds rfl
        clear hw
        rw [bB_tup, Bool.and_eq_true] at hb
        have hb := hb.2
        refine iteF ?_
        refine ⟨_, rfl, a, xs, rfl, .inr (SqT.of ha.2.2), rfl, _, rfl, ?_⟩
        have hlen := hA.len
        by_cases h5 : ds.length = 5
        · have e5 : (!decide (V.int (xs.length : Nat) = V.int 5)) = false := by
            rw [hlen, h5]
            rfl
          rw [e5]
          refine iteF ?_
          obtain ⟨e0, e1, e2, e3, e4, rfl⟩ := len5 h5
          obtain ⟨x0, x1, x2, x3, x4, rfl⟩ := len5 (hlen.trans h5)
          have g4 := h4 x4 e4 rfl rfl
          match hA with
          | .cons g0 (.cons g1 (.cons g2 (.cons g3 (.cons _ .nil)))) =>
          simp only [List.all_cons, List.all_nil, Bool.and_true, Bool.and_eq_true] at hb
          obtain ⟨b0, b1, b2, b3, b4⟩ := hb
          have q : ∀ H', Same H H' → Q (.bl ((wordB e0 && (wholeB 0 1000000000 e1 && !decide (asInt e1 = 0))) && ((isB e2 && isB e3) && (rowsB e4 && shutB (asB e2) (asB e3) e4)))) H' := q
          refine ⟨_, rfl, a, _, rfl, SqT.of ha.2.2, rfl, _, _, rfl, _, _, rfl, _, _, rfl, _, _, rfl, _, _, rfl, rfl, ?_⟩
          -- the name and the boot
          refine ⟨_, rfl, p, c, x0, e0, rfl, g0, bB_sOk b0 (by decide), _, rfl, ?_⟩
          cases h0 : wordB e0 with
          | false =>
            rw [h0, Bool.false_and, Bool.false_and] at q
            exact iteT (iteT (q _ (Same.refl _)))
          | true =>
          rw [h0, Bool.true_and] at q
          refine iteF ⟨_, rfl, p, c, x1, e1, rfl, g1, _, rfl, ?_⟩
          cases h1 : wholeB 0 1000000000 e1 with
          | false =>
            rw [h1, Bool.false_and, Bool.false_and] at q
            exact iteT (iteT (q _ (Same.refl _)))
          | true =>
          rw [h1, Bool.true_and] at q
          have e1i := g1.intE h1
          subst e1i
          refine iteF ⟨_, rfl, rfl, _, rfl, ?_⟩
          rw [show decide (V.int (asInt e1) = V.int 0) = decide (asInt e1 = 0) by simp]
          cases h2 : decide (asInt e1 = 0) with
          | true =>
            rw [h2, Bool.not_true, Bool.false_and] at q
            exact iteT (q _ (Same.refl _))
          | false =>
          rw [h2, Bool.not_false, Bool.true_and] at q
          refine iteF ?_
          -- the two marks
          refine ⟨_, rfl, x2, .ty "bool", _, _, _, rfl, .ty "bool", g2.tyx, g2.kB, _, rfl, ?_⟩
          cases h2 : isB e2 with
          | false =>
            rw [h2, Bool.false_and, Bool.false_and] at q
            exact iteT (iteT (q _ (Same.refl _)))
          | true =>
          rw [h2, Bool.true_and] at q
          refine iteF ⟨_, rfl, x3, .ty "bool", _, _, _, rfl, .ty "bool", g3.tyx, g3.kB, _, rfl, ?_⟩
          cases h3 : isB e3 with
          | false =>
            rw [h3, Bool.false_and] at q
            exact iteT (q _ (Same.refl _))
          | true =>
          rw [h3, Bool.true_and] at q
          refine iteF ?_
          obtain ⟨up, rfl, rfl⟩ : ∃ b, x2 = .bl b ∧ e2 = .bool b := by
            cases g2 with
            | bl b => exact ⟨b, rfl, rfl⟩
            | _ => simp [isB] at h2
          obtain ⟨lv, rfl, rfl⟩ : ∃ b, x3 = .bl b ∧ e3 = .bool b := by
            cases g3 with
            | bl b => exact ⟨b, rfl, rfl⟩
            | _ => simp [isB] at h3
          have q : ∀ H', Same H H' → Q (.bl (rowsB e4 && shutB up lv e4)) H' := q
          -- the rows
          refine ⟨_, rfl, x4, .ty "tuple", _, _, _, rfl, .ty "tuple", g4.1.tyx, g4.1.kT, _, rfl, ?_⟩
          cases hT4 : isT e4 with
          | false =>
            have e : rowsB e4 = false := by cases e4 <;> first | rfl | cases hT4
            rw [e, Bool.false_and] at q
            exact iteT (iteT (q _ (Same.refl _)))
          | true =>
          cases e4 with
          | tuple rs =>
            obtain ⟨a2, ys, rfl, hb2, hl2, hR⟩ := g4.2 rs rfl
            clear g4 h4
            rw [bB_tup, Bool.and_eq_true, decide_eq_true_eq] at b4
            have q : ∀ H', Same H H' → Q (.bl ((rs.all rowB && ascI (rs.map fun r => asInt (itT 0 r))) && (if up = true then !lv || rs.all fun r => !opB r else !lv && decide (rs = [])))) H' := q
            have hyl : ys.length ≤ 52 := by omega
            refine iteF ?_
            refine ⟨_, rfl, a2, rfl, ⟨_, SqT.of hb2.2.2⟩, fun D hD => ?_⟩
            refine lc_sel (walk_tup (K := K) (a := a2) (xs := ys)) (fun _ => true) (fun i => .bl (rowB (rs.getD i .none))) (by omega) hD (fun H' s => SqT.of (s _ _ hb2.2.2)) ?_ ?_
            · rintro i y H2 H3 k kf hi s2 ⟨rfl, hy⟩ hk _
              obtain ⟨d, hdi, hdg⟩ := hR i y hy
              have hk := hk rfl
              rw [List.getD_eq_getElem?_getD, hdi] at hk
              exact ⟨rfl, _, rfl, p, c, y, d, rfl, hdg.to (.same s2), List.all_eq_true.mp b4.2 d (List.mem_of_getElem? hdi), hk⟩
            · intro H1 s1 h1
              rw [filt_all, bls_map, hl2] at h1
              refine ⟨D, _, rfl, SqL.of h1, _, rfl, ?_⟩
              rw [all_at rs rowB .none]
              cases hbs : rs.all rowB with
              | false =>
                rw [hbs, Bool.false_and, Bool.false_and] at q
                exact iteT (q _ s1)
              | true =>
              rw [hbs, Bool.true_and] at q
              refine iteF ?_
              have hR1 : ∀ (i : Nat) y H', Same H H' → ys[i]? = some y → ∃ e, rs[i]? = some e ∧ ∃ b zs x, y = .ref b ∧ At p c H' b (.tup zs) ∧ zs[0]? = some (.int (asInt (itT 0 e))) ∧ zs[5]? = some (.str x) ∧ itT 5 e = .str x := by
                intro i y H' s hy
                obtain ⟨e, he, hw⟩ := hR i y hy
                exact ⟨e, he, (hw.to (.same s)).1.ends (List.all_eq_true.mp hbs e (List.mem_of_getElem? he))⟩
              clear hR
              -- the labels
              refine ⟨_, rfl, a2, rfl, ⟨_, SqT.of (s1 _ _ hb2.2.2)⟩, fun L hL => ?_⟩
              refine lc_sel (walk_tup (K := K) (a := a2) (xs := ys)) (fun _ => true) (fun i => .int (asInt (itT 0 (rs.getD i .none)))) (by omega) hL (fun H' s => SqT.of (s _ _ (s1 _ _ hb2.2.2))) ?_ ?_
              · rintro i y H2 H3 k kf hi s2 ⟨rfl, hy⟩ hk _
                obtain ⟨e, he, b, zs, x, rfl, hz, hz0, _⟩ := hR1 i y _ (s1.trans s2) hy
                have hk := hk rfl _ (Same.refl _)
                rw [List.getD_eq_getElem?_getD, he] at hk
                exact ⟨rfl, _, rfl, b, zs, _, _, rfl, rfl, SqT.of hz.2.2, atI_nat (j := 0) hz0, hk⟩
              · intro H2 s2' h2
                have s2 := s1.trans s2'
                rw [filt_all] at h2
                have el : (List.range ys.length).map (fun i => V.int (asInt (itT 0 (rs.getD i .none)))) = (rs.map fun r => asInt (itT 0 r)).map V.int := by
                  rw [hl2]
                  refine List.ext_getElem? fun i => ?_
                  by_cases hi : i < rs.length
                  · simp [hi]
                  · rw [List.getElem?_eq_none (by simpa using hi), List.getElem?_eq_none (by simpa using hi)]
                rw [el] at h2
                have hll : (rs.map fun r => asInt (itT 0 r)).length ≤ 52 := by rw [List.length_map]; exact b4.1
                generalize (rs.map fun r => asInt (itT 0 r)) = ns at h2 hll q
                refine ⟨_, rfl, _, rfl, L, ns, rfl, .inl (SqL.of h2), by omega, fun st M hst nd hm hml => ?_⟩
                have nLs : L ≠ st := ne_of_none h2 hst
                refine ⟨st, _, _, rfl, upd_same, by omega, fun ns' r hpw hmem hlen' hr' => ?_⟩
                have nLr : L ≠ r := ne_of_none (by rw [upd_ne nLs]; exact h2) hr'
                refine ⟨.list (ns.map .int), .list (ns'.map .int), .lst (SqL.of (by rw [upd_ne nLr, upd_ne nLs]; exact h2)) (dpIntsG _), .lst (SqL.of upd_same) (dpIntsG _), shaped_ints _, shaped_ints _, ?_⟩
                have e2 : PyData.eqv (.list (ns.map .int)) (.list (ns'.map .int)) = ascI ns := by
                  rw [PyData.eqv, eqv_ints, Bool.eq_iff_iff, decide_eq_true_eq, ascI_iff]
                  constructor
                  · rintro rfl
                    exact hpw
                  · intro h
                    exact asc_uniq h hpw fun k => by rw [hmem k, decide_eq_true_eq]
                rw [e2]
                have s3 := (s2.trans (same_new hst)).trans (same_new (o := .lst (ns'.map V.int)) hr')
                generalize upd (upd H2 st _) r _ = H3 at s3 ⊢
                cases ha : ascI ns with
                | false =>
                  rw [ha, Bool.false_and] at q
                  exact ⟨_, rfl, iteT (q _ s3)⟩
                | true =>
                rw [ha, Bool.true_and] at q
                refine ⟨_, rfl, iteF ?_⟩
                have hb3 := s3 _ _ hb2.2.2
                refine ⟨_, rfl, _, rfl, ?_⟩
                cases up with
                | false =>
                  refine iteT ⟨_, rfl, _, rfl, _, rfl, ?_⟩
                  rw [if_neg (by decide)] at q
                  cases lv with
                  | true => exact iteF (q _ s3)
                  | false =>
                    refine iteT ⟨_, rfl, sz (Nat.zero_le _), fun t ht => ?_⟩
                    refine ⟨a2, ys, t, rfl, (same_new ht) _ _ hb3, rfl, upd_same, ?_⟩
                    have e : decide (ys = []) = decide (rs = []) := by
                      rw [Bool.eq_iff_iff, decide_eq_true_eq, decide_eq_true_eq, ← List.length_eq_zero_iff, ← List.length_eq_zero_iff, hl2]
                    rw [e]
                    exact q _ (s3.trans (same_new ht))
                | true =>
                  refine iteF ⟨_, rfl, _, rfl, _, rfl, ?_⟩
                  rw [if_pos rfl] at q
                  cases lv with
                  | false => exact iteT (q _ s3)
                  | true =>
                    refine iteF ⟨_, rfl, a2, rfl, ⟨_, SqT.of hb3⟩, fun D2 hD2 => ?_⟩
                    refine lc_sel (walk_tup (K := K) (a := a2) (xs := ys)) (fun _ => true) (fun i => txV (itT 5 (rs.getD i .none))) (by omega) hD2 (fun H' s => SqT.of (s _ _ hb3)) ?_ ?_
                    · rintro i y H4 H5 k kf hi s4 ⟨rfl, hy⟩ hk _
                      obtain ⟨e, he, b, zs, x, rfl, hz, _, hz5, hx⟩ := hR1 i y _ (s3.trans s4) hy
                      have hk := hk rfl _ (Same.refl _)
                      rw [List.getD_eq_getElem?_getD, he] at hk
                      have hk : k (txV (itT 5 e)) H5 := hk
                      rw [hx] at hk
                      exact ⟨rfl, _, rfl, b, zs, _, _, rfl, rfl, SqT.of hz.2.2, atI_nat (j := 5) hz5, hk⟩
                    · intro H4 s4 h4
                      rw [filt_all, hl2] at h4
                      have el : (List.range rs.length).map (fun i => txV (itT 5 (rs.getD i .none))) = rs.map fun r => txV (itT 5 r) := by
                        refine List.ext_getElem? fun i => ?_
                        by_cases hi : i < rs.length
                        · simp [hi]
                        · rw [List.getElem?_eq_none (by simpa using hi), List.getElem?_eq_none (by simpa using hi)]
                      rw [el] at h4
                      refine ⟨D2, _, rfl, .inl (SqL.of h4), rfl, ?_, ?_⟩
                      · rw [List.all_map, List.all_eq_true]
                        exact fun r _ => by
                          show flatV (txV (itT 5 r)) = true
                          cases itT 5 r <;> rfl
                      · refine show Q (.bl (!inV (V.str (Str.ofString "open")) (rs.map fun r => txV (itT 5 r)))) H4 from ?_
                        rw [in_open]
                        exact q _ (s3.trans s4)
          | _ => cases hT4
        · have e5 : (!decide (V.int (xs.length : Nat) = V.int 5)) = true := by
            rw [hlen]
            simp
            omega
          rw [house5 h5] at q
          rw [e5]
          exact iteT (q _ (Same.refl _))
      | _ => cases hT
end
end Ag

end
/-! ## ZS -/
section
set_option linter.all false
set_option maxRecDepth 100000
set_option maxHeartbeats 4000000
namespace Ag
open PySem PySem.Spec PyProof.Rows L2
open SX (S S_len S_cat S_inj)
theorem whole_most {hi : Int} (h : hi ≤ 1000000000) (d : PyData) : (wholeB 1 1000000000 d && decide (asInt d ≤ hi)) = wholeB 1 hi d := by
  cases d with
  | int i =>
    simp only [wholeB, asInt]
    rw [Bool.eq_iff_iff]
    simp only [Bool.and_eq_true, decide_eq_true_eq]
    exact ⟨fun h => ⟨h.1.1, of_decide_eq_true h.2⟩, fun h => ⟨⟨h.1, by omega⟩, decide_eq_true h.2⟩⟩
  | _ => rfl
theorem sel_nil {n : Nat} {t : Nat → Bool} {e : Nat → V} : decide (((List.range n).filter t).map e = []) = decide ((List.range n).filter t = []) := by
  rw [Bool.eq_iff_iff, decide_eq_true_eq, decide_eq_true_eq, List.map_eq_nil_iff]
theorem beq_sw (b z : Str) : (b == z) = (z == b) := by
  rw [show z = S z.cps.toList from rfl, show b = S b.cps.toList from rfl, str_beq, str_beq]
  rw [Bool.eq_iff_iff, decide_eq_true_eq, decide_eq_true_eq]
  exact ⟨Eq.symm, Eq.symm⟩
theorem beq_no {z a b : Str} (h : (z == a) = true) (n : (a == b) = false) : (z == b) = false := by
  rw [show z = S z.cps.toList from rfl, show a = S a.cps.toList from rfl, str_beq, decide_eq_true_eq] at h
  have e : z = a := by
    rw [show z = S z.cps.toList from rfl, show a = S a.cps.toList from rfl, h]
  rw [e]
  exact n
section
variable {P : Program} {w : World} {K : PySem.W.Frag} {mg : Str → Option Value} {base : Heap} {tm tn tb : Tok}
def spLRowD (K : PySem.W.Frag) : Sp := fun vs H Q _ => ∃ p c v d, vs = [v] ∧ Do K p c H v d ∧ bB 52 d = true ∧ ∀ H', Same H H' → Q (.bl (rowB d)) H'
theorem ok_lrow_D (hset : mg "set" = none) {f f1 f2 f3 : Addr} {fd fd1 fd2 fd3 : FuncData} (F : Fn K mg "_law_is_row" s__law_is_row ["_law_row_here"] f fd) (B : Con mg tm tn tb)
    (F__law_is_number : Fn K mg "_law_is_number" s__law_is_number ["_law_thing", "_law_low"] f1 fd1) (G__law_is_number : FnOk P w K mg base CX0 1 f1 fd1 ["_law_thing", "_law_low"] (spLNumD K))
    (F__law_is_rest : Fn K mg "_law_is_rest" s__law_is_rest ["_law_thing"] f2 fd2) (G__law_is_rest : FnOk P w K mg base CX0 2 f2 fd2 ["_law_thing"] (fun vs H Q E => ∃ p c v d, vs = [v] ∧ Do K p c H v d ∧ sOk5 d ∧ ∀ H', Same H H' → Q (.bl (rstB d)) H'))
    (F__law_is_body : Fn K mg "_law_is_body" s__law_is_body ["_law_thing"] f3 fd3) (G__law_is_body : FnOk P w K mg base CX0 1 f3 fd3 ["_law_thing"] (spTxtS K 150)) :
    FnOk P w K mg base CX0 3 f fd ["_law_row_here"] (spLRowD K) := by
  refine F.F.ok sc__law_is_row (fun vs H Q E h => ?_) (fun cdv A outer s H vs Q E hr h => ?_)
  · obtain ⟨p, c, x, d, rfl, _⟩ := h
    rfl
  · obtain ⟨p, c, x, d, rfl, hd, hb, q⟩ := h
    refine ⟨_, (pss_cons (ps_if (PW.pt (pw_or (pt_not (pt_val (pe_callB call_isi (by rfl) B.n_isinstance (by decide +kernel) (pa_cons (pv 0) (pa_cons (pe_bltn (v := .ty "tuple") (by rfl) B.n_tuple (by decide +kernel) rfl) pa_nil))))) (pw_or (pt_cmpR op_ne (pe_callB call_len_seq (by rfl) B.n_len PySem.boot_len (pa_cons (pv 0) pa_nil)) pe_int (nomark _)) (pw_or (pt_not (pt_val (pe_call G__law_is_number (hr.mono (by decide)) (by rfl) F__law_is_number.g F__law_is_number.F.kp F__law_is_number.b .nil pass0 (pa_cons (pe_ix (ix_tupK K rfl) (pv 0) pe_int (fun _ _ => rfl)) (pa_cons pe_int pa_nil))))) (pw_or1 (pt_not (pt_val (pe_call G__law_is_rest (hr.mono (by decide)) (by rfl) F__law_is_rest.g F__law_is_rest.F.kp F__law_is_rest.b .nil pass0 (pa_cons (pe_ix (ix_tupK K rfl) (pv 0) pe_int (fun _ _ => rfl)) pa_nil)))))))))
      (pss_one (ps_ret pe_bl))
      pss_nil)
      (pss_cons (ps_if (PW.pt (pw_or (pt_not (pt_val (pe_callB call_isi (by rfl) B.n_isinstance (by decide +kernel) (pa_cons (pe_ix (ix_tupK K rfl) (pv 0) pe_int (fun _ _ => rfl)) (pa_cons (pe_bltn (v := .ty "tuple") (by rfl) B.n_tuple (by decide +kernel) rfl) pa_nil))))) (pw_or1 (pt_cmpR (op_neL0 hr.units) (pe_lc (own := [("_law_body_here", 1)]) rfl sc__law_is_row.nd (pi_tup (pe_ix (ix_tupK K rfl) (pv 0) pe_int (fun _ _ => rfl))) (blkOk_by (N := N__law_is_row) (sc := defScope s__law_is_row) (by decide +kernel)) (fun _ _ _ _ _ => (pg_name (i := 1) sc__law_is_row.nd rfl (Or.inl rfl))) (fun _ _ _ _ _ => (pts_one (pt_not (pt_val (pe_call G__law_is_body (hr.mono (by decide)) (by rfl) F__law_is_body.g F__law_is_body.F.kp F__law_is_body.b .nil pass0 (pa_cons (pv 1) pa_nil)))))) (fun _ _ _ _ _ => (pv 1))) (pe_lst pa_nil) (nomark _)))))
      (pss_one (ps_ret pe_bl))
      pss_nil)
      (pss_cons (ps_if (PW.pt (pw_or (pt_not (pt_val (pe_call G__law_is_number (hr.mono (by decide)) (by rfl) F__law_is_number.g F__law_is_number.F.kp F__law_is_number.b .nil pass0 (pa_cons (pe_ix (ix_tupK K rfl) (pv 0) pe_int (fun _ _ => rfl)) (pa_cons pe_int pa_nil))))) (pw_or (pt_cmpR op_gt (pe_ix (ix_tupK K rfl) (pv 0) pe_int (fun _ _ => rfl)) (pe_callB call_len_seq (by rfl) B.n_len PySem.boot_len (pa_cons (pe_ix (ix_tupK K rfl) (pv 0) pe_int (fun _ _ => rfl)) pa_nil)) (nomark _)) (pw_or1 (pt_not (pt_val (pe_callB call_isi (by rfl) B.n_isinstance (by decide +kernel) (pa_cons (pe_ix (ix_tupK K rfl) (pv 0) pe_int (fun _ _ => rfl)) (pa_cons (pe_bltn (v := .ty "tuple") (by rfl) B.n_tuple (by decide +kernel) rfl) pa_nil)))))))))
      (pss_one (ps_ret pe_bl))
      pss_nil)
      (pss_cons (ps_if (PW.pt (pw_or (pt_cmpR (op_neL0 hr.units) (pe_lc (own := [("_law_one", 2)]) rfl sc__law_is_row.nd (pi_tup (pe_ix (ix_tupK K rfl) (pv 0) pe_int (fun _ _ => rfl))) (blkOk_by (N := N__law_is_row) (sc := defScope s__law_is_row) (by decide +kernel)) (fun _ _ _ _ _ => (pg_name (i := 2) sc__law_is_row.nd rfl (Or.inl rfl))) (fun _ _ _ _ _ => (pts_one (PW.pt (pw_or (pt_not (pt_val (pe_call G__law_is_number (hr.mono (by decide)) (by rfl) F__law_is_number.g F__law_is_number.F.kp F__law_is_number.b .nil pass0 (pa_cons (pv 2) (pa_cons pe_int pa_nil))))) (pw_or1 (pt_cmpR op_gt (pv 2) (pe_ix (ix_tupK K rfl) (pv 0) pe_int (fun _ _ => rfl)) (nomark _))))))) (fun _ _ _ _ _ => (pv 2))) (pe_lst pa_nil) (nomark _)) (pw_or1 (pt_cmpR (op_neD hr.units) (pe_callTy call_list_of (by rfl) B.n_list (by decide +kernel) (pa_cons (pe_ix (ix_tupK K rfl) (pv 0) pe_int (fun _ _ => rfl)) pa_nil)) (pe_callB (cr_sortedSet rfl) (by rfl) B.n_sorted (by decide +kernel) (pa_cons (pe_callTy (cr_setI rfl) (by rfl) hset (by decide +kernel) (pa_cons (pe_ix (ix_tupK K rfl) (pv 0) pe_int (fun _ _ => rfl)) pa_nil)) pa_nil)) (nomark _)))))
      (pss_one (ps_ret pe_bl))
      pss_nil)
      (pss_cons (ps_if (PW.pt (pw_or (pt_not (pt_val (pe_callB call_isi (by rfl) B.n_isinstance (by decide +kernel) (pa_cons (pe_ix (ix_tupK K rfl) (pv 0) pe_int (fun _ _ => rfl)) (pa_cons (pe_bltn (v := .ty "str") (by rfl) B.n_str (by decide +kernel) rfl) pa_nil))))) (pw_or1 (pt_cmpR op_notIn_seq (pe_ix (ix_tupK K rfl) (pv 0) pe_int (fun _ _ => rfl)) (pe_tup (pa_cons pe_str (pa_cons pe_str (pa_cons pe_str pa_nil)))) rfl))))
      (pss_one (ps_ret pe_bl))
      pss_nil)
      (pss_one (ps_ret (pe_or (pe_cmpR op_eq (pe_ix (ix_tupK K rfl) (pv 0) pe_int (fun _ _ => rfl)) pe_str (nomark _)) (pe_one (pe_and (pe_cmpR op_eq (pe_callB call_len_seq (by rfl) B.n_len PySem.boot_len (pa_cons (pe_ix (ix_tupK K rfl) (pv 0) pe_int (fun _ _ => rfl)) pa_nil)) (pe_ix (ix_tupK K rfl) (pv 0) pe_int (fun _ _ => rfl)) (nomark _)) (pe_one (pe_or (pe_cmpR op_eq (pe_ix (ix_tupK K rfl) (pv 0) pe_int (fun _ _ => rfl)) pe_str (nomark _)) (pe_one (pe_cmpR op_eq (pe_ix (ix_tupK K rfl) (pv 0) pe_int (fun _ _ => rfl)) pe_str (nomark _))))))))))))))), ?_⟩
    refine ⟨_, rfl, x, .ty "tuple", _, _, _, rfl, .ty "tuple", hd.tyx, hd.kT, _, rfl, ?_⟩
    cases hT : isT d with
    | false =>
      rw [row_not hT] at q
      exact iteT (iteT (q _ (Same.refl _)))
    | true =>
      cases hd with
      | @tup a xs ds ha hA =>
        rw [bB_tup, Bool.and_eq_true] at hb
        have hb := hb.2
        refine iteF ?_
        refine ⟨_, rfl, a, xs, rfl, .inr (SqT.of ha.2.2), rfl, _, rfl, ?_⟩
        have hlen := hA.len
        by_cases h6 : ds.length = 6
        · have e6 : (!decide (V.int (xs.length : Nat) = V.int 6)) = false := by
            rw [hlen, h6]
            rfl
          rw [e6]
          refine iteF ?_
          obtain ⟨e0, e1, e2, e3, e4, e5, rfl⟩ := len6 h6
          obtain ⟨x0, x1, x2, x3, x4, x5, rfl⟩ := len6 (hlen.trans h6)
          match hA with
          | .cons g0 (.cons g1 (.cons g2 (.cons g3 (.cons g4 (.cons g5 .nil))))) =>
          simp only [List.all_cons, List.all_nil, Bool.and_true, Bool.and_eq_true] at hb
          obtain ⟨b0, b1, b2, b3, b4, b5⟩ := hb
          have q : ∀ H', Same H H' → Q (.bl ((wholeB 0 1000000000 e0 && rstB e1) && (bodiesB e2 && ((wholeB 0 1000000000 e3 && (decide (asInt e3 ≤ lenT e2) && cntB (asInt e3) e4)) && stB (lenT e2) (asInt e3) e1 e5)))) H' := q
          -- the number and the rest
          refine ⟨_, rfl, a, _, _, x0, rfl, rfl, SqT.of ha.2.2, atI_nat (j := 0) rfl, p, c, x0, e0, 0, rfl, g0, _, rfl, ?_⟩
          cases h0 : wholeB 0 1000000000 e0 with
          | false =>
            rw [h0, Bool.false_and, Bool.false_and] at q
            exact iteT (iteT (q _ (Same.refl _)))
          | true =>
          rw [h0, Bool.true_and] at q
          refine iteF ⟨_, rfl, a, _, _, x1, rfl, rfl, SqT.of ha.2.2, atI_nat (j := 1) rfl, p, c, x1, e1, rfl, g1, bB_sOk5 b1 (by decide), fun H1 s1 => ⟨_, rfl, ?_⟩⟩
          cases h1 : rstB e1 with
          | false =>
            rw [h1, Bool.false_and] at q
            exact iteT (q _ s1)
          | true =>
          rw [h1, Bool.true_and] at q
          refine iteF ?_
          -- the bodies
          have g2 := g2.to (.same s1)
          refine ⟨_, rfl, a, _, _, x2, rfl, rfl, SqT.of (s1 _ _ ha.2.2), atI_nat (j := 2) rfl, x2, .ty "tuple", _, _, _, rfl, .ty "tuple", g2.tyx, g2.kT, _, rfl, ?_⟩
          cases g2 with
          | @tup a2 ys us hb2 hS =>
            rw [bB_tup, Bool.and_eq_true, decide_eq_true_eq] at b2
            have hul : us.length = ys.length := hS.len.symm
            have q : ∀ H', Same H H' → Q (.bl (us.all (txtB 150) && ((wholeB 0 1000000000 e3 && (decide (asInt e3 ≤ (us.length : Nat)) && cntB (asInt e3) e4)) && stB us.length (asInt e3) e1 e5))) H' := q
            refine iteF ?_
            refine ⟨_, rfl, a, _, _, _, rfl, rfl, SqT.of (s1 _ _ ha.2.2), atI_nat (j := 2) rfl, a2, rfl, ⟨_, SqT.of hb2.2.2⟩, fun D hD => ?_⟩
            refine lc_sel (walk_tup (K := K) (a := a2) (xs := ys)) (fun i => !txtB 150 (us.getD i .none)) (fun i => ys.getD i .non) (by omega) hD (fun H' s => SqT.of (s _ _ hb2.2.2)) ?_ ?_
            · rintro i y H2 H3 k k0 hi s2 ⟨rfl, hy⟩ hk hk0
              obtain ⟨d, hdi, hdg⟩ := hS.at_ hy
              have ey : ys.getD i .non = y := by rw [List.getD_eq_getElem?_getD, hy]; rfl
              rw [ey] at hk
              rw [List.getD_eq_getElem?_getD, hdi] at hk hk0
              refine ⟨rfl, _, rfl, p, c, y, d, rfl, hdg.to (.same s2), bB_sOk (List.all_eq_true.mp b2.2 d (List.mem_of_getElem? hdi)) (by decide), fun H4 s4 => ⟨_, rfl, ?_⟩⟩
              cases ht : txtB 150 d with
              | false => exact iteT ⟨_, rfl, hk (by show (!txtB 150 d) = true; rw [ht]; rfl) _ s4⟩
              | true => exact iteF (hk0 (by show (!txtB 150 d) = false; rw [ht]; rfl) _ s4)
            · intro H2 s12 h2
              have s2 := s1.trans s12
              rw [← hul] at h2
              refine ⟨Nat.zero_le _, fun t ht => ?_⟩
              have s3' := same_new (o := .lst []) ht
              refine ⟨D, _, t, rfl, s3' _ _ h2, rfl, upd_same, _, rfl, ?_⟩
              have s3 := s2.trans s3'
              rw [sel_nil, none_at us (txtB 150) .none]
              generalize upd H2 t (.lst []) = H3 at s3' s3 ⊢
              cases hbs : us.all (txtB 150) with
              | false =>
                rw [hbs, Bool.false_and] at q
                exact iteT (q _ s3)
              | true =>
              rw [hbs, Bool.true_and] at q
              refine iteF ?_
              have hb3 : At p c H3 a2 (.tup ys) := hb2.kp (.same (s12.trans s3'))
              have ha3 := s3 _ _ ha.2.2
              have g3 := g3.to (.same s3)
              -- what was begun, what is done
              refine ⟨_, rfl, a, _, _, x3, rfl, rfl, SqT.of ha3, atI_nat (j := 3) rfl, p, c, x3, e3, 0, rfl, g3, _, rfl, ?_⟩
              cases h3 : wholeB 0 1000000000 e3 with
              | false =>
                rw [h3, Bool.false_and, Bool.false_and] at q
                exact iteT (iteT (q _ s3))
              | true =>
              rw [h3, Bool.true_and] at q
              refine iteF ?_
              have e3i := g3.intE h3
              subst e3i
              refine ⟨_, rfl, a, _, _, _, rfl, rfl, SqT.of ha3, atI_nat (j := 3) rfl, _, rfl, a, _, _, _, rfl, rfl, SqT.of ha3, atI_nat (j := 2) rfl, a2, ys, rfl, .inr (SqT.of hb3.2.2), _, _, rfl, rfl, _, rfl, ?_⟩
              rw [← hul]
              have ed : decide (asInt e3 > (us.length : Nat)) = !decide (asInt e3 ≤ (us.length : Nat)) := by
                rw [Bool.eq_iff_iff, Bool.not_eq_true', decide_eq_false_iff_not, decide_eq_true_eq]
                omega
              rw [ed]
              cases h4 : decide (asInt e3 ≤ (us.length : Nat)) with
              | false =>
                rw [h4, Bool.false_and, Bool.false_and] at q
                exact iteT (iteT (q _ s3))
              | true =>
              rw [h4, Bool.true_and] at q
              rw [decide_eq_true_eq] at h4
              have hmost : asInt e3 ≤ 1000000000 := by omega
              have g4 := g4.to (.same s3)
              refine iteF ⟨_, rfl, a, _, _, x4, rfl, rfl, SqT.of ha3, atI_nat (j := 4) rfl, x4, .ty "tuple", _, _, _, rfl, .ty "tuple", g4.tyx, g4.kT, _, rfl, ?_⟩
              cases g4 with
              | @tup a4 zs os hb4 hO =>
                rw [bB_tup, Bool.and_eq_true, decide_eq_true_eq] at b4
                have hol : os.length = zs.length := hO.len.symm
                have q : ∀ H', Same H H' → Q (.bl ((os.all (wholeB 1 (asInt e3)) && ascI (os.map asInt)) && stB us.length (asInt e3) e1 e5)) H' := q
                refine iteF ?_
                refine ⟨_, rfl, a, _, _, _, rfl, rfl, SqT.of ha3, atI_nat (j := 4) rfl, a4, rfl, ⟨_, SqT.of hb4.2.2⟩, fun D3 hD3 => ?_⟩
                refine lc_sel (walk_tup (K := K) (a := a4) (xs := zs)) (fun i => !wholeB 1 (asInt e3) (os.getD i .none)) (fun i => zs.getD i .non) (by omega) hD3 (fun H' s => SqT.of (s _ _ hb4.2.2)) ?_ ?_
                · rintro i y H4 H5 k k0 hi s4 ⟨rfl, hy⟩ hk hk0
                  obtain ⟨d, hdi, hdg⟩ := hO.at_ hy
                  have hdg := hdg.to (.same s4)
                  have ey : zs.getD i .non = y := by rw [List.getD_eq_getElem?_getD, hy]; rfl
                  rw [ey] at hk
                  rw [List.getD_eq_getElem?_getD, hdi] at hk hk0
                  have hk : (!wholeB 1 (asInt e3) d) = true → ∀ H6, Same H5 H6 → k y H6 := hk
                  have hk0 : (!wholeB 1 (asInt e3) d) = false → ∀ H6, Same H5 H6 → k0 H6 := hk0
                  rw [← whole_most hmost] at hk hk0
                  refine ⟨rfl, _, rfl, p, c, y, d, 1, rfl, hdg, _, rfl, ?_⟩
                  cases h1 : wholeB 1 1000000000 d with
                  | false =>
                    rw [h1] at hk
                    exact iteT (iteT ⟨_, rfl, hk rfl _ (Same.refl _)⟩)
                  | true =>
                    rw [h1, Bool.true_and] at hk hk0
                    have hyi := hdg.intE h1
                    subst hyi
                    refine iteF ⟨_, rfl, _, rfl, a, _, _, _, rfl, rfl, SqT.of (s4 _ _ ha3), atI_nat (j := 3) rfl, _, _, rfl, rfl, _, rfl, ?_⟩
                    have ed : decide (asInt d > asInt e3) = !decide (asInt d ≤ asInt e3) := by
                      rw [Bool.eq_iff_iff, Bool.not_eq_true', decide_eq_false_iff_not, decide_eq_true_eq]
                      omega
                    rw [ed]
                    cases h2 : decide (asInt d ≤ asInt e3) with
                    | false =>
                      rw [h2] at hk
                      exact iteT ⟨_, rfl, hk rfl _ (Same.refl _)⟩
                    | true =>
                      rw [h2] at hk0
                      exact iteF (hk0 rfl _ (Same.refl _))
                · intro H4 s4' h4'
                  have s4 := s3.trans s4'
                  rw [← hol] at h4'
                  refine ⟨Nat.zero_le _, fun t5 ht5 => ?_⟩
                  have s5' := same_new (o := .lst []) ht5
                  refine ⟨D3, _, t5, rfl, s5' _ _ h4', rfl, upd_same, _, rfl, ?_⟩
                  have s5 := s4.trans s5'
                  rw [sel_nil, none_at os (wholeB 1 (asInt e3)) .none]
                  generalize upd H4 t5 (.lst []) = H5 at s5' s5 ⊢
                  cases hbo : os.all (wholeB 1 (asInt e3)) with
                  | false =>
                    rw [hbo, Bool.false_and, Bool.false_and] at q
                    exact iteT (iteT (q _ s5))
                  | true =>
                  rw [hbo, Bool.true_and] at q
                  refine iteF ?_
                  have hb5 : At p c H5 a4 (.tup zs) := hb4.kp (.same (s4'.trans s5'))
                  have hzs := ints_of_D hO hbo
                  have hzl : (os.map asInt).length ≤ 52 := by rw [List.length_map]; exact b4.1
                  generalize os.map asInt = ns at hzs q hzl
                  subst hzs
                  refine ⟨_, rfl, a, _, _, _, rfl, rfl, SqT.of (s5 _ _ ha.2.2), atI_nat (j := 4) rfl, a4, _, rfl, .inr (SqT.of hb5.2.2), fun L hL => ?_⟩
                  have s6 := same_new (o := .lst (ns.map V.int)) hL
                  refine ⟨_, rfl, a, _, _, _, rfl, rfl, SqT.of (s6 _ _ (s5 _ _ ha.2.2)), atI_nat (j := 4) rfl, a4, ns, rfl, .inr (SqT.of (s6 _ _ hb5.2.2)), by omega, fun st M hst nd hm hml => ?_⟩
                  have nLs : L ≠ st := ne_of_none (H := upd H5 L (.lst (ns.map V.int))) upd_same hst
                  refine ⟨st, _, _, rfl, upd_same, by omega, fun ns' r hpw hmem hlen' hr' => ?_⟩
                  have nLr : L ≠ r := ne_of_none (by rw [upd_ne nLs]; exact upd_same) hr'
                  refine ⟨.list (ns.map .int), .list (ns'.map .int), .lst (SqL.of (by rw [upd_ne nLr, upd_ne nLs]; exact upd_same)) (dpIntsG _), .lst (SqL.of upd_same) (dpIntsG _), shaped_ints _, shaped_ints _, ?_⟩
                  have e2 : PyData.eqv (.list (ns.map .int)) (.list (ns'.map .int)) = ascI ns := by
                    rw [PyData.eqv, eqv_ints, Bool.eq_iff_iff, decide_eq_true_eq, ascI_iff]
                    constructor
                    · rintro rfl
                      exact hpw
                    · intro h
                      exact asc_uniq h hpw fun k => by rw [hmem k, decide_eq_true_eq]
                  rw [e2]
                  have s7' := (s6.trans (same_new hst)).trans (same_new (o := .lst (ns'.map V.int)) hr')
                  have s7 := s5.trans s7'
                  generalize upd (upd (upd H5 L _) st _) r _ = H7 at s7' s7 ⊢
                  cases hac : ascI ns with
                  | false =>
                    rw [hac, Bool.false_and] at q
                    exact ⟨_, rfl, iteT (q _ s7)⟩
                  | true =>
                  rw [hac, Bool.true_and] at q
                  refine ⟨_, rfl, iteF ?_⟩
                  have ha7 := s7 _ _ ha.2.2
                  have hb7 : At p c H7 a2 (.tup ys) := hb3.kp (.same ((s4'.trans s5').trans s7'))
                  have g5 := g5.to (.same s7)
                  have g1 := g1.to (.same s7)
                  unfold stB at q
                  -- the state
                  refine ⟨_, rfl, a, _, _, x5, rfl, rfl, SqT.of ha7, atI_nat (j := 5) rfl, x5, .ty "str", _, _, _, rfl, .ty "str", g5.tyx, g5.kS, _, rfl, ?_⟩
                  cases g5 with
                  | str z =>
                    refine iteF ?_
                    have q : ∀ H', Same H H' → Q (.bl (if (z == Str.ofString "closed") = true then decide (asInt e3 = us.length) && eqDS (Str.ofString "") e1 else (z == Str.ofString "open") || ((z == Str.ofString "away") && decide (asInt e3 = us.length)))) H' := q
                    refine ⟨_, rfl, a, _, _, _, rfl, rfl, SqT.of ha7, atI_nat (j := 5) rfl, sz (by show 3 ≤ 16000000; decide), fun t ht => ?_⟩
                    refine ⟨t, _, rfl, .inr (SqT.of upd_same), rfl, rfl, _, rfl, ?_⟩
                    have s8' := same_new (o := .tup [.str (Str.ofString "open"), .str (Str.ofString "away"), .str (Str.ofString "closed")]) ht
                    have s8 := s7.trans s8'
                    generalize upd H7 t (.tup [.str (Str.ofString "open"), .str (Str.ofString "away"), .str (Str.ofString "closed")]) = H8 at s8' s8 ⊢
                    have ha8 := s8 _ _ ha.2.2
                    have hb8 : At p c H8 a2 (.tup ys) := hb7.kp (.same s8')
                    have g1 := g1.to (.same s8')
                    refine show if (!(Str.ofString "open" == z || (Str.ofString "away" == z || (Str.ofString "closed" == z || false)))) = true then _ else _ from ?_
                    rw [beq_sw (Str.ofString "open"), beq_sw (Str.ofString "away"), beq_sw (Str.ofString "closed"), Bool.or_false]
                    have en : decide (V.int (us.length : Nat) = V.int (asInt e3)) = decide (asInt e3 = us.length) := by
                      rw [Bool.eq_iff_iff, decide_eq_true_eq, decide_eq_true_eq]
                      constructor
                      · intro h
                        injection h with h
                        exact h.symm
                      · intro h
                        rw [h]
                    have ev : ∀ b : Str, decide (V.str z = V.str b) = (z == b) := fun b => by
                      rw [show z = S z.cps.toList from rfl, show b = S b.cps.toList from rfl, str_beq, Bool.eq_iff_iff, decide_eq_true_eq, decide_eq_true_eq]
                      constructor
                      · intro h
                        injection h with h
                        exact S_inj h
                      · intro h
                        rw [h]
                    cases g1 with
                    | str y =>
                      have ew : decide (V.str y = V.str (Str.ofString "")) = eqDS (Str.ofString "") (.str y) := by
                        show _ = (y == Str.ofString "")
                        rw [show y = S y.cps.toList from rfl, show Str.ofString "" = S (Str.ofString "").cps.toList from rfl, str_beq, Bool.eq_iff_iff, decide_eq_true_eq, decide_eq_true_eq]
                        constructor
                        · intro h
                          injection h with h
                          exact S_inj h
                        · intro h
                          rw [h]
                      cases z1 : (z == Str.ofString "open") with
                      | true =>
                        have z3 : (z == Str.ofString "closed") = false := beq_no z1 (by decide +kernel)
                        rw [z1, z3, if_neg (by decide), Bool.true_or] at q
                        refine iteF ⟨_, rfl, a, _, _, _, rfl, rfl, SqT.of ha8, atI_nat (j := 5) rfl, rfl, _, rfl, ?_⟩
                        rw [ev, z1]
                        exact iteT (q _ s8)
                      | false =>
                        rw [Bool.false_or]
                        cases z2 : (z == Str.ofString "away") with
                        | true =>
                          have z3 : (z == Str.ofString "closed") = false := beq_no z2 (by decide +kernel)
                          rw [z1, z2, z3, if_neg (by decide), Bool.false_or, Bool.true_and] at q
                          refine iteF ⟨_, rfl, a, _, _, _, rfl, rfl, SqT.of ha8, atI_nat (j := 5) rfl, rfl, _, rfl, ?_⟩
                          rw [ev, z1]
                          refine iteF ⟨_, rfl, a, _, _, _, rfl, rfl, SqT.of ha8, atI_nat (j := 2) rfl, a2, ys, rfl, .inr (SqT.of hb8.2.2), _, rfl, a, _, _, _, rfl, rfl, SqT.of ha8, atI_nat (j := 3) rfl, rfl, _, rfl, ?_⟩
                          rw [← hul, en]
                          cases h9 : decide (asInt e3 = us.length) with
                          | false =>
                            rw [h9] at q
                            exact iteF (q _ s8)
                          | true =>
                            rw [h9] at q
                            refine iteT ⟨_, rfl, a, _, _, _, rfl, rfl, SqT.of ha8, atI_nat (j := 5) rfl, rfl, _, rfl, ?_⟩
                            rw [ev, z2]
                            exact iteT (q _ s8)
                        | false =>
                          rw [Bool.false_or]
                          cases z3 : (z == Str.ofString "closed") with
                          | false =>
                            rw [z1, z2, z3, if_neg (by decide), Bool.false_or, Bool.false_and] at q
                            exact iteT (q _ s8)
                          | true =>
                            rw [z3, if_pos rfl] at q
                            refine iteF ⟨_, rfl, a, _, _, _, rfl, rfl, SqT.of ha8, atI_nat (j := 5) rfl, rfl, _, rfl, ?_⟩
                            rw [ev, z1]
                            refine iteF ⟨_, rfl, a, _, _, _, rfl, rfl, SqT.of ha8, atI_nat (j := 2) rfl, a2, ys, rfl, .inr (SqT.of hb8.2.2), _, rfl, a, _, _, _, rfl, rfl, SqT.of ha8, atI_nat (j := 3) rfl, rfl, _, rfl, ?_⟩
                            rw [← hul, en]
                            cases h9 : decide (asInt e3 = us.length) with
                            | false =>
                              rw [h9, Bool.false_and] at q
                              exact iteF (q _ s8)
                            | true =>
                              rw [h9, Bool.true_and] at q
                              refine iteT ⟨_, rfl, a, _, _, _, rfl, rfl, SqT.of ha8, atI_nat (j := 5) rfl, rfl, _, rfl, ?_⟩
                              rw [ev, z2]
                              refine iteF ⟨_, rfl, a, _, _, _, rfl, rfl, SqT.of ha8, atI_nat (j := 1) rfl, rfl, ?_⟩
                              rw [ew]
                              exact q _ s8
                    | _ => cases h1
                  | _ => exact iteT (iteT (q _ s7))
              | _ =>
                have q : ∀ H', Same H H' → Q (.bl (false && stB us.length (asInt e3) e1 _)) H' := q
                exact iteT (q _ s3)
          | _ =>
            rw [bodies_not (by simp [isT]), Bool.false_and] at q
            exact iteT (iteT (q _ s1))
        · have e6 : (!decide (V.int (xs.length : Nat) = V.int 6)) = true := by
            rw [hlen]
            simp
            omega
          rw [row6 h6] at q
          rw [e6]
          exact iteT (iteT (q _ (Same.refl _)))
      | _ => simp [isT] at hT
end
end Ag

end
/-! ## ZT -/
section
set_option linter.all false
set_option maxRecDepth 100000
set_option maxHeartbeats 4000000
namespace Ag
open PySem PySem.Spec PyProof.Rows L2
open SX (S S_len S_cat S_inj)
theorem whole_pos (d : PyData) : (wholeB 0 1000000000 d && !decide (asInt d = 0)) = wholeB 1 1000000000 d := by
  cases d with
  | int i =>
    show ((decide (0 ≤ i) && decide (i ≤ 1000000000)) && !decide (i = 0)) = (decide (1 ≤ i) && decide (i ≤ 1000000000))
    by_cases h : i = 0
    · subst h
      rfl
    · have e : decide (0 ≤ i) = decide (1 ≤ i) := by
        rw [Bool.eq_iff_iff, decide_eq_true_eq, decide_eq_true_eq]
        omega
      rw [e, decide_eq_false h, Bool.not_false, Bool.and_true]
  | _ => rfl
section
variable {P : Program} {w : World} {K : PySem.W.Frag} {mg : Str → Option Value} {base : Heap} {tm tn tb : Tok}
def spLHouseD (K : PySem.W.Frag) : Sp := fun vs H Q _ => ∃ p c v d, vs = [v] ∧ Do K p c H v d ∧ bB 52 d = true ∧ ∀ H', Same H H' → Q (.bl (houseB d)) H'
theorem ok_lhouse_D (hset : mg "set" = none) {f f1 f2 f3 : Addr} {fd fd1 fd2 fd3 : FuncData} (F : Fn K mg "_law_is_house" s__law_is_house ["_law_thing"] f fd) (B : Con mg tm tn tb)
    (F__law_is_word : Fn K mg "_law_is_word" s__law_is_word ["_law_thing"] f1 fd1) (G__law_is_word : FnOk P w K mg base CX0 1 f1 fd1 ["_law_thing"] (spWordS K))
    (F__law_is_number : Fn K mg "_law_is_number" s__law_is_number ["_law_thing", "_law_low"] f2 fd2) (G__law_is_number : FnOk P w K mg base CX0 1 f2 fd2 ["_law_thing", "_law_low"] (spLNumD K))
    (F__law_is_row : Fn K mg "_law_is_row" s__law_is_row ["_law_row_here"] f3 fd3) (G__law_is_row : FnOk P w K mg base CX0 3 f3 fd3 ["_law_row_here"] (spLRowD K)) :
    FnOk P w K mg base CX0 4 f fd ["_law_thing"] (spLHouseD K) := by
  refine F.F.ok sc__law_is_house (fun vs H Q E h => ?_) (fun cdv A outer s H vs Q E hr h => ?_)
  · obtain ⟨p, c, x, d, rfl, _⟩ := h
    rfl
  · obtain ⟨p, c, x, d, rfl, hd, hb, q⟩ := h
    refine ⟨_, (pss_cons (ps_if (PW.pt (pw_or (pt_not (pt_val (pe_callB call_isi (by rfl) B.n_isinstance (by decide +kernel) (pa_cons (pv 0) (pa_cons (pe_bltn (v := .ty "tuple") (by rfl) B.n_tuple (by decide +kernel) rfl) pa_nil))))) (pw_or (pt_cmpR op_ne (pe_callB call_len_seq (by rfl) B.n_len PySem.boot_len (pa_cons (pv 0) pa_nil)) pe_int (nomark _)) (pw_or (pt_not (pt_val (pe_call G__law_is_word (hr.mono (by decide)) (by rfl) F__law_is_word.g F__law_is_word.F.kp F__law_is_word.b .nil pass0 (pa_cons (pe_ix (ix_tupK K rfl) (pv 0) pe_int (fun _ _ => rfl)) pa_nil)))) (pw_or1 (pt_not (pt_val (pe_call G__law_is_number (hr.mono (by decide)) (by rfl) F__law_is_number.g F__law_is_number.F.kp F__law_is_number.b .nil pass0 (pa_cons (pe_ix (ix_tupK K rfl) (pv 0) pe_int (fun _ _ => rfl)) (pa_cons pe_int pa_nil))))))))))
      (pss_one (ps_ret pe_bl))
      pss_nil)
      (pss_cons (ps_if (PW.pt (pw_or (pt_not (pt_val (pe_callB call_isi (by rfl) B.n_isinstance (by decide +kernel) (pa_cons (pe_ix (ix_tupK K rfl) (pv 0) pe_int (fun _ _ => rfl)) (pa_cons (pe_bltn (v := .ty "bool") (by rfl) B.n_bool (by decide +kernel) rfl) pa_nil))))) (pw_or (pt_not (pt_val (pe_callB call_isi (by rfl) B.n_isinstance (by decide +kernel) (pa_cons (pe_ix (ix_tupK K rfl) (pv 0) pe_int (fun _ _ => rfl)) (pa_cons (pe_bltn (v := .ty "bool") (by rfl) B.n_bool (by decide +kernel) rfl) pa_nil))))) (pw_or1 (pt_not (pt_val (pe_callB call_isi (by rfl) B.n_isinstance (by decide +kernel) (pa_cons (pe_ix (ix_tupK K rfl) (pv 0) pe_int (fun _ _ => rfl)) (pa_cons (pe_bltn (v := .ty "tuple") (by rfl) B.n_tuple (by decide +kernel) rfl) pa_nil)))))))))
      (pss_one (ps_ret pe_bl))
      pss_nil)
      (pss_cons (ps_if (pt_cmpR (op_neL0 hr.units) (pe_lc (own := [("_law_row_here", 2)]) rfl sc__law_is_house.nd (pi_tup (pe_ix (ix_tupK K rfl) (pv 0) pe_int (fun _ _ => rfl))) (blkOk_by (N := N__law_is_house) (sc := defScope s__law_is_house) (by decide +kernel)) (fun _ _ _ _ _ => (pg_name (i := 2) sc__law_is_house.nd rfl (Or.inl rfl))) (fun _ _ _ _ _ => (pts_one (pt_not (pt_val (pe_call G__law_is_row (hr.mono (by decide)) (by rfl) F__law_is_row.g F__law_is_row.F.kp F__law_is_row.b .nil pass0 (pa_cons (pv 2) pa_nil)))))) (fun _ _ _ _ _ => (pv 2))) (pe_lst pa_nil) (nomark _))
      (pss_one (ps_ret pe_bl))
      pss_nil)
      (pss_cons (ps_setLc (i := 1) (own := [("_law_row_here", 2)]) rfl sc__law_is_house.nd rfl rfl (sw_true rfl rfl rfl (by decide +kernel)) (pi_tup (pe_ix (ix_tupK K rfl) (pv 0) pe_int (fun _ _ => rfl))) (blkOk_by (N := N__law_is_house) (sc := defScope s__law_is_house) (by decide +kernel)) (fun _ _ _ _ _ => (pg_name (i := 2) sc__law_is_house.nd rfl (Or.inl rfl))) (fun _ _ _ _ _ => pts_nil) (fun _ _ _ _ _ => (pe_ix (ix_tupK K rfl) (pv 2) pe_int (fun _ _ => rfl))))
      (pss_cons (ps_if (PW.pt (pw_or (pt_cmpR (op_neD hr.units) (pv 1) (pe_callB (cr_sortedSet rfl) (by rfl) B.n_sorted (by decide +kernel) (pa_cons (pe_callTy (cr_setI rfl) (by rfl) hset (by decide +kernel) (pa_cons (pv 1) pa_nil)) pa_nil)) (nomark _)) (pw_or1 (PW.pt (pw_and (pt_not (pt_val (pe_ix (ix_tupK K rfl) (pv 0) pe_int (fun _ _ => rfl)))) (pw_and1 (PW.pt (pw_or (pt_val (pe_ix (ix_tupK K rfl) (pv 0) pe_int (fun _ _ => rfl))) (pw_or1 (pt_cmpR (op_neL0 hr.units) (pv 1) (pe_lst pa_nil) (nomark _)))))))))))
      (pss_one (ps_ret pe_bl))
      pss_nil)
      (pss_one (ps_ret (pe_or (pe_not (pe_ix (ix_tupK K rfl) (pv 0) pe_int (fun _ _ => rfl))) (pe_one (pe_cmpR (op_eqL0 hr.units) (pe_lc (own := [("_law_row_here", 2)]) rfl sc__law_is_house.nd (pi_tup (pe_ix (ix_tupK K rfl) (pv 0) pe_int (fun _ _ => rfl))) (blkOk_by (N := N__law_is_house) (sc := defScope s__law_is_house) (by decide +kernel)) (fun _ _ _ _ _ => (pg_name (i := 2) sc__law_is_house.nd rfl (Or.inl rfl))) (fun _ _ _ _ _ => (pts_one (pt_cmpR op_eq (pe_ix (ix_tupK K rfl) (pv 2) pe_int (fun _ _ => rfl)) pe_str (nomark _)))) (fun _ _ _ _ _ => (pv 2))) (pe_lst pa_nil) (nomark _))))))))))), ?_⟩
    refine ⟨_, rfl, x, .ty "tuple", _, _, _, rfl, .ty "tuple", hd.tyx, hd.kT, _, rfl, ?_⟩
    cases hT : isT d with
    | false =>
      rw [house_not hT] at q
      exact iteT (iteT (q _ (Same.refl _)))
    | true =>
      cases hd with
      | @tup a xs ds ha hA =>
        rw [bB_tup, Bool.and_eq_true] at hb
        have hb := hb.2
        refine iteF ?_
        refine ⟨_, rfl, a, xs, rfl, .inr (SqT.of ha.2.2), rfl, _, rfl, ?_⟩
        have hlen := hA.len
        by_cases h5 : ds.length = 5
        · have e5 : (!decide (V.int (xs.length : Nat) = V.int 5)) = false := by
            rw [hlen, h5]
            rfl
          rw [e5]
          refine iteF ?_
          obtain ⟨e0, e1, e2, e3, e4, rfl⟩ := len5 h5
          obtain ⟨x0, x1, x2, x3, x4, rfl⟩ := len5 (hlen.trans h5)
          match hA with
          | .cons g0 (.cons g1 (.cons g2 (.cons g3 (.cons g4 .nil)))) =>
          simp only [List.all_cons, List.all_nil, Bool.and_true, Bool.and_eq_true] at hb
          obtain ⟨b0, b1, b2, b3, b4⟩ := hb
          have q : ∀ H', Same H H' → Q (.bl ((wordB e0 && (wholeB 0 1000000000 e1 && !decide (asInt e1 = 0))) && ((isB e2 && isB e3) && (rowsB e4 && shutB (asB e2) (asB e3) e4)))) H' := q
          rw [whole_pos] at q
          -- the name and the boot
          refine ⟨_, rfl, a, _, _, x0, rfl, rfl, SqT.of ha.2.2, atI_nat (j := 0) rfl, p, c, x0, e0, rfl, g0, bB_sOk b0 (by decide), fun H1 s1 => ⟨_, rfl, ?_⟩⟩
          cases h0 : wordB e0 with
          | false =>
            rw [h0, Bool.false_and, Bool.false_and] at q
            exact iteT (iteT (q _ s1))
          | true =>
          rw [h0, Bool.true_and] at q
          have ha1 := s1 _ _ ha.2.2
          refine iteF ⟨_, rfl, a, _, _, x1, rfl, rfl, SqT.of ha1, atI_nat (j := 1) rfl, p, c, x1, e1, 1, rfl, g1.to (.same s1), _, rfl, ?_⟩
          cases h1 : wholeB 1 1000000000 e1 with
          | false =>
            rw [h1, Bool.false_and] at q
            exact iteT (q _ s1)
          | true =>
          rw [h1, Bool.true_and] at q
          refine iteF ?_
          -- the two marks, the rows
          have g2 := g2.to (.same s1)
          have g3 := g3.to (.same s1)
          have g4 := g4.to (.same s1)
          refine ⟨_, rfl, a, _, _, x2, rfl, rfl, SqT.of ha1, atI_nat (j := 2) rfl, x2, .ty "bool", _, _, _, rfl, .ty "bool", g2.tyx, g2.kB, _, rfl, ?_⟩
          cases h2 : isB e2 with
          | false =>
            rw [h2, Bool.false_and, Bool.false_and] at q
            exact iteT (iteT (q _ s1))
          | true =>
          rw [h2, Bool.true_and] at q
          refine iteF ⟨_, rfl, a, _, _, x3, rfl, rfl, SqT.of ha1, atI_nat (j := 3) rfl, x3, .ty "bool", _, _, _, rfl, .ty "bool", g3.tyx, g3.kB, _, rfl, ?_⟩
          cases h3 : isB e3 with
          | false =>
            rw [h3, Bool.false_and] at q
            exact iteT (iteT (q _ s1))
          | true =>
          rw [h3, Bool.true_and] at q
          obtain ⟨up, rfl, rfl⟩ : ∃ b, x2 = .bl b ∧ e2 = .bool b := by
            cases g2 with
            | bl b => exact ⟨b, rfl, rfl⟩
            | _ => simp [isB] at h2
          obtain ⟨lv, rfl, rfl⟩ : ∃ b, x3 = .bl b ∧ e3 = .bool b := by
            cases g3 with
            | bl b => exact ⟨b, rfl, rfl⟩
            | _ => simp [isB] at h3
          have q : ∀ H', Same H H' → Q (.bl (rowsB e4 && shutB up lv e4)) H' := q
          refine iteF ⟨_, rfl, a, _, _, x4, rfl, rfl, SqT.of ha1, atI_nat (j := 4) rfl, x4, .ty "tuple", _, _, _, rfl, .ty "tuple", g4.tyx, g4.kT, _, rfl, ?_⟩
          cases hT4 : isT e4 with
          | false =>
            have e : rowsB e4 = false := by cases e4 <;> first | rfl | cases hT4
            rw [e, Bool.false_and] at q
            exact iteT (q _ s1)
          | true =>
          cases g4 with
          | @tup a2 ys rs hb2 hR =>
            rw [bB_tup, Bool.and_eq_true, decide_eq_true_eq] at b4
            have hl2 := hR.len
            have q : ∀ H', Same H H' → Q (.bl ((rs.all rowB && ascI (rs.map fun r => asInt (itT 0 r))) && (if up = true then !lv || rs.all fun r => !opB r else !lv && decide (rs = [])))) H' := q
            have hyl : ys.length ≤ 52 := by omega
            refine iteF ?_
            refine ⟨_, rfl, a, _, _, _, rfl, rfl, SqT.of ha1, atI_nat (j := 4) rfl, a2, rfl, ⟨_, SqT.of hb2.2.2⟩, fun D hD => ?_⟩
            refine lc_sel (walk_tup (K := K) (a := a2) (xs := ys)) (fun i => !rowB (rs.getD i .none)) (fun i => ys.getD i .non) (by omega) hD (fun H' s => SqT.of (s _ _ hb2.2.2)) ?_ ?_
            · rintro i y H2 H3 k k0 hi s2 ⟨rfl, hy⟩ hk hk0
              obtain ⟨d, hdi, hdg⟩ := hR.at_ hy
              have ey : ys.getD i .non = y := by rw [List.getD_eq_getElem?_getD, hy]; rfl
              rw [ey] at hk
              rw [List.getD_eq_getElem?_getD, hdi] at hk hk0
              refine ⟨rfl, _, rfl, p, c, y, d, rfl, hdg.to (.same s2), List.all_eq_true.mp b4.2 d (List.mem_of_getElem? hdi), fun H4 s4 => ⟨_, rfl, ?_⟩⟩
              cases ht : rowB d with
              | false => exact iteT ⟨_, rfl, hk (by show (!rowB d) = true; rw [ht]; rfl) _ s4⟩
              | true => exact iteF (hk0 (by show (!rowB d) = false; rw [ht]; rfl) _ s4)
            · intro H2 s12 h2
              rw [hl2] at h2
              refine ⟨Nat.zero_le _, fun t ht => ?_⟩
              have s3' := same_new (o := .lst []) ht
              refine ⟨D, _, t, rfl, s3' _ _ h2, rfl, upd_same, _, rfl, ?_⟩
              have s13 := s12.trans s3'
              rw [sel_nil, none_at rs rowB .none]
              generalize upd H2 t (.lst []) = H3 at s3' s13 ⊢
              have s3 := s1.trans s13
              cases hbs : rs.all rowB with
              | false =>
                rw [hbs, Bool.false_and, Bool.false_and] at q
                exact iteT (q _ s3)
              | true =>
              rw [hbs, Bool.true_and] at q
              refine iteF ?_
              have hR1 : ∀ (i : Nat) y H', Same H1 H' → ys[i]? = some y → ∃ e, rs[i]? = some e ∧ ∃ b zs x, y = .ref b ∧ At p c H' b (.tup zs) ∧ zs[0]? = some (.int (asInt (itT 0 e))) ∧ zs[5]? = some (.str x) ∧ itT 5 e = .str x := by
                intro i y H' s hy
                obtain ⟨e, he, hw⟩ := hR.at_ hy
                exact ⟨e, he, (hw.to (.same s)).ends (List.all_eq_true.mp hbs e (List.mem_of_getElem? he))⟩
              have hb3 := s13 _ _ hb2.2.2
              have ha3 := s3 _ _ ha.2.2
              -- the labels
              refine ⟨_, rfl, a, _, _, _, rfl, rfl, SqT.of ha3, atI_nat (j := 4) rfl, a2, rfl, ⟨_, SqT.of hb3⟩, fun L hL => ?_⟩
              refine lc_sel (walk_tup (K := K) (a := a2) (xs := ys)) (fun _ => true) (fun i => .int (asInt (itT 0 (rs.getD i .none)))) (by omega) hL (fun H' s => SqT.of (s _ _ hb3)) ?_ ?_
              · rintro i y H4 H5 k kf hi s4 ⟨rfl, hy⟩ hk _
                obtain ⟨e, he, b, zs, x, rfl, hz, hz0, _⟩ := hR1 i y _ (s13.trans s4) hy
                have hk := hk rfl _ (Same.refl _)
                rw [List.getD_eq_getElem?_getD, he] at hk
                exact ⟨rfl, _, rfl, b, zs, _, _, rfl, rfl, SqT.of hz.2.2, atI_nat (j := 0) hz0, hk⟩
              · intro H4 s34 h4
                have s14 := s13.trans s34
                rw [filt_all] at h4
                have el : (List.range ys.length).map (fun i => V.int (asInt (itT 0 (rs.getD i .none)))) = (rs.map fun r => asInt (itT 0 r)).map V.int := by
                  rw [hl2]
                  refine List.ext_getElem? fun i => ?_
                  by_cases hi : i < rs.length
                  · simp [hi]
                  · rw [List.getElem?_eq_none (by simpa using hi), List.getElem?_eq_none (by simpa using hi)]
                rw [el] at h4
                have hll : (rs.map fun r => asInt (itT 0 r)).length ≤ 52 := by rw [List.length_map]; exact b4.1
                have hnil : decide ((rs.map fun r => asInt (itT 0 r)).map V.int = []) = decide (rs = []) := by
                  rw [Bool.eq_iff_iff, decide_eq_true_eq, decide_eq_true_eq, List.map_eq_nil_iff, List.map_eq_nil_iff]
                generalize (rs.map fun r => asInt (itT 0 r)) = ns at h4 hll q hnil
                refine ⟨_, rfl, _, rfl, L, ns, rfl, .inl (SqL.of h4), by omega, fun st M hst nd hm hml => ?_⟩
                have nLs : L ≠ st := ne_of_none h4 hst
                refine ⟨st, _, _, rfl, upd_same, by omega, fun ns' r hpw hmem hlen' hr' => ?_⟩
                have nLr : L ≠ r := ne_of_none (by rw [upd_ne nLs]; exact h4) hr'
                refine ⟨.list (ns.map .int), .list (ns'.map .int), .lst (SqL.of (by rw [upd_ne nLr, upd_ne nLs]; exact h4)) (dpIntsG _), .lst (SqL.of upd_same) (dpIntsG _), shaped_ints _, shaped_ints _, ?_⟩
                have e2 : PyData.eqv (.list (ns.map .int)) (.list (ns'.map .int)) = ascI ns := by
                  rw [PyData.eqv, eqv_ints, Bool.eq_iff_iff, decide_eq_true_eq, ascI_iff]
                  constructor
                  · rintro rfl
                    exact hpw
                  · intro h
                    exact asc_uniq h hpw fun k => by rw [hmem k, decide_eq_true_eq]
                rw [e2]
                have s45 := (same_new hst).trans (same_new (o := .lst (ns'.map V.int)) hr')
                generalize upd (upd H4 st _) r _ = H5 at s45 ⊢
                have s15 := s14.trans s45
                have s5 := s1.trans s15
                have hL5 := s45 _ _ h4
                cases hac : ascI ns with
                | false =>
                  rw [hac, Bool.false_and] at q
                  exact ⟨_, rfl, iteT (iteT (q _ s5))⟩
                | true =>
                rw [hac, Bool.true_and] at q
                have ha5 := s5 _ _ ha.2.2
                refine ⟨_, rfl, iteF ?_⟩
                refine ⟨_, rfl, a, _, _, _, rfl, rfl, SqT.of ha5, atI_nat (j := 2) rfl, _, rfl, ?_⟩
                have hb5 := s15 _ _ hb2.2.2
                cases up with
                | false =>
                  rw [if_neg (by decide)] at q
                  refine iteT ⟨_, rfl, a, _, _, _, rfl, rfl, SqT.of ha5, atI_nat (j := 3) rfl, _, rfl, ?_⟩
                  cases lv with
                  | true => exact iteT (q _ s5)
                  | false =>
                    refine iteF ⟨_, rfl, Nat.zero_le _, fun t6 ht6 => ?_⟩
                    have s56 := same_new (o := .lst []) ht6
                    refine ⟨L, _, t6, rfl, s56 _ _ hL5, rfl, upd_same, _, rfl, ?_⟩
                    generalize upd H5 t6 (.lst []) = H6 at s56 ⊢
                    have s6 := s5.trans s56
                    rw [hnil]
                    cases hrs : decide (rs = []) with
                    | false =>
                      rw [hrs] at q
                      exact iteT (q _ s6)
                    | true =>
                      rw [hrs] at q
                      refine iteF ⟨_, rfl, a, _, _, _, rfl, rfl, SqT.of (s6 _ _ ha.2.2), atI_nat (j := 3) rfl, _, rfl, _, rfl, ?_⟩
                      exact iteT (q _ s6)
                | true =>
                  rw [if_pos rfl] at q
                  refine iteF ⟨_, rfl, a, _, _, _, rfl, rfl, SqT.of ha5, atI_nat (j := 3) rfl, _, rfl, _, rfl, ?_⟩
                  cases lv with
                  | false => exact iteT (q _ s5)
                  | true =>
                    refine iteF ⟨_, rfl, a, _, _, _, rfl, rfl, SqT.of ha5, atI_nat (j := 4) rfl, a2, rfl, ⟨_, SqT.of hb5⟩, fun D2 hD2 => ?_⟩
                    refine lc_sel (walk_tup (K := K) (a := a2) (xs := ys)) (fun i => !!opB (rs.getD i .none)) (fun i => ys.getD i .non) (by omega) hD2 (fun H' s => SqT.of (s _ _ hb5)) ?_ ?_
                    · rintro i y H6 H7 k k0 hi s6 ⟨rfl, hy⟩ hk hk0
                      obtain ⟨e, he, b, zs, x, rfl, hz, _, hz5, hx⟩ := hR1 i y _ (s15.trans s6) hy
                      have ey : ys.getD i .non = .ref b := by rw [List.getD_eq_getElem?_getD, hy]; rfl
                      rw [ey] at hk
                      rw [List.getD_eq_getElem?_getD, he] at hk hk0
                      have hk : (!!opB e) = true → ∀ H4, Same H7 H4 → k (.ref b) H4 := hk
                      have hk0 : (!!opB e) = false → ∀ H4, Same H7 H4 → k0 H4 := hk0
                      have eo : opB e = decide (V.str x = V.str (Str.ofString "open")) := by
                        unfold opB
                        rw [hx]
                        show (x == Str.ofString "open") = _
                        rw [show x = S x.cps.toList from rfl, show Str.ofString "open" = S (Str.ofString "open").cps.toList from rfl, str_beq, Bool.eq_iff_iff, decide_eq_true_eq, decide_eq_true_eq]
                        constructor
                        · intro h
                          rw [h]
                        · intro h
                          injection h with h
                          exact S_inj h
                      rw [Bool.not_not, eo] at hk hk0
                      refine ⟨rfl, _, rfl, b, zs, _, _, rfl, rfl, SqT.of hz.2.2, atI_nat (j := 5) hz5, rfl, _, rfl, ?_⟩
                      cases ho : decide (V.str x = V.str (Str.ofString "open")) with
                      | true => exact iteT ⟨_, rfl, hk ho _ (Same.refl _)⟩
                      | false => exact iteF (hk0 ho _ (Same.refl _))
                    · intro H6 s56 h6
                      have s6 := s5.trans s56
                      rw [hl2] at h6
                      refine ⟨Nat.zero_le _, fun t6 ht6 => ?_⟩
                      have s67 := same_new (o := .lst []) ht6
                      refine ⟨D2, _, t6, rfl, s67 _ _ h6, rfl, upd_same, ?_⟩
                      rw [sel_nil, none_at rs (fun r => !opB r) .none]
                      exact q _ (s6.trans s67)
          | _ => cases hT4
        · have e5 : (!decide (V.int (xs.length : Nat) = V.int 5)) = true := by
            rw [hlen]
            simp
            omega
          rw [house5 h5] at q
          rw [e5]
          exact iteT (iteT (q _ (Same.refl _)))
      | _ => simp [isT] at hT
end
end Ag

end
/-! ## SetS -/
section
set_option linter.all false
set_option maxRecDepth 100000
namespace Ag
open PySem PySem.Spec PyProof.Rows L2
/-! ### set(xs) of a list of unlike texts, its length -/
section
variable {P : Program} {w : World} {A : Around}
/-- the first i of the texts are in the set -/
abbrev InS (P : Program) (w : World) (h : Heap) (S : Addr) (ks : List Str) (i : Nat) : Prop := h.SetOf (strKind P w) S (fun k => decide (k ∈ ks.take i)) i
theorem InS.at_ {h h' : Heap} {S : Addr} {ks : List Str} {i : Nat} (q : InS P w h S ks i) (k : ∀ o, h.get? S = some o → h'.get? S = some o) : InS P w h' S ks i := by
  obtain ⟨o, es, ep, tb, ho, r⟩ := q
  exact ⟨o, es, ep, tb, k o ho, r⟩
theorem fill {I S : Addr} {fp wr : List Addr} {G : Array GenState → Array GenState → Prop} {n : Nat} {Pv : Nat → Value → Prop} {St : Nat → Shared → Prop} {R : Result → Shared → Prop} {ks : List Str}
    (W : WalksS P w A.in1 I fp wr G n Pv St) (nS : S ∉ fp) (hn : ks.length = n) (hb : n + 1 < scanBound) (nd : ks.Nodup) (hv : ∀ i v, Pv i v → ∃ k t, ks[i]? = some k ∧ v = .str k t) (m : Nat) :
    ∀ (i : Nat) (s : Shared), i + m = n → St i s → InS P w s.heap S ks i → (∀ s', Moved (S :: wr) G s s' → InS P w s'.heap S ks n → R (.ok (.ret .none)) s') → codeAny (model P w) A (.builtin "set.update.loop" ⟨[.ref S, .ref I], []⟩) R s := by
  have nW : S ∉ wr := fun z => nS (W.sub _ z)
  have more : ∀ b ∈ wr, b ∈ S :: wr := fun b z => List.mem_cons_of_mem _ z
  induction m with
  | zero =>
    rintro i s rfl st q fin
    refine codeAny_builtin F.entry_set_update_loop (by
      rw [Around.under_plainId F.plain_set_update_loop _]
      exact show wpAny _ A.in1 (pyNext (.ref I) >>= _) _ _ s from wpAny_bind (W.done s _ _ st fun s' mv => show wpAny _ A.in1 (ret Value.none) _ _ s' from wpAny_pure (fin s' (mv.mono more) (q.at_ fun o e => mv.heap S o nW e))))
  | succ m ih =>
    rintro i s hi st q fin
    have lt : i < n := by omega
    refine codeAny_builtin F.entry_set_update_loop ?_
    rw [Around.under_plainId F.plain_set_update_loop _]
    refine show wpAny _ A.in1 (pyNext (.ref I) >>= _) _ _ s from wpAny_bind (W.item i s _ _ lt st fun v s1 pv st1 mv => ?_)
    obtain ⟨k, t, hk, rfl⟩ := hv i v pv
    have new : k ∉ ks.take i := by
      intro z
      obtain ⟨j, hj, e⟩ := List.mem_iff_getElem.mp z
      rw [List.length_take] at hj
      rw [List.getElem_take] at e
      have e2 : ks[j]? = ks[i]? := by rw [hk, List.getElem?_eq_getElem (by omega), e]
      have := (List.getElem?_inj (by omega) nd).mp e2
      omega
    have q1 := q.at_ fun o e => mv.heap S o nW e
    refine show wpAny _ A.in1 (holding [Value.str k t] (setAdd S (.str k t)) >>= _) _ _ s1 from wpAny_bind (wpAny_holding ?_)
    unfold setAdd
    refine wpAny_holding (wpAny_bind ((strKind P w).pyHash (k := k) (strKind_is _ _ _ _) (wpAny_setAddHashed_of (knd := strKind P w) (s := { s1 with toks := s1.toks + 1 }) (strKind_is _ _ _ _) rfl q1 (by omega) fun h' but q2 => ?_)))
    rw [show decide (k ∈ ks.take i) = false from decide_eq_false new] at q2
    have q3 : InS P w h' S ks (i + 1) := SetOf_congr q2 (fun j => by
      rw [List.take_add_one, hk]
      simp [List.mem_append]) rfl
    have out : ∀ b o, b ≠ S → s1.heap.get? b = some o → h'.get? b = some o := fun b o z e => (but.2 b z).trans e
    refine wpAny_pure ⟨plainId_quiet F.plain_set_update_loop _, ih (i + 1) _ (by omega) (W.frame _ s1 _ _ st1 (Nat.le_succ _) fun b z o e => out b o (fun y => nS (y ▸ z)) e) q3 fun s2 mv2 q4 => ?_⟩
    exact fin s2 (Moved.trans W.gtrans ((mv.mono more).then_heap (Nat.le_succ _) fun b o z e => out b o (fun y => z (y ▸ List.mem_cons_self)) e) mv2) q4
end
theorem txt_at : ∀ {vs : List Value} {ks : List Str}, StrsAre vs ks → ∀ (i : Nat) (v : Value), vs[i]? = some v → ∃ k t, ks[i]? = some k ∧ v = .str k t
  | _, _, .nil, i, v, e => by simp at e
  | _, _, .cons x t r, 0, v, e => ⟨x, t, rfl, (Option.some.inj e).symm⟩
  | _, _, .cons x t r, i + 1, v, e => txt_at r i v e
section
variable {P : Program} {w : World} {A : Around} {E : Value → Shared → Prop} {s : Shared}
/-- a set's object as it is made -/
abbrev nilSet (w : World) : Obj := { cls := .type "set", dict := none, data := .set #[] 0 (.fresh 0 0 (!w.params.followText "set-order")) }
set_option maxHeartbeats 3200000 in
theorem set_txt {l : Addr} {its : Array Value} (ks : List Str) {Q : Value → Shared → Prop} (hh : A.handled = none) (hl : s.heap.IsList l its) (hit : StrsAre its.toList ks) (hb : ks.length + 1 < scanBound) (nd : ks.Nodup)
    (fin : ∀ (h' : Heap) (tk : Nat), InS P w h' s.heap.objs.size ks ks.length → (∀ b o, s.heap.get? b = some o → h'.get? b = some o) → Q (.ref s.heap.objs.size) { s with heap := h', toks := tk }) :
    wpAny (model P w) A (call (.type "set") [.ref l]) Q E s := by
  have esz : its.size = ks.length := by
    have q := StrsAre.len_eq hit
    rwa [Array.length_toList] at q
  obtain ⟨cc, tl, m0⟩ := F.called_set.mro
  have m1 := F.called_set.made
  have m2 := F.called_set.sub
  refine wpAny_call (codeAny_of_tree (show wpAny _ _ (callAny (.type "set") _) _ _ _ from wpAny_pure ⟨Code.quiet_builtin _ (by decide +kernel), codeAny_builtin F.entry_type_call ?_⟩))
  rw [Around.under_plain (weight_type_call_type "set" [.ref l] []) rfl]
  have m3 := F.called_set.notType
  have m4 := F.called_set.canCreate
  have m5 := F.typeCall_set_1 (.ref l)
  repeat (any_goals (first | assumption | wp_step))
  refine codeAny_mono (code_set_led1 (.ref l) (E := E) (Q₁ := fun ob s1 => ob = .ref s.heap.objs.size ∧ s1 = { s with heap := s.heap.push (nilSet w) }) ⟨rfl, rfl⟩) fun r s1 hr => ?_
  match r, hr with
  | .error e, hr => exact hr
  | .ok .next, hr => exact hr.elim
  | .ok .brk, hr => exact hr.elim
  | .ok .cont, hr => exact hr.elim
  | .ok (.ret ob), hr =>
    obtain ⟨rfl, rfl⟩ := hr
    have g1 : (s.heap.push (nilSet w)).get? s.heap.objs.size = some (nilSet w) := Heap.get?_push_size _ rfl
    have g2 : Shared.TypeIs { s with heap := s.heap.push (nilSet w) } (.ref s.heap.objs.size) "set" := ⟨_, g1, rfl⟩
    have m6 := F.called_set.init.lookup
    have m7 := F.called_set.init.bind (.ref s.heap.objs.size)
    repeat (any_goals (first | assumption | wp_step))
    refine codeAny_mono (codeAny_call_builtin (R := wants (fun r s2 => r = .none ∧ ∃ h' tk, s2 = { s with heap := h', toks := tk } ∧ InS P w h' s.heap.objs.size ks ks.length ∧
        (∀ b o, s.heap.get? b = some o → h'.get? b = some o)) E) F.called_set.init.plain F.entry_set_init (check_set_init_1 g2 ?_)) fun r2 s2 hr2 => ?_
    · obtain ⟨ol, e1, e2, nl, e3⟩ := hl
      obtain ⟨k1, k2, k3, k4⟩ := ol
      simp only at e2 e3
      subst e2 e3
      have g3 : (s.heap.push (nilSet w)).get? l = some { cls := .type "list", dict := k2, data := .seq its nl, slots := k4 } := Heap.get?_push_of_some _ e1
      have m8 := F.sub_list_set
      have m9 := F.sub_list_frozenset
      have ma : (Value.type "list" == Value.type "dict") = false := by decide
      have hl1 : (s.heap.push (nilSet w)).IsList l its := ⟨_, g3, rfl, nl, rfl⟩
      unfold Builtin.«set.__init__» noKeywords Builtin.Frozenset.updateFrom
      generalize hPI : pyIter = PI
      wp_walk
      subst hPI
      refine wpAny_pyIter_list hl1 (wpAny_bind (wpAny_runValue ?_))
      have lt := Heap.lt_size e1
      have hh3 : A.in1.in1.in1.handled = none := by simp [hh]
      have nI : l ≠ (s.heap.push (nilSet w)).objs.size := by
        rw [Heap.size_push]
        exact Nat.ne_of_lt (Nat.lt_succ_of_lt lt)
      have nS : s.heap.objs.size ∉ [(s.heap.push (nilSet w)).objs.size, l] := by
        rw [Heap.size_push]
        intro z
        rcases List.mem_cons.mp z with z | z
        · exact Nat.ne_of_lt (Nat.lt_succ_self _) z
        · exact Nat.ne_of_gt lt (List.mem_singleton.mp z)
      have vals : ∀ (i : Nat) (v : Value), its[i]? = some v → ∃ k t, ks[i]? = some k ∧ v = .str k t := fun i v hv => txt_at hit i v (by rw [Array.getElem?_toList]; exact hv)
      refine fill ((Walks.list hh3 _ l nI its).toS) nS esz.symm (by omega) nd vals its.size 0 _ (by omega) ⟨⟨_, Heap.get?_push_size _ rfl, rfl, rfl⟩, (hl1.push _)⟩ ?_ ?_
      · exact SetOf_congr ((setObjOf_fresh (knd := strKind P w) _).setOf (Heap.get?_push_of_some _ g1) (by unfold scanBound; omega)) (fun _ => rfl) rfl
      · intro s' hm hS'
        obtain ⟨h', q1, q2, tk', q3⟩ := s'
        obtain rfl : q1 = s.gens := hm.gens
        obtain rfl : q2 = s.drawn := hm.drawn
        obtain rfl : q3 = s.os := hm.os
        rw [esz] at hS'
        refine show wpAny _ _ _ _ _ _ from wpAny_pure (show wpAny _ _ (ret Value.none) _ _ _ from wpAny_pure ⟨rfl, h', tk', rfl, hS', fun b o e => ?_⟩)
        have b0 : b < s.heap.objs.size := Heap.lt_size e
        refine hm.heap b o ?_ (Heap.get?_push_of_some _ (Heap.get?_push_of_some _ e))
        rw [Heap.size_push]
        intro z
        rcases List.mem_cons.mp z with z | z
        · exact Nat.ne_of_lt b0 z
        · exact Nat.ne_of_lt (Nat.lt_succ_of_lt b0) (List.mem_singleton.mp z)
    · match r2, hr2 with
      | .error e, hr2 => exact hr2
      | .ok .next, hr2 => exact hr2.elim
      | .ok .brk, hr2 => exact hr2.elim
      | .ok .cont, hr2 => exact hr2.elim
      | .ok (.ret r), hr2 =>
        obtain ⟨rfl, h', tk, rfl, a1, a3⟩ := hr2
        repeat (any_goals (first | assumption | wp_step))
        exact fin _ _ a1 a3
end
end Ag

end
/-! ## SetS2 -/
section
set_option linter.all false
set_option maxRecDepth 100000
namespace Ag
open PySem PySem.Spec PyProof.Rows L2
section
variable {P : Program} {w : World}
/-- a set of unlike texts -/
def SetSO (P : Program) (w : World) (a : Addr) (ks : List Str) : HO := .ext fun h => InS P w h a ks ks.length
theorem setSO_new {H : Hp} {h : Heap} {a : Addr} {ks : List Str} (R : InS P w h a ks ks.length) : ObjOk P w H h a (SetSO P w a ks) := by
  have ⟨o, _, _, _, ho, _⟩ := R
  exact ⟨R, ⟨o, ho⟩, fun h1 h2 p k => InS.at_ p k⟩
section
variable {X : Cx}
def rSetS (K : PySem.W.Frag) (P : Program) (w : World) : List V → Hp → VK → Prop := fun xs H Q => ∃ (l : Addr) (ks : List Str), xs = [.ref l] ∧ SqL K H l (ks.map V.str) ∧ ks.length ≤ 1000 ∧ ks.Nodup ∧
  ∀ a, H a = none → Q (.ref a) (upd H a (SetSO P w a ks))
theorem cr_setS (hc : X.calm = true) : CallR X (.type "set") (rSetS X.K X.prog X.w) := by
  intro pins s σ H xs us Q I r h
  obtain ⟨l, ks, rfl, hs, hz, nd, q⟩ := h
  rw [Vals.ref1 r]
  obtain ⟨its, rv, pl, _⟩ := I.list hs
  refine set_txt ks (I.ok.hd hc) pl.isList (by simpa using Vals.strs rv) (by unfold scanBound; omega) nd fun h' tk R kp => ?_
  exact ⟨.ref _, _, I.laid (t' := tk) kp (Nat.le_refl _) (setSO_new R), rfl, q _ (I.hok.fresh (Nat.le_refl _))⟩
def rLenSetS (P : Program) (w : World) : List V → Hp → VK → Prop := fun xs H Q => ∃ (a : Addr) (ks : List Str), xs = [.ref a] ∧ H a = some (SetSO P w a ks) ∧ ks.length ≤ 1000 ∧ Q (.int (ks.length : Nat)) H
theorem cr_lenSetS : CallR X (.builtin "len") (rLenSetS X.prog X.w) := by
  intro pins s σ H xs us Q I r h
  obtain ⟨a, ks, rfl, ha, hn, q⟩ := h
  rw [Vals.ref1 r]
  obtain ⟨o, es, ep, t, ho, hex, hd, _, _, _, hf, he⟩ := (I.hok a _ ha).1
  exact call_len_set ho hex hd hf (by rw [he]; omega) ⟨.int ks.length, H, I.tok _, ⟨_, by rw [he]⟩, q⟩
end
end
end Ag

end
/-! ## BN -/
section
set_option linter.all false
set_option maxRecDepth 100000
namespace Ag
open PySem PySem.Spec PyProof.Rows L2
open SX (S S_len S_cat S_inj)
/-! ### what a bench is made of -/
structure Con2 (K : PySem.W.Frag) (mg : Str → Option Value) (tw tr tp tg : Tok) (Wa : Addr) : Prop extends Blt mg where
  n_set : mg "set" = none
  g_WORD_MOST : mg "WORD_MOST" = some (.int 10 tw)
  g_RULE_MOST : mg "RULE_MOST" = some (.int 99 tr)
  g_POOL_MOST : mg "POOL_MOST" = some (.int 8 tp)
  g_WEIGHT_MOST : mg "WEIGHT_MOST" = some (.int 100 tg)
  g_WAYS : mg "WAYS" = some (.ref Wa)
  ways : ∀ H, SqT K H Wa [.str (Str.ofString "turns"), .str (Str.ofString "busy"), .str (Str.ofString "key")]
theorem bl_t {p : Prop} [Decidable p] (h : p) {Q : VK} {H : Hp} (q : Q (.bl true) H) : Q (.bl (decide p)) H := by rw [decide_eq_true h]; exact q
theorem iteB {b : Bool} (h : b = true) {p q : Prop} (hp : p) : if b = true then p else q := by rw [if_pos h]; exact hp
theorem iteC {b : Bool} (h : b = false) {p q : Prop} (hq : q) : if b = true then p else q := by rw [if_neg (by rw [h]; decide)]; exact hq
theorem map_at {α β : Type} (l : List α) (F : Option α → β) : (List.range l.length).map (fun i => F l[i]?) = l.map fun e => F (some e) := by
  refine List.ext_getElem? fun i => ?_
  rw [List.getElem?_map, List.getElem?_map]
  by_cases h : i < l.length
  · rw [List.getElem?_range h, List.getElem?_eq_getElem h]
    simp [h]
  · rw [List.getElem?_eq_none (by simpa using h), List.getElem?_eq_none (by omega)]
    rfl
/-! ### pools -/
def PlI (H : Hp) (ts : List Addr) (ps : List (List Nat × Nat)) : Prop := ts.length = ps.length ∧ ∀ (j : Nat) (t : Addr), ts[j]? = some t → ∃ e : List Nat × Nat, ps[j]? = some e ∧ H t = some (.tup [.str (S e.1), .int (e.2 : Nat)])
structure PlOk (ps : List (List Nat × Nat)) : Prop where
  n1 : 1 ≤ ps.length
  n8 : ps.length ≤ 8
  wd : ∀ e ∈ ps, wordL e.1 = true
  wt : ∀ e ∈ ps, 1 ≤ e.2 ∧ e.2 ≤ 100
  nd : (ps.map Prod.fst).Nodup
structure Pool (a : Addr) (ts : List Addr) (ps : List (List Nat × Nat)) (H : Hp) : Prop where
  at_ : H a = some (.tup (ts.map V.ref))
  it : PlI H ts ps
  ok : PlOk ps
theorem PlI.to {H H' : Hp} {ts : List Addr} {ps : List (List Nat × Nat)} (h : PlI H ts ps) (s : Same H H') : PlI H' ts ps := ⟨h.1, fun j t e => by
  obtain ⟨x, h1, h2⟩ := h.2 j t e
  exact ⟨x, h1, s _ _ h2⟩⟩
theorem Pool.to {a : Addr} {ts : List Addr} {ps : List (List Nat × Nat)} {H H' : Hp} (p : Pool a ts ps H) (s : Same H H') : Pool a ts ps H' := ⟨s _ _ p.at_, p.it.to s, p.ok⟩
theorem PlI.get {H : Hp} {ts : List Addr} {ps : List (List Nat × Nat)} (h : PlI H ts ps) {j : Nat} {y : V} (hy : (ts.map V.ref)[j]? = some y) : ∃ t e, y = .ref t ∧ ts[j]? = some t ∧ ps[j]? = some e ∧ H t = some (.tup [.str (S e.1), .int (e.2 : Nat)]) := by
  rw [List.getElem?_map] at hy
  cases e : ts[j]? with
  | none => rw [e] at hy; cases hy
  | some t =>
    rw [e] at hy
    obtain ⟨x, h1, h2⟩ := h.2 j t e
    exact ⟨t, x, (Option.some.inj hy).symm, rfl, h1, h2⟩
section
variable {P : Program} {w : World} {K : PySem.W.Frag} {mg : Str → Option Value} {base : Heap} {tw tr tp tg : Tok} {Wa : Addr}
def spIntegerN : Sp := fun vs H Q _ => ∃ i : Int, vs = [.int i] ∧ Q (.bl true) H
theorem ok_is_integerN {f : Addr} {fd : FuncData} (F : Fn K mg "is_integer" s_is_integer ["thing"] f fd) (B : Blt mg) : FnOk P w K mg base CX0 1 f fd ["thing"] spIntegerN := by
  refine F.F.ok sc_is_integer (fun vs H Q E h => ?_) (fun cdv A outer s H vs Q E hr h => ?_)
  · obtain ⟨x, rfl, _⟩ := h
    rfl
  · obtain ⟨x, rfl, q⟩ := h
    refine ⟨_, (pss_one (ps_ret (pe_and (pe_callB call_isi (by rfl) B.n_isinstance (by decide +kernel) (pa_cons (pv 0) (pa_cons (pe_bltn (v := .ty "int") (by rfl) B.n_int (by decide +kernel) rfl) pa_nil))) (pe_one (pe_not (pe_callB call_isi (by rfl) B.n_isinstance (by decide +kernel) (pa_cons (pv 0) (pa_cons (pe_bltn (v := .ty "bool") (by rfl) B.n_bool (by decide +kernel) rfl) pa_nil)))))))), ?_⟩
    refine ⟨.int x, rfl, .int x, .ty "int", _, _, true, rfl, .ty "int", .base (.int _), kit_ty (by decide +kernel), _, rfl, iteT ?_⟩
    exact ⟨.int x, rfl, .int x, .ty "bool", _, _, false, rfl, .ty "bool", .base (.int _), kit_ty (by decide +kernel), _, rfl, q⟩
def spWord : Sp := fun vs H Q _ => ∃ l : List Nat, vs = [.str (S l)] ∧ wordL l = true ∧ Q (.bl true) H
theorem ok_is_word {f : Addr} {fd : FuncData} (F : Fn K mg "is_word" s_is_word ["thing"] f fd) (B : Con2 K mg tw tr tp tg Wa) : FnOk P w K mg base CX0 1 f fd ["thing"] spWord := by
  refine F.F.ok sc_is_word (fun vs H Q E h => ?_) (fun cdv A outer s H vs Q E hr h => ?_)
  · obtain ⟨l, rfl, _⟩ := h
    rfl
  · obtain ⟨l, rfl, hw, q⟩ := h
    refine ⟨_, (pss_cons (ps_if (PW.pt (pw_or (pt_not (pt_val (pe_callB call_isi (by rfl) B.n_isinstance (by decide +kernel) (pa_cons (pv 0) (pa_cons (pe_bltn (v := .ty "str") (by rfl) B.n_str (by decide +kernel) rfl) pa_nil))))) (pw_or1 (pt_not (pt_chain op_le op_le pe_int (pe_callB call_len_str (by rfl) B.n_len PySem.boot_len (pa_cons (pv 0) pa_nil)) (pe_glob (v := .int 10) rfl B.g_WORD_MOST ⟨_, rfl⟩))))))
      (pss_one (ps_ret pe_bl))
      pss_nil)
      (pss_one (ps_ret (pe_and (pe_m0 PySem.F.slot_str_isascii PySem.F.type_str_isascii mt_isascii (pv 0)) (pe_and (pe_m0 PySem.F.slot_str_isalpha PySem.F.type_str_isalpha mt_isalpha (pv 0)) (pe_one (pe_m0 PySem.F.slot_str_islower PySem.F.type_str_islower mt_islower (pv 0)))))))), ?_⟩
    have hw' := hw
    unfold wordL at hw'
    rw [Bool.and_eq_true, Bool.and_eq_true, decide_eq_true_eq, decide_eq_true_eq] at hw'
    obtain ⟨⟨l1, l10⟩, haz⟩ := hw'
    refine ⟨_, rfl, .str (S l), .ty "str", _, _, true, rfl, .ty "str", .base (.str _), kit_ty (by decide +kernel), _, rfl, iteF ?_⟩
    refine ⟨_, rfl, S l, rfl, sz (by rw [S_len]; omega), _, _, rfl, rfl, _, rfl, ?_⟩
    rw [S_len, decide_eq_true (by omega : (1 : Int) ≤ (l.length : Int))]
    refine iteT ⟨_, _, rfl, rfl, _, rfl, ?_⟩
    have hne : l ≠ [] := by
      rintro rfl
      exact absurd l1 (by decide)
    have has : l.all (· < 128) = true := by
      rw [List.all_eq_true] at haz ⊢
      intro c hc
      have := haz c hc
      simp only [azC, Bool.and_eq_true, decide_eq_true_eq] at this ⊢
      omega
    have wo := word_of has hne
    rw [haz, Bool.and_eq_true] at wo
    have l10' : ((l.length : Nat) : Int) ≤ 10 := by omega
    refine (show (if (!decide (((l.length : Nat) : Int) ≤ 10)) = true then _ else _) from ?_)
    rw [decide_eq_true l10']
    refine iteF ?_
    refine ⟨.str (S l), rfl, ⟨_, rfl⟩, S l, rfl, rfl, trivial, _, rfl, ?_⟩
    rw [ascii_S, has]
    refine iteT ⟨.str (S l), rfl, ⟨_, rfl⟩, S l, rfl, rfl, trivial, _, rfl, ?_⟩
    refine iteB wo.1 ⟨.str (S l), rfl, ⟨_, rfl⟩, S l, rfl, rfl, trivial, ?_⟩
    rw [wo.2]
    exact q
def spShare : Sp := fun vs H Q _ => ∃ t l, ∃ w : Nat, vs = [.ref t] ∧ H t = some (.tup [.str (S l), .int w]) ∧ wordL l = true ∧ 1 ≤ w ∧ w ≤ 100 ∧ Q (.bl true) H
theorem ok_is_share {f f1 f2 : Addr} {fd fd1 fd2 : FuncData} (F : Fn K mg "is_share" s_is_share ["thing"] f fd) (B : Con2 K mg tw tr tp tg Wa) (F_is_word : Fn K mg "is_word" s_is_word ["thing"] f1 fd1) (F_is_integer : Fn K mg "is_integer" s_is_integer ["thing"] f2 fd2) : FnOk P w K mg base CX0 2 f fd ["thing"] spShare := by
  have G_is_word : FnOk P w K mg base CX0 1 f1 fd1 ["thing"] spWord := ok_is_word F_is_word B
  have G_is_integer : FnOk P w K mg base CX0 1 f2 fd2 ["thing"] spIntegerN := ok_is_integerN F_is_integer B.toBlt
  refine F.F.ok sc_is_share (fun vs H Q E h => ?_) (fun cdv A outer s H vs Q E hr h => ?_)
  · obtain ⟨t, l, w, rfl, _⟩ := h
    rfl
  · obtain ⟨t, l, w, rfl, ht, hw, w1, w9, q⟩ := h
    refine ⟨_, (pss_cons (ps_if (PW.pt (pw_or (pt_not (pt_val (pe_callB call_isi (by rfl) B.n_isinstance (by decide +kernel) (pa_cons (pv 0) (pa_cons (pe_bltn (v := .ty "tuple") (by rfl) B.n_tuple (by decide +kernel) rfl) pa_nil))))) (pw_or1 (pt_cmpR op_ne (pe_callB call_len_seq (by rfl) B.n_len PySem.boot_len (pa_cons (pv 0) pa_nil)) pe_int (nomark _)))))
      (pss_one (ps_ret pe_bl))
      pss_nil)
      (pss_cons (ps_asg (pv 0) (pg_tup rfl (pgs_cons (pg_name (i := 1) sc_is_share.nd rfl (Or.inl rfl)) (pgs_cons (pg_name (i := 2) sc_is_share.nd rfl (Or.inl rfl)) pgs_nil))))
      (pss_one (ps_ret (pe_and (pe_call G_is_word (hr.mono (by decide)) (by rfl) F_is_word.g F_is_word.F.kp F_is_word.b .nil pass0 (pa_cons (pv 1) pa_nil)) (pe_and (pe_call G_is_integer (hr.mono (by decide)) (by rfl) F_is_integer.g F_is_integer.F.kp F_is_integer.b .nil pass0 (pa_cons (pv 2) pa_nil)) (pe_one (pe_chain op_le op_le pe_int (pv 2) (pe_glob (v := .int 100) rfl B.g_WEIGHT_MOST ⟨_, rfl⟩))))))))), ?_⟩
    refine ⟨_, rfl, .ref t, .ty "tuple", _, _, true, rfl, .ty "tuple", .base (.tup ht), kit_ty (by decide +kernel), _, rfl, iteF ?_⟩
    refine ⟨_, rfl, t, _, rfl, .inr (SqT.of ht), rfl, _, rfl, iteF ?_⟩
    refine ⟨_, rfl, t, _, rfl, SqT.of ht, rfl, _, _, rfl, _, _, rfl, rfl, ?_⟩
    refine ⟨_, rfl, l, rfl, hw, _, rfl, iteT ⟨_, rfl, w, rfl, _, rfl, iteT ⟨_, rfl, _, _, rfl, rfl, _, rfl, ?_⟩⟩⟩
    rw [decide_eq_true (by omega : (1 : Int) ≤ w)]
    exact iteT ⟨_, _, rfl, rfl, bl_t (by omega) q⟩
def spPool : Sp := fun vs H Q _ => ∃ a ts ps, vs = [.ref a] ∧ Pool a ts ps H ∧ ∀ H', Same H H' → Q (.bl true) H'
theorem ok_is_pool {f f1 : Addr} {fd fd1 : FuncData} (F : Fn K mg "is_pool" s_is_pool ["thing"] f fd) (B : Con2 K mg tw tr tp tg Wa) (F_is_share : Fn K mg "is_share" s_is_share ["thing"] f1 fd1) (G_is_share : FnOk P w K mg base CX0 2 f1 fd1 ["thing"] spShare) : FnOk P w K mg base CX0 3 f fd ["thing"] spPool := by
  refine F.F.ok sc_is_pool (fun vs H Q E h => ?_) (fun cdv A outer s H vs Q E hr h => ?_)
  · obtain ⟨a, ts, ps, rfl, _⟩ := h
    rfl
  · obtain ⟨a, ts, ps, rfl, p, q⟩ := h
    refine ⟨_, (pss_cons (ps_if (PW.pt (pw_or (pt_not (pt_val (pe_callB call_isi (by rfl) B.n_isinstance (by decide +kernel) (pa_cons (pv 0) (pa_cons (pe_bltn (v := .ty "tuple") (by rfl) B.n_tuple (by decide +kernel) rfl) pa_nil))))) (pw_or1 (pt_not (pt_chain op_le op_le pe_int (pe_callB call_len_seq (by rfl) B.n_len PySem.boot_len (pa_cons (pv 0) pa_nil)) (pe_glob (v := .int 8) rfl B.g_POOL_MOST ⟨_, rfl⟩))))))
      (pss_one (ps_ret pe_bl))
      pss_nil)
      (pss_cons (ps_if (pt_not (pt_val (pe_callB (cr_all rfl) (by rfl) B.n_all (by decide +kernel) (pa_cons (pe_lc (own := [("pair", 1)]) rfl sc_is_pool.nd (pi_tup (pv 0)) (blkOk_by (N := N_is_pool) (sc := defScope s_is_pool) (by decide +kernel)) (fun _ _ _ _ _ => (pg_name (i := 1) sc_is_pool.nd rfl (Or.inl rfl))) (fun _ _ _ _ _ => pts_nil) (fun _ _ _ _ _ => (pe_call G_is_share (hr.mono (by decide)) (by rfl) F_is_share.g F_is_share.F.kp F_is_share.b .nil pass0 (pa_cons (pv 1) pa_nil)))) pa_nil))))
      (pss_one (ps_ret pe_bl))
      pss_nil)
      (pss_one (ps_ret (pe_cmpR op_eq (pe_callB cr_lenSetS (by rfl) B.n_len PySem.boot_len (pa_cons (pe_callTy (cr_setS rfl) (by rfl) B.n_set (by decide +kernel) (pa_cons (pe_lc (own := [("pair", 1)]) rfl sc_is_pool.nd (pi_tup (pv 0)) (blkOk_by (N := N_is_pool) (sc := defScope s_is_pool) (by decide +kernel)) (fun _ _ _ _ _ => (pg_name (i := 1) sc_is_pool.nd rfl (Or.inl rfl))) (fun _ _ _ _ _ => pts_nil) (fun _ _ _ _ _ => (pe_ix (ix_tupK K rfl) (pv 1) pe_int (fun _ _ => rfl)))) pa_nil)) pa_nil)) (pe_callB call_len_seq (by rfl) B.n_len PySem.boot_len (pa_cons (pv 0) pa_nil)) (nomark _)))))), ?_⟩
    have ln := p.it.1
    have n1 := p.ok.n1
    have n8 := p.ok.n8
    refine ⟨_, rfl, .ref a, .ty "tuple", _, _, true, rfl, .ty "tuple", .base (.tup p.at_), kit_ty (by decide +kernel), _, rfl, iteF ?_⟩
    refine ⟨_, rfl, a, _, rfl, .inr (SqT.of p.at_), _, _, rfl, rfl, _, rfl, ?_⟩
    rw [List.length_map, decide_eq_true (by omega : (1 : Int) ≤ (ts.length : Int))]
    refine iteT ⟨_, _, rfl, rfl, _, rfl, ?_⟩
    refine (show (if (!decide (((ts.length : Nat) : Int) ≤ 8)) = true then _ else _) from ?_)
    rw [decide_eq_true (by omega : ((ts.length : Nat) : Int) ≤ 8)]
    refine iteF ⟨_, rfl, a, rfl, ⟨_, SqT.of p.at_⟩, fun D hD => ?_⟩
    refine lc_sel (walk_tup (K := K) (a := a) (xs := ts.map V.ref)) (fun _ => true) (fun _ => .bl true) (by rw [List.length_map]; omega) hD (fun H' s => SqT.of (s _ _ p.at_)) ?_ ?_
    · rintro j y H1 H2 k k0 hi s1 ⟨rfl, hy⟩ hk _
      obtain ⟨t, e, rfl, _, he, ht⟩ := (p.it.to s1).get hy
      have hm := List.mem_of_getElem? he
      exact ⟨rfl, _, rfl, t, e.1, e.2, rfl, ht, p.ok.wd e hm, (p.ok.wt e hm).1, (p.ok.wt e hm).2, hk rfl _ (Same.refl _)⟩
    · intro H1 s1 h1
      rw [filt_all, bls_map] at h1
      refine ⟨D, _, rfl, SqL.of h1, _, rfl, ?_⟩
      have eall : ((List.range (ts.map V.ref).length).map fun _ => true).all id = true := by simp
      rw [eall]
      have p1 := p.to s1
      refine iteF ⟨_, rfl, a, rfl, ⟨_, SqT.of p1.at_⟩, fun D2 hD2 => ?_⟩
      refine lc_sel (walk_tup (K := K) (a := a) (xs := ts.map V.ref)) (fun _ => true) (fun i => .str (S (((ps[i]?).map Prod.fst).getD []))) (by rw [List.length_map]; omega) hD2 (fun H' s => SqT.of (s _ _ p1.at_)) ?_ ?_
      · rintro j y H3 H4 k k0 hi s2 ⟨rfl, hy⟩ hk _
        obtain ⟨t, e, rfl, _, he, ht⟩ := (p1.it.to s2).get hy
        have hk := hk rfl _ (Same.refl _)
        rw [he] at hk
        exact ⟨rfl, _, rfl, t, _, _, _, rfl, rfl, SqT.of ht, rfl, hk⟩
      · intro H3 s3 h3
        have el : (List.range (ts.map V.ref).length).map (fun i => V.str (S (((ps[i]?).map Prod.fst).getD []))) = (ps.map fun e => S e.1).map V.str := by
          rw [List.length_map, ln, map_at ps fun o => V.str (S ((o.map Prod.fst).getD [])), List.map_map]
          rfl
        rw [filt_all, el] at h3
        have s13 := s1.trans s3
        refine ⟨D2, _, rfl, SqL.of h3, by rw [List.length_map]; omega, ?_, fun R hR => ⟨R, _, rfl, upd_same, by rw [List.length_map]; omega, ?_⟩⟩
        · have nd := p.ok.nd
          unfold List.Nodup at nd ⊢
          rw [List.pairwise_map] at nd ⊢
          exact nd.imp fun h z => h (S_inj z)
        · have s4 := s13.trans (same_new (o := SetSO P w R (ps.map fun e => S e.1)) hR)
          refine ⟨_, rfl, a, _, rfl, .inr (SqT.of (s4 _ _ p.at_)), rfl, ?_⟩
          refine bl_t ?_ (q _ s4)
          rw [List.length_map, List.length_map, ln]
/-- the settings of the law's bench -/
structure Sett (s Q R T : Addr) (H : Hp) : Prop where
  s : H s = some (.tup [.ref Q, .str (Str.ofString "turns"), .ref R, .int 1, .int 9, .int 5, .int 3])
  p : Pool Q [T] [([97, 110, 110], 1)] H
  r : H R = some (.tup [.int 1, .int 2, .int 1, .int 4])
theorem Sett.to {s Q R T : Addr} {H H' : Hp} (h : Sett s Q R T H) (k : Same H H') : Sett s Q R T H' := ⟨k _ _ h.s, h.p.to k, k _ _ h.r⟩
def spRule : Sp := fun vs H Q _ => ∃ R, vs = [.ref R] ∧ H R = some (.tup [.int 1, .int 2, .int 1, .int 4]) ∧ ∀ H', Same H H' → Q (.bl true) H'
theorem ok_rule {f f1 : Addr} {fd fd1 : FuncData} (F : Fn K mg "is_health_rule" s_is_health_rule ["thing"] f fd) (B : Con2 K mg tw tr tp tg Wa) (F_is_integer : Fn K mg "is_integer" s_is_integer ["thing"] f1 fd1) : FnOk P w K mg base CX0 2 f fd ["thing"] spRule := by
  have G_is_integer : FnOk P w K mg base CX0 1 f1 fd1 ["thing"] spIntegerN := ok_is_integerN F_is_integer B.toBlt
  refine F.F.ok sc_is_health_rule (fun vs H Q E h => ?_) (fun cdv A outer s H vs Q E hr h => ?_)
  · obtain ⟨R, rfl, _⟩ := h
    rfl
  · obtain ⟨R, rfl, hR, q⟩ := h
    refine ⟨_, (pss_cons (ps_if (PW.pt (pw_or (pt_not (pt_val (pe_callB call_isi (by rfl) B.n_isinstance (by decide +kernel) (pa_cons (pv 0) (pa_cons (pe_bltn (v := .ty "tuple") (by rfl) B.n_tuple (by decide +kernel) rfl) pa_nil))))) (pw_or1 (pt_cmpR op_ne (pe_callB call_len_seq (by rfl) B.n_len PySem.boot_len (pa_cons (pv 0) pa_nil)) pe_int (nomark _)))))
      (pss_one (ps_ret pe_bl))
      pss_nil)
      (pss_cons (ps_if (pt_not (pt_val (pe_callB (cr_all rfl) (by rfl) B.n_all (by decide +kernel) (pa_cons (pe_lc (own := [("number", 4)]) rfl sc_is_health_rule.nd (pi_tup (pv 0)) (blkOk_by (N := N_is_health_rule) (sc := defScope s_is_health_rule) (by decide +kernel)) (fun _ _ _ _ _ => (pg_name (i := 4) sc_is_health_rule.nd rfl (Or.inl rfl))) (fun _ _ _ _ _ => pts_nil) (fun _ _ _ _ _ => (pe_and (pe_call G_is_integer (hr.mono (by decide)) (by rfl) F_is_integer.g F_is_integer.F.kp F_is_integer.b .nil pass0 (pa_cons (pv 4) pa_nil)) (pe_one (pe_chain op_le op_le pe_int (pv 4) (pe_glob (v := .int 99) rfl B.g_RULE_MOST ⟨_, rfl⟩)))))) pa_nil))))
      (pss_one (ps_ret pe_bl))
      pss_nil)
      (pss_cons (ps_asg (pv 0) (pg_tup rfl (pgs_cons (pg_name (i := 1) sc_is_health_rule.nd rfl (Or.inl rfl)) (pgs_cons (pg_name (i := 1) sc_is_health_rule.nd rfl (Or.inl rfl)) (pgs_cons (pg_name (i := 2) sc_is_health_rule.nd rfl (Or.inl rfl)) (pgs_cons (pg_name (i := 3) sc_is_health_rule.nd rfl (Or.inl rfl)) pgs_nil))))))
      (pss_one (ps_ret (pe_cmpR op_le (pv 2) (pv 3) (nomark _))))))), ?_⟩
    refine ⟨_, rfl, .ref R, .ty "tuple", _, _, true, rfl, .ty "tuple", .base (.tup hR), kit_ty (by decide +kernel), _, rfl, iteF ?_⟩
    refine ⟨_, rfl, R, _, rfl, .inr (SqT.of hR), rfl, _, rfl, iteF ?_⟩
    refine ⟨_, rfl, R, rfl, ⟨_, SqT.of hR⟩, fun D hD => ?_⟩
    refine lc_sel (walk_tup (K := K) (a := R) (xs := [.int 1, .int 2, .int 1, .int 4])) (fun _ => true) (fun _ => .bl true) (by decide) hD (fun H' s => SqT.of (s _ _ hR)) ?_ ?_
    · rintro j y H1 H2 k k0 hi s1 ⟨rfl, hy⟩ hk _
      obtain ⟨i, rfl, h1, h2⟩ : ∃ i : Int, y = .int i ∧ 1 ≤ i ∧ i ≤ 99 := by
        match j, hy with
        | 0, hy => exact ⟨1, (Option.some.inj hy).symm, by decide, by decide⟩
        | 1, hy => exact ⟨2, (Option.some.inj hy).symm, by decide, by decide⟩
        | 2, hy => exact ⟨1, (Option.some.inj hy).symm, by decide, by decide⟩
        | 3, hy => exact ⟨4, (Option.some.inj hy).symm, by decide, by decide⟩
        | j + 4, hy => cases hy
      refine ⟨rfl, _, rfl, i, rfl, _, rfl, iteT ⟨_, rfl, _, _, rfl, rfl, _, rfl, ?_⟩⟩
      rw [decide_eq_true h1]
      exact iteT ⟨_, _, rfl, rfl, bl_t h2 (hk rfl _ (Same.refl _))⟩
    · intro H1 s1 h1
      rw [filt_all, bls_map] at h1
      refine ⟨D, _, rfl, SqL.of h1, _, rfl, iteF ?_⟩
      exact ⟨_, rfl, R, _, rfl, SqT.of (s1 _ _ hR), rfl, _, _, rfl, _, _, rfl, _, _, rfl, _, _, rfl, rfl, _, rfl, _, rfl, _, _, rfl, rfl, q _ s1⟩
def spMark : Sp := fun vs H Q _ => ∃ R, vs = [.ref R] ∧ H R = some (.tup [.int 1, .int 2, .int 1, .int 4]) ∧ ∀ t H', Same H H' → Q (.ref t) H'
theorem ok_newmark {f f1 : Addr} {fd fd1 : FuncData} (F : Fn K mg "new_mark" s_new_mark ["rule"] f fd) (F_is_health_rule : Fn K mg "is_health_rule" s_is_health_rule ["thing"] f1 fd1) (G_is_health_rule : FnOk P w K mg base CX0 2 f1 fd1 ["thing"] spRule) : FnOk P w K mg base CX0 3 f fd ["rule"] spMark := by
  refine F.F.ok sc_new_mark (fun vs H Q E h => ?_) (fun cdv A outer s H vs Q E hr h => ?_)
  · obtain ⟨R, rfl, _⟩ := h
    rfl
  · obtain ⟨R, rfl, hR, q⟩ := h
    refine ⟨_, (pss_cons (ps_if (pt_not (pt_val (pe_call G_is_health_rule (hr.mono (by decide)) (by rfl) F_is_health_rule.g F_is_health_rule.F.kp F_is_health_rule.b .nil pass0 (pa_cons (pv 0) pa_nil))))
      (pss_one ps_never)
      pss_nil)
      (pss_cons (ps_asg (pv 0) (pg_tup rfl (pgs_cons (pg_name (i := 1) sc_new_mark.nd rfl (Or.inl rfl)) (pgs_cons (pg_name (i := 1) sc_new_mark.nd rfl (Or.inl rfl)) (pgs_cons (pg_name (i := 2) sc_new_mark.nd rfl (Or.inl rfl)) (pgs_cons (pg_name (i := 1) sc_new_mark.nd rfl (Or.inl rfl)) pgs_nil))))))
      (pss_one (ps_ret (pe_tup (pa_cons pe_bl (pa_cons pe_int (pa_cons (pv 2) (pa_cons (pv 2) pa_nil))))))))), ?_⟩
    refine ⟨_, rfl, R, rfl, hR, fun H1 s1 => ⟨_, rfl, iteF ?_⟩⟩
    refine ⟨_, rfl, R, _, rfl, SqT.of (s1 _ _ hR), rfl, _, _, rfl, _, _, rfl, _, _, rfl, _, _, rfl, rfl, ?_⟩
    exact ⟨_, rfl, _, rfl, sz (by show 4 ≤ 16000000; decide), fun t ht => q t _ (s1.trans (same_new ht))⟩
def spSett : Sp := fun vs H Q _ => ∃ a b c d, vs = [.ref a] ∧ Sett a b c d H ∧ ∀ H', Same H H' → Q (.bl true) H'
theorem ok_settings {f f1 f2 f3 : Addr} {fd fd1 fd2 fd3 : FuncData} (F : Fn K mg "is_settings" s_is_settings ["thing"] f fd) (B : Con2 K mg tw tr tp tg Wa) (F_is_pool : Fn K mg "is_pool" s_is_pool ["thing"] f1 fd1) (G_is_pool : FnOk P w K mg base CX0 3 f1 fd1 ["thing"] spPool)
    (F_is_health_rule : Fn K mg "is_health_rule" s_is_health_rule ["thing"] f2 fd2) (G_is_health_rule : FnOk P w K mg base CX0 2 f2 fd2 ["thing"] spRule) (F_is_between : Fn K mg "is_between" s_is_between ["thing", "least", "most"] f3 fd3) (G_is_between : FnOk P w K mg base CX0 2 f3 fd3 ["thing", "least", "most"] (spBtwD K)) : FnOk P w K mg base CX0 4 f fd ["thing"] spSett := by
  refine F.F.ok sc_is_settings (fun vs H Q E h => ?_) (fun cdv A outer s H vs Q E hr h => ?_)
  · obtain ⟨a, b, c, d, rfl, _⟩ := h
    rfl
  · obtain ⟨a, b, c, d, rfl, st, q⟩ := h
    refine ⟨_, (pss_cons (ps_if (PW.pt (pw_or (pt_not (pt_val (pe_callB call_isi (by rfl) B.n_isinstance (by decide +kernel) (pa_cons (pv 0) (pa_cons (pe_bltn (v := .ty "tuple") (by rfl) B.n_tuple (by decide +kernel) rfl) pa_nil))))) (pw_or1 (pt_cmpR op_ne (pe_callB call_len_seq (by rfl) B.n_len PySem.boot_len (pa_cons (pv 0) pa_nil)) pe_int (nomark _)))))
      (pss_one (ps_ret pe_bl))
      pss_nil)
      (pss_cons (ps_asg (pv 0) (pg_tup rfl (pgs_cons (pg_name (i := 1) sc_is_settings.nd rfl (Or.inl rfl)) (pgs_cons (pg_name (i := 2) sc_is_settings.nd rfl (Or.inl rfl)) (pgs_cons (pg_name (i := 3) sc_is_settings.nd rfl (Or.inl rfl)) (pgs_cons (pg_name (i := 4) sc_is_settings.nd rfl (Or.inl rfl)) (pgs_cons (pg_name (i := 5) sc_is_settings.nd rfl (Or.inl rfl)) (pgs_cons (pg_name (i := 6) sc_is_settings.nd rfl (Or.inl rfl)) (pgs_cons (pg_name (i := 7) sc_is_settings.nd rfl (Or.inl rfl)) pgs_nil)))))))))
      (pss_cons (ps_if (PW.pt (pw_or (pt_not (pt_val (pe_call G_is_pool (hr.mono (by decide)) (by rfl) F_is_pool.g F_is_pool.F.kp F_is_pool.b .nil pass0 (pa_cons (pv 1) pa_nil)))) (pw_or (pt_cmpR op_notIn_seq (pv 2) (pe_glob (v := .ref Wa) rfl B.g_WAYS rfl) rfl) (pw_or1 (pt_not (pt_val (pe_call G_is_health_rule (hr.mono (by decide)) (by rfl) F_is_health_rule.g F_is_health_rule.F.kp F_is_health_rule.b .nil pass0 (pa_cons (pv 3) pa_nil))))))))
      (pss_one (ps_ret pe_bl))
      pss_nil)
      (pss_cons (ps_if (PW.pt (pw_or (pt_not (pt_val (pe_call G_is_between (hr.mono (by decide)) (by rfl) F_is_between.g F_is_between.F.kp F_is_between.b .nil pass0 (pa_cons (pv 4) (pa_cons pe_int (pa_cons pe_int pa_nil)))))) (pw_or1 (pt_not (pt_val (pe_call G_is_between (hr.mono (by decide)) (by rfl) F_is_between.g F_is_between.F.kp F_is_between.b .nil pass0 (pa_cons (pv 5) (pa_cons pe_int (pa_cons pe_int pa_nil)))))))))
      (pss_one (ps_ret pe_bl))
      pss_nil)
      (pss_one (ps_ret (pe_and (pe_call G_is_between (hr.mono (by decide)) (by rfl) F_is_between.g F_is_between.F.kp F_is_between.b .nil pass0 (pa_cons (pv 6) (pa_cons pe_int (pa_cons pe_int pa_nil)))) (pe_one (pe_call G_is_between (hr.mono (by decide)) (by rfl) F_is_between.g F_is_between.F.kp F_is_between.b .nil pass0 (pa_cons (pv 7) (pa_cons pe_int (pa_cons pe_int pa_nil)))))))))))), ?_⟩
    refine ⟨_, rfl, .ref a, .ty "tuple", _, _, true, rfl, .ty "tuple", .base (.tup st.s), kit_ty (by decide +kernel), _, rfl, iteF ?_⟩
    refine ⟨_, rfl, a, _, rfl, .inr (SqT.of st.s), rfl, _, rfl, iteF ?_⟩
    refine ⟨_, rfl, a, _, rfl, SqT.of st.s, rfl, _, _, rfl, _, _, rfl, _, _, rfl, _, _, rfl, _, _, rfl, _, _, rfl, _, _, rfl, rfl, ?_⟩
    refine ⟨_, rfl, b, _, _, rfl, st.p, fun H1 s1 => ⟨_, rfl, iteF ?_⟩⟩
    have st1 := st.to s1
    refine ⟨_, rfl, Wa, _, rfl, .inr (B.ways _), rfl, rfl, _, rfl, ?_⟩
    refine iteC (by decide +kernel) ⟨_, rfl, c, rfl, st1.r, fun H2 s2 => ⟨_, rfl, iteF ?_⟩⟩
    refine ⟨_, rfl, a, a, .int 1, .int 1, 0, 9, rfl, .int 1, _, rfl, iteC (by decide) ⟨_, rfl, a, a, .int 9, .int 9, 1, 99, rfl, .int 9, _, rfl, iteC (by decide) ?_⟩⟩
    refine ⟨_, rfl, a, a, .int 5, .int 5, 1, 99, rfl, .int 5, _, rfl, iteB (by decide) ⟨_, rfl, a, a, .int 3, .int 3, 1, 40, rfl, .int 3, ?_⟩⟩
    exact (show wholeB 1 40 (.int 3) = true by decide) ▸ q _ (s1.trans s2)
def spProxy : Sp := fun vs H Q _ => ∃ a b c d, vs = [.ref a] ∧ Sett a b c d H ∧ ∀ t H', Same H H' → Q (.ref t) H'
theorem ok_newproxy {f f1 f2 : Addr} {fd fd1 fd2 : FuncData} (F : Fn K mg "new_proxy" s_new_proxy ["settings"] f fd) (B : Con2 K mg tw tr tp tg Wa) (F_is_settings : Fn K mg "is_settings" s_is_settings ["thing"] f1 fd1) (G_is_settings : FnOk P w K mg base CX0 4 f1 fd1 ["thing"] spSett)
    (F_new_mark : Fn K mg "new_mark" s_new_mark ["rule"] f2 fd2) (G_new_mark : FnOk P w K mg base CX0 3 f2 fd2 ["rule"] spMark) : FnOk P w K mg base CX0 5 f fd ["settings"] spProxy := by
  refine F.F.ok sc_new_proxy (fun vs H Q E h => ?_) (fun cdv A outer s H vs Q E hr h => ?_)
  · obtain ⟨a, b, c, d, rfl, _⟩ := h
    rfl
  · obtain ⟨a, b, c, d, rfl, st, q⟩ := h
    refine ⟨_, (pss_cons (ps_if (pt_not (pt_val (pe_call G_is_settings (hr.mono (by decide)) (by rfl) F_is_settings.g F_is_settings.F.kp F_is_settings.b .nil pass0 (pa_cons (pv 0) pa_nil))))
      (pss_one ps_never)
      pss_nil)
      (pss_cons (ps_set (i := 1) sc_new_proxy.nd rfl (.inl rfl) (pe_tup (pa_cons (pe_call G_new_mark (hr.mono (by decide)) (by rfl) F_new_mark.g F_new_mark.F.kp F_new_mark.b .nil pass0 (pa_cons (pe_ix ix_tup (pv 0) pe_int (fun _ _ => rfl)) pa_nil)) (pa_cons pe_non (pa_cons pe_bl (pa_cons pe_bl pa_nil))))))
      (pss_one (ps_ret (pe_tup (pa_cons (pv 0) (pa_cons pe_int (pa_cons pe_int (pa_cons (pe_callTy call_tuple_of (by rfl) B.n_tuple (by decide +kernel) (pa_cons (pe_op op_rep (pe_lst (pa_cons (pv 1) pa_nil)) (pe_callB call_len_seq (by rfl) B.n_len PySem.boot_len (pa_cons (pe_ix ix_tup (pv 0) pe_int (fun _ _ => rfl)) pa_nil))) pa_nil)) (pa_cons (pe_tup (pa_cons (pe_tup pa_nil) (pa_cons (pe_tup pa_nil) pa_nil))) (pa_cons (pe_tup pa_nil) (pa_cons (pe_tup pa_nil) (pa_cons pe_bl pa_nil))))))))))))), ?_⟩
    refine ⟨_, rfl, a, b, c, d, rfl, st, fun H1 s1 => ⟨_, rfl, iteF ?_⟩⟩
    have st1 := st.to s1
    refine ⟨_, rfl, a, _, _, .ref c, rfl, rfl, SqT.of st1.s, atI_nat (j := 2) rfl, c, rfl, st1.r, fun t H2 s2 => ⟨sz (by show 4 ≤ 16000000; decide), fun h hh => ?_⟩⟩
    have s3 := (s1.trans s2).trans (same_new (o := .tup [.ref t, .non, .bl false, .bl false]) hh)
    have st3 := st.to s3
    generalize upd H2 h (.tup [.ref t, .non, .bl false, .bl false]) = H3 at s3 st3 ⊢
    refine ⟨_, rfl, _, rfl, sz (by show 1 ≤ 16000000; decide), fun L hL => ?_⟩
    have s4 := same_new (o := .lst [.ref h]) hL
    have o4 : upd H3 L (.lst [.ref h]) L = some (.lst [.ref h]) := upd_same
    have st4 := st3.to s4
    have s4 := s3.trans s4
    generalize upd H3 L (.lst [.ref h]) = H4 at s4 st4 o4 ⊢
    refine ⟨_, rfl, a, _, _, .ref b, rfl, rfl, SqT.of st4.s, atI_nat (j := 0) rfl, b, _, rfl, .inr (SqT.of st4.p.at_), L, _, _, rfl, rfl, o4, by show -(2 ^ 63 : Int) ≤ 1; decide, by show (1 : Int) < 2 ^ 63; decide, sz (by show 1 * 1 ≤ 16000000; decide), fun R hR => ⟨R, _, rfl, .inl ⟨SqL.of upd_same, fun u hu => ?_⟩⟩⟩
    refine ⟨Nat.zero_le _, fun e1 h1 => ⟨Nat.zero_le _, fun e2 h2 => ⟨sz (by show 2 ≤ 16000000; decide), fun e3 h3 => ⟨Nat.zero_le _, fun e4 h4 => ⟨Nat.zero_le _, fun e5 h5 => ⟨sz (by show 8 ≤ 16000000; decide), fun z hz => q z _ ?_⟩⟩⟩⟩⟩⟩
    exact (((((((s4.trans (same_new hR)).trans (same_new hu)).trans (same_new h1)).trans (same_new h2)).trans (same_new h3)).trans (same_new h4)).trans (same_new h5)).trans (same_new hz)
def spHouseN : Sp := fun vs H Q _ => ∃ l, vs = [.str (S l)] ∧ wordL l = true ∧ ∀ t e H', Same H H' → H t = none → H e = none → t ≠ e → H' t = some (.tup [.str (S l), .int 1, .bl true, .bl false, .ref e]) → H' e = some (.tup []) → Q (.ref t) H'
theorem ok_housenew {f f1 : Addr} {fd fd1 : FuncData} (F : Fn K mg "house_new" s_house_new ["name"] f fd) (B : Con2 K mg tw tr tp tg Wa) (F_is_word : Fn K mg "is_word" s_is_word ["thing"] f1 fd1) (G_is_word : FnOk P w K mg base CX0 1 f1 fd1 ["thing"] spWord) : FnOk P w K mg base CX0 2 f fd ["name"] spHouseN := by
  refine F.F.ok sc_house_new (fun vs H Q E h => ?_) (fun cdv A outer s H vs Q E hr h => ?_)
  · obtain ⟨l, rfl, _⟩ := h
    rfl
  · obtain ⟨l, rfl, hw, q⟩ := h
    refine ⟨_, (pss_cons (ps_if (pt_not (pt_val (pe_call G_is_word (hr.mono (by decide)) (by rfl) F_is_word.g F_is_word.F.kp F_is_word.b .nil pass0 (pa_cons (pv 0) pa_nil))))
      (pss_one ps_never)
      pss_nil)
      (pss_one (ps_ret (pe_tup (pa_cons (pv 0) (pa_cons pe_int (pa_cons pe_bl (pa_cons pe_bl (pa_cons (pe_tup pa_nil) pa_nil))))))))), ?_⟩
    refine ⟨_, rfl, l, rfl, hw, ⟨_, rfl, iteF ?_⟩⟩
    refine ⟨_, rfl, Nat.zero_le _, fun e he => ⟨sz (by show 5 ≤ 16000000; decide), fun t ht => ?_⟩⟩
    have net : e ≠ t := ne_of_none (H := upd H e (.tup [])) upd_same ht
    refine q t e _ ((same_new he).trans (same_new ht)) (by rw [upd_ne net.symm] at ht; exact ht) he net.symm upd_same ?_
    rw [upd_ne net]
    exact upd_same
def spWorld : Sp := fun vs H Q _ => ∃ a b c d, vs = [.ref a] ∧ Sett a b c d H ∧ ∀ t H', Same H H' → Q (.ref t) H'
theorem ok_worldnew {f f1 f2 : Addr} {fd fd1 fd2 : FuncData} (F : Fn K mg "world_new" s_world_new ["settings"] f fd) (B : Con2 K mg tw tr tp tg Wa) (F_new_proxy : Fn K mg "new_proxy" s_new_proxy ["settings"] f1 fd1) (G_new_proxy : FnOk P w K mg base CX0 5 f1 fd1 ["settings"] spProxy)
    (F_house_new : Fn K mg "house_new" s_house_new ["name"] f2 fd2) (G_house_new : FnOk P w K mg base CX0 2 f2 fd2 ["name"] spHouseN) : FnOk P w K mg base CX0 6 f fd ["settings"] spWorld := by
  refine F.F.ok sc_world_new (fun vs H Q E h => ?_) (fun cdv A outer s H vs Q E hr h => ?_)
  · obtain ⟨a, b, c, d, rfl, _⟩ := h
    rfl
  · obtain ⟨a, b, c, d, rfl, st, q⟩ := h
    refine ⟨_, (pss_cons (ps_set (i := 1) sc_world_new.nd rfl (.inl rfl) (pe_call G_new_proxy (hr.mono (by decide)) (by rfl) F_new_proxy.g F_new_proxy.F.kp F_new_proxy.b .nil pass0 (pa_cons (pv 0) pa_nil)))
      (pss_one (ps_ret (pe_tup (pa_cons (pv 1) (pa_cons (pe_tup pa_nil) (pa_cons (pe_callTy call_tuple_of (by rfl) B.n_tuple (by decide +kernel) (pa_cons (pe_lc (own := [("name", 2), ("_", 3)]) rfl sc_world_new.nd (pi_tup (pe_ix ix_tup (pv 0) pe_int (fun _ _ => rfl))) (blkOk_by (N := N_world_new) (sc := defScope s_world_new) (by decide +kernel)) (fun _ _ _ _ _ => pg_two (i := 2) (j := 3) K rfl sc_world_new.nd rfl rfl rfl rfl rfl) (fun _ _ _ _ _ => pts_nil) (fun _ _ _ _ _ => (pe_call G_house_new (hr.mono (by decide)) (by rfl) F_house_new.g F_house_new.F.kp F_house_new.b .nil pass0 (pa_cons (pv 2) pa_nil)))) pa_nil)) (pa_cons (pe_tup pa_nil) (pa_cons (pe_tup pa_nil) pa_nil))))))))), ?_⟩
    refine ⟨_, rfl, a, b, c, d, rfl, st, fun t H1 s1 => ?_⟩
    have st1 := st.to s1
    refine ⟨_, rfl, Nat.zero_le _, fun e1 h1 => ?_⟩
    have s2 := s1.trans (same_new (o := .tup []) h1)
    have st2 := st.to s2
    generalize upd H1 e1 (.tup []) = H2 at s2 st2 ⊢
    refine ⟨_, rfl, a, _, _, .ref b, rfl, rfl, SqT.of st2.s, atI_nat (j := 0) rfl, b, rfl, ⟨_, SqT.of st2.p.at_⟩, fun D hD => ?_⟩
    refine lc_all (walk_tup (K := K) (a := b) (xs := [d].map V.ref)) (fun H' => Same H2 H') (fun _ _ => True) (by show 1 ≤ 16000000; decide) (Same.refl _) (fun H' o s b u e => by rw [upd_ne (ne_of_none e hD)]; exact s b u e) (fun H' s => SqT.of (s _ _ st2.p.at_)) ?_ ?_
    · rintro j y Ha Hb xs k hj s3 hxs ⟨rfl, hy⟩ hk
      obtain ⟨t', e, rfl, _, he, ht⟩ := (st2.p.it.to s3).get hy
      have he' : e = ([97, 110, 110], 1) := by
        match j, he with
        | 0, he => exact (Option.some.inj he).symm
        | j + 1, he => cases he
      subst he'
      refine ⟨t', _, rfl, SqT.of ht, rfl, _, _, rfl, _, _, rfl, rfl, rfl, _, rfl, _, rfl, by decide, fun t2 e2 Hc s4 _ _ _ _ _ => ?_⟩
      exact hk _ _ trivial (s3.trans s4) (s4 _ _ hxs)
    · intro H3 xs hxl _ s3 h3
      refine ⟨D, _, rfl, .inl ⟨SqL.of h3, fun u hu => ?_⟩⟩
      refine ⟨Nat.zero_le _, fun e2 h2 => ⟨Nat.zero_le _, fun e4 h4 => ⟨sz (by show 5 ≤ 16000000; decide), fun z hz => q z _ ?_⟩⟩⟩
      exact ((((s2.trans s3).trans (same_new hu)).trans (same_new h2)).trans (same_new h4)).trans (same_new hz)
end
end Ag

end
/-! ## BN2 -/
section
set_option linter.all false
set_option maxRecDepth 100000
namespace Ag
open PySem PySem.Spec PyProof.Rows L2
open SX (S S_len S_cat S_inj)
abbrev s_BI : Stmt := inClass (top 42) 0
abbrev N_BI : List Str := ["self", "settings"]
theorem sc_BI : FnScope N_BI ["self", "settings"] (defScope s_BI) := ⟨rfl, rfl, rfl, by decide +kernel, rfl, by decide +kernel, by decide +kernel⟩
structure BenC (K : PySem.W.Frag) (mg : Str → Option Value) (C fI : Addr) (fd : FuncData) : Prop where
  g : mg "Bench" = some (.ref C)
  cl : Cls K C
  mkc : Mk K C fI
  n1 : NoAttr K C "_worlds"
  n2 : NoAttr K C "_settings"
  n3 : NoAttr K C "_steps"
  n4 : NoAttr K C "_undone"
  F : Fun K "__init__" "Bench.__init__" s_BI fI fd
  b : Binds K fd ["self", "settings"] []
  ty : ∀ (H : Hp) (x dx : Addr) (fs : List (Str × V)), H x = some (.ins C dx fs) → TyX K H (.ref x) (.ref C)
  kI : PySem.W.kitOne K (.ref C) (.type "int") = some false
  kB : PySem.W.kitOne K (.ref C) (.type "bool") = some false
  kS : PySem.W.kitOne K (.ref C) (.type "str") = some false
  kT : PySem.W.kitOne K (.ref C) (.type "tuple") = some false
theorem kit_ref {K : PySem.W.Frag} {C : Addr} {T : String} (h : PySem.W.subIn K (.ref C) (.type T) = some false) (hm : PySem.W.kitMeta T = true) : PySem.W.kitOne K (.ref C) (.type T) = some false := by
  unfold PySem.W.kitOne PySem.W.kitCls
  rw [if_neg (by simp)]
  simp only [hm, if_true]
  exact h
section
variable {P : Program} {w : World} {K : PySem.W.Frag} {mg : Str → Option Value} {base : Heap} {tw tr tp tg : Tok} {Wa : Addr}
def spBIni (C : Addr) : Sp := fun vs H Q _ => ∃ (x dx a b c d : Addr), vs = [.ref x, .ref a] ∧ Sett a b c d H ∧ H x = some (.ins C dx []) ∧ ∀ fs H', H' x = some (.ins C dx fs) → (∀ b o, H b = some o → b ≠ x → H' b = some o) → Q .non H'
theorem ok_bini {C f f1 : Addr} {fd fd1 : FuncData} (T : BenC K mg C f fd) (F_world_new : Fn K mg "world_new" s_world_new ["settings"] f1 fd1) (G_world_new : FnOk P w K mg base CX0 6 f1 fd1 ["settings"] spWorld) : FnOk P w K mg base CX0 7 f fd ["self", "settings"] (spBIni C) := by
  refine T.F.ok sc_BI (fun vs H Q E h => ?_) (fun cdv A outer s H vs Q E hr h => ?_)
  · obtain ⟨x, dx, a, b, c, d, rfl, _⟩ := h
    rfl
  · obtain ⟨x, dx, a, b, c, d, rfl, st, hx, q⟩ := h
    refine ⟨_, pss_cons (ps_fld (pv 0) (pe_lst (pa_cons (pe_call G_world_new (hr.mono (by decide)) (by rfl) F_world_new.g F_world_new.F.kp F_world_new.b .nil pass0 (pa_cons (pv 1) pa_nil)) pa_nil)) rfl) (pss_cons (ps_fld (pv 0) (pv 1) rfl) (pss_cons (ps_fld (pv 0) (pe_lst pa_nil) rfl) (pss_one (ps_fld (pv 0) (pe_lst pa_nil) rfl)))), ?_⟩
    refine ⟨_, rfl, a, b, c, d, rfl, st, fun t H1 s1 => ⟨sz (by show 1 ≤ 16000000; decide), fun L hL => ?_⟩⟩
    have s2 := s1.trans (same_new (o := .lst [.ref t]) hL)
    generalize upd H1 L (.lst [.ref t]) = H2 at s2 ⊢
    have hx2 := s2 _ _ hx
    refine ⟨_, rfl, x, C, dx, _, rfl, hx2, T.cl, T.n1, (by show 0 < 1000; decide), ?_⟩
    refine ⟨_, rfl, _, rfl, x, C, dx, _, rfl, upd_same, T.cl, T.n2, (by show 1 < 1000; decide), ?_⟩
    rw [upd_upd]
    refine ⟨Nat.zero_le _, fun e1 h1 => ?_⟩
    have n1 : x ≠ e1 := ne_of_none upd_same h1
    have k1 : ∀ b o, H2 b = some o → b ≠ x → b ≠ e1 := fun b o e hb => ne_of_none (by rw [upd_ne hb]; exact e) h1
    refine ⟨_, rfl, x, C, dx, _, rfl, by rw [upd_ne n1]; exact upd_same, T.cl, T.n3, (by show 2 < 1000; decide), ?_⟩
    refine ⟨Nat.zero_le _, fun e2 h2 => ?_⟩
    have n2 : x ≠ e2 := ne_of_none upd_same h2
    refine ⟨_, rfl, x, C, dx, _, rfl, by rw [upd_ne n2]; exact upd_same, T.cl, T.n4, (by show 3 < 1000; decide), ?_⟩
    refine q _ _ upd_same fun b o e hb => ?_
    have e2' := s2 b o e
    have b1 := k1 b o e2' hb
    have b2 : b ≠ e2 := ne_of_none (by rw [upd_ne hb, upd_ne b1, upd_ne hb]; exact e2') h2
    rw [upd_ne hb, upd_ne b2, upd_ne hb, upd_ne b1, upd_ne hb]
    exact e2'
end
end Ag

end
/-! ## ZU -/
section
set_option linter.all false
set_option maxRecDepth 100000
set_option maxHeartbeats 4000000
namespace Ag
open PySem PySem.Spec PyProof.Rows L2
open SX (S S_len S_cat S_inj)
/-! ### drawn names, rows and houses -/
def shR : PyData → Bool
  | .tuple [.int _, .str _, .tuple _, .int _, .tuple _, .str _] => true
  | _ => false
def shH : PyData → Bool
  | .tuple [_, _, _, _, .tuple rs] => rs.all shR
  | _ => false
theorem small_ints {xs : List V} {r : Nat} {x : V} {m : Nat} (h : xs[r]? = some x) (hx : xs.all (fun y => match y with | .int i => decide (0 ≤ i) && decide (i ≤ (m : Int)) | _ => false) = true) : ∃ z : Nat, x = .int (z : Int) ∧ z ≤ m := by
  have := List.all_eq_true.mp hx x (List.mem_of_getElem? h)
  cases x with
  | int i =>
    simp only [Bool.and_eq_true, decide_eq_true_eq] at this
    exact ⟨i.toNat, by rw [Int.toNat_of_nonneg this.1], by omega⟩
  | _ => cases this
theorem strs_dg {p c : Addr} {H : Hp} : ∀ zs : List (List Nat), DgA p c H ((zs.map S).map V.str) (zs.map fun z => .str (S z))
  | [] => .nil
  | z :: zs => .cons (.str _) (strs_dg zs)
theorem ints_dg {p c : Addr} {H : Hp} : ∀ ns : List Int, DgA p c H (ns.map V.int) (ns.map .int)
  | [] => .nil
  | z :: zs => .cons (.int _) (ints_dg zs)
theorem Gx.nwt {p c : Addr} {H H1 H' : Hp} (g : Gx p c H1 H') : Kp p c (nw H H1) (nw H H') := fun b o n1 n2 e => by
  obtain ⟨e1, e2⟩ := nw_some e
  exact nw_of e1 (g.1 b o n1 n2 e2)
theorem Same.nwt {p c : Addr} {H H1 H' : Hp} (g : Same H1 H') : Kp p c (nw H H1) (nw H H') := fun b o _ _ e => by
  obtain ⟨e1, e2⟩ := nw_some e
  exact nw_of e1 (g b o e2)
theorem At.newn {p c a : Addr} {H H1 : Hp} {o : HO} (g : Gx p c H H1) (dk : Dk p c H) (h : H1 a = none) : At p c (nw H (upd H1 a o)) a o := ⟨(g.2.ne h).1, (g.2.ne h).2, nw_of (g.free dk h) upd_same⟩
theorem plain_128 {l : List Nat} (h : plainL l = true) : l.all (· < 128) = true := by
  unfold plainL at h
  rw [List.all_eq_true] at h ⊢
  intro c hc
  have := h c hc
  simp only [plainC, Bool.and_eq_true, decide_eq_true_eq] at this
  exact decide_eq_true (by omega)
theorem le60 {i : Int} (h : i.natAbs ≤ 1000) : i.natAbs ≤ 10 ^ 60 := Nat.le_trans h (by decide)
def azz : List Nat := (Str.ofString "abcdefghijklmnopqrstuvwxyz").cps.toList
theorem azz_S : Str.ofString "abcdefghijklmnopqrstuvwxyz" = S azz := rfl
theorem azz_len : azz.length = 26 := by decide +kernel
theorem azz_in {r d : Nat} (h : azz[r]? = some d) : azC d = true := by
  have := List.mem_of_getElem? h
  unfold azz at this
  rw [← mem_az]
  exact decide_eq_true this
section
variable {P : Program} {w : World} {K : PySem.W.Frag} {mg : Str → Option Value} {base : Heap} {tm tn tb : Tok}
def spName : Sp := fun vs H Q _ => ∃ (p c : Addr), vs = [.ref p] ∧ Dk p c H ∧ ∀ (l : List Nat) H', wordL l = true → Gx p c H H' → Q (.str (S l)) H'
theorem ok_name {f f2 f1 : Addr} {fd fd2 fd1 : FuncData} (F : Fn K mg "_law_name" s__law_name ["_law_deck_here"] f fd) (B : Con mg tm tn tb) (F__law_draw : Fn K mg "_law_draw" s__law_draw ["_law_deck_here", "_law_below"] f1 fd1)
    (F__law_pick : Fn K mg "_law_pick" s__law_pick ["_law_deck_here", "_law_some"] f2 fd2) : FnOk P w K mg base CX0 3 f fd ["_law_deck_here"] spName := by
  have G__law_draw : FnOk P w K mg base CX0 1 f1 fd1 ["_law_deck_here", "_law_below"] spDraw := ok_draw F__law_draw B.toBlt
  have G__law_pick : FnOk P w K mg base CX0 2 f2 fd2 ["_law_deck_here", "_law_some"] spPick := ok_pick F__law_pick B.toBlt F__law_draw
  refine F.F.ok sc__law_name (fun vs H Q E h => ?_) (fun cdv A outer s H vs Q E hr h => ?_)
  · obtain ⟨p, c, rfl, _⟩ := h
    rfl
  · obtain ⟨p, c, rfl, dk, q⟩ := h
    refine ⟨_, (pss_cons (ps_set (i := 1) sc__law_name.nd rfl (.inr rfl) pe_str)
      (pss_cons (ps_set (i := 2) sc__law_name.nd rfl (.inl rfl) (pe_call G__law_pick (hr.mono (by decide)) (by rfl) F__law_pick.g F__law_pick.F.kp F__law_pick.b .nil pass0 (pa_cons (pv 0) (pa_cons (pe_lst (pa_cons pe_int (pa_cons pe_int (pa_cons pe_int (pa_cons pe_int (pa_cons (pe_op op_add pe_int (pe_call G__law_draw (hr.mono (by decide)) (by rfl) F__law_draw.g F__law_draw.F.kp F__law_draw.b .nil pass0 (pa_cons (pv 0) (pa_cons pe_int pa_nil)))) pa_nil)))))) pa_nil))))
      (pss_one (ps_ret (pe_join pe_str (pe_lc (own := [("_law_at", 3)]) rfl sc__law_name.nd (pi_range1 (by rfl) B.n_range (pa_cons (pv 2) pa_nil)) (blkOk_by (N := N__law_name) (sc := defScope s__law_name) (by decide +kernel)) (fun _ _ _ _ _ => (pg_name (i := 3) sc__law_name.nd rfl (Or.inl rfl))) (fun _ _ _ _ _ => pts_nil) (fun _ _ _ _ _ => (pe_call G__law_pick (hr.mono (by decide)) (by rfl) F__law_pick.g F__law_pick.F.kp F__law_pick.b .nil pass0 (pa_cons (pv 0) (pa_cons (pv 1) pa_nil)))))))))), ?_⟩
    refine ⟨_, rfl, _, rfl, p, c, _, rfl, dk, by decide, by decide, fun k H1 hk g1 => ⟨_, _, rfl, rfl, sz (by show 5 ≤ 16000000; decide), fun a ha => ?_⟩⟩
    refine ⟨p, c, .ref a, rfl, g1.2.same (same_new ha), .inl ⟨a, _, rfl, At.new g1.2 ha, (by show 1 ≤ 5; decide), (by show 5 ≤ 100000; decide), fun r x H2 hx g2 => ?_⟩⟩
    have g2 := (g1.trans (Gx.new g1.2 ha)).trans g2
    obtain ⟨m, rfl, hm1, hm⟩ := small_mem (lo := 1) (hi := 10) hx (fun y hy => by
      simp only [List.mem_cons, List.not_mem_nil, or_false] at hy
      rcases hy with h | h | h | h | h
      · exact ⟨1, h, by decide, by decide⟩
      · exact ⟨3, h, by decide, by decide⟩
      · exact ⟨10, h, by decide, by decide⟩
      · exact ⟨2, h, by decide, by decide⟩
      · exact ⟨1 + k, by rw [h]; push_cast; rfl, by omega, by omega⟩)
    refine ⟨⟨_, rfl⟩, _, rfl, _, rfl, by omega, by omega, fun D hD => ?_⟩
    have nD := g2.2.ne hD
    have hD0 := g2.free dk hD
    have hmm : ((m : Int)).toNat = m := by simp
    refine lc_all (walk_range (lo := 0) (n := ((m : Int)).toNat)) (fun H' => Gx p c H H') (fun _ y => ∃ z, (z.all azC = true ∧ z.length = 1) ∧ y = .str (S z)) (by rw [hmm]; omega) g2 (fun H' o g => g.put dk hD0 nD) (fun _ _ => trivial) ?_ ?_
    · rintro i x Ha Hb xs kk hi g hxs ⟨rfl, rfl⟩ hkk
      refine ⟨rfl, _, rfl, _, rfl, p, c, _, rfl, g.2, .inr ⟨azz, congrArg V.str azz_S, by rw [azz_len]; decide, by rw [azz_len]; decide, fun r d H8 hd g8 => ?_⟩⟩
      refine hkk _ _ ⟨[d], ⟨?_, rfl⟩, rfl⟩ (g.trans g8) (g8.1 D _ nD.1 nD.2 hxs)
      rw [List.all_cons, azz_in hd]
      rfl
    · rintro H' xs hl hv g hxs
      obtain ⟨zs, rfl, hz⟩ := strs_of (P := fun z => z.all azC = true ∧ z.length = 1) (fun i y hy => hv i y hy)
      have hzl : zs.length = m := by rw [← hmm, ← hl]; simp
      have hfl : zs.flatten.length = m := by
        rw [← hzl]
        clear hzl hv hl hxs
        induction zs with
        | nil => rfl
        | cons z zs ih =>
          rw [List.flatten_cons, List.length_append, ih fun y hy => hz y (List.mem_cons_of_mem _ hy), (hz z List.mem_cons_self).2, List.length_cons]
          omega
      have hfa : zs.flatten.all azC = true := by
        rw [List.all_eq_true]
        intro d hd
        obtain ⟨z, h1, h2⟩ := List.mem_flatten.mp hd
        exact List.all_eq_true.mp (hz z h1).1 d h2
      refine ⟨_, D, zs.map S, rfl, rfl, .inl (SqL.of hxs), ?_, ?_⟩
      · rw [len_sum, emptyS, S_len, List.length_nil, Nat.mul_zero]
        omega
      · rw [emptyS, SX.join_S, joinL_nil]
        refine q _ _ ?_ g
        unfold wordL
        rw [hfa, hfl, decide_eq_true hm1, decide_eq_true hm]
        rfl
def okSt (x : Str) : Prop := x.cps.toList.all (· < 128) = true ∧ x.cps.toList.length ≤ 10
def spRowM : Sp := fun vs H Q _ => ∃ (p c : Addr) (lab : Int) (st : Str), vs = [.ref p, .int lab, .str st] ∧ Dk p c H ∧ lab.natAbs ≤ 10 ^ 50 ∧ okSt st ∧ Outs p c H (fun d => bB 12 d = true ∧ shR d = true) Q
theorem ok_rowM {f f1 f2 f3 f4 : Addr} {fd fd1 fd2 fd3 fd4 : FuncData} (F : Fn K mg "_law_row" s__law_row ["_law_deck_here", "_law_label", "_law_state"] f fd) (B : Con mg tm tn tb)
    (F__law_draw : Fn K mg "_law_draw" s__law_draw ["_law_deck_here", "_law_below"] f1 fd1) (F__law_pick : Fn K mg "_law_pick" s__law_pick ["_law_deck_here", "_law_some"] f2 fd2)
    (F__law_text : Fn K mg "_law_text" s__law_text ["_law_deck_here", "_law_size"] f3 fd3) (G__law_text : FnOk P w K mg base CX0 3 f3 fd3 ["_law_deck_here", "_law_size"] spText)
    (F__law_body : Fn K mg "_law_body" s__law_body ["_law_deck_here"] f4 fd4) (G__law_body : FnOk P w K mg base CX0 4 f4 fd4 ["_law_deck_here"] spMkBody) : FnOk P w K mg base CX0 5 f fd ["_law_deck_here", "_law_label", "_law_state"] spRowM := by
  have G__law_draw : FnOk P w K mg base CX0 1 f1 fd1 ["_law_deck_here", "_law_below"] spDraw := ok_draw F__law_draw B.toBlt
  have G__law_pick : FnOk P w K mg base CX0 2 f2 fd2 ["_law_deck_here", "_law_some"] spPick := ok_pick F__law_pick B.toBlt F__law_draw
  refine F.F.ok sc__law_row (fun vs H Q E h => ?_) (fun cdv A outer s H vs Q E hr h => ?_)
  · obtain ⟨p, c, lab, st, rfl, _⟩ := h
    rfl
  · obtain ⟨p, c, lab, st, rfl, dk, hlab, hst, q⟩ := h
    refine ⟨_, (pss_cons (ps_set (i := 3) sc__law_row.nd rfl (.inl rfl) (pe_callTy call_tuple_of (by rfl) B.n_tuple (by decide +kernel) (pa_cons (pe_lc (own := [("_law_go", 8)]) rfl sc__law_row.nd (pi_range1 (by rfl) B.n_range (pa_cons (pe_call G__law_pick (hr.mono (by decide)) (by rfl) F__law_pick.g F__law_pick.F.kp F__law_pick.b .nil pass0 (pa_cons (pv 0) (pa_cons (pe_lst (pa_cons pe_int (pa_cons pe_int (pa_cons pe_int (pa_cons pe_int (pa_cons pe_int pa_nil)))))) pa_nil))) pa_nil)) (blkOk_by (N := N__law_row) (sc := defScope s__law_row) (by decide +kernel)) (fun _ _ _ _ _ => (pg_name (i := 8) sc__law_row.nd rfl (Or.inl rfl))) (fun _ _ _ _ _ => pts_nil) (fun _ _ _ _ _ => (pe_call G__law_body (hr.mono (by decide)) (by rfl) F__law_body.g F__law_body.F.kp F__law_body.b .nil pass0 (pa_cons (pv 0) pa_nil)))) pa_nil)))
      (pss_cons (ps_set (i := 4) sc__law_row.nd rfl (.inl rfl) (pe_call G__law_draw (hr.mono (by decide)) (by rfl) F__law_draw.g F__law_draw.F.kp F__law_draw.b .nil pass0 (pa_cons (pv 0) (pa_cons (pe_op op_add (pe_callB call_len_seq (by rfl) B.n_len PySem.boot_len (pa_cons (pv 3) pa_nil)) pe_int) pa_nil))))
      (pss_cons (ps_set (i := 5) sc__law_row.nd rfl (.inl rfl) (pe_callTy call_tuple_of (by rfl) B.n_tuple (by decide +kernel) (pa_cons (pe_lc (own := [("_law_n", 9)]) rfl sc__law_row.nd (pi_range1 (by rfl) B.n_range (pa_cons (pv 4) pa_nil)) (blkOk_by (N := N__law_row) (sc := defScope s__law_row) (by decide +kernel)) (fun _ _ _ _ _ => (pg_name (i := 9) sc__law_row.nd rfl (Or.inl rfl))) (fun _ _ _ _ _ => (pts_one (pt_cmpR op_eq (pe_call G__law_draw (hr.mono (by decide)) (by rfl) F__law_draw.g F__law_draw.F.kp F__law_draw.b .nil pass0 (pa_cons (pv 0) (pa_cons pe_int pa_nil))) pe_int (nomark _)))) (fun _ _ _ _ _ => (pe_op op_add (pv 9) pe_int))) pa_nil)))
      (pss_cons (ps_set (i := 6) sc__law_row.nd rfl (.inl rfl) (pe_call G__law_text (hr.mono (by decide)) (by rfl) F__law_text.g F__law_text.F.kp F__law_text.b .nil pass0 (pa_cons (pv 0) (pa_cons (pe_call G__law_pick (hr.mono (by decide)) (by rfl) F__law_pick.g F__law_pick.F.kp F__law_pick.b .nil pass0 (pa_cons (pv 0) (pa_cons (pe_lst (pa_cons pe_int (pa_cons pe_int (pa_cons pe_int (pa_cons pe_int (pa_cons pe_int (pa_cons pe_int pa_nil))))))) pa_nil))) pa_nil))))
      (pss_cons (ps_set (i := 7) sc__law_row.nd rfl (.inl rfl) (pe_slice sl_str (pe_op op_add_str (pe_op op_add_str (pe_callTy call_str_int (by rfl) B.n_str (by decide +kernel) (pa_cons (pe_callB call_len_str (by rfl) B.n_len PySem.boot_len (pa_cons (pv 6) pa_nil)) pa_nil)) pe_str) (pv 6)) po_none (po_some (pe_call G__law_draw (hr.mono (by decide)) (by rfl) F__law_draw.g F__law_draw.F.kp F__law_draw.b .nil pass0 (pa_cons (pv 0) (pa_cons (pe_op op_add (pe_callB call_len_str (by rfl) B.n_len PySem.boot_len (pa_cons (pv 6) pa_nil)) pe_int) pa_nil))))))
      (pss_cons (ps_if (pt_cmpR op_ne (pv 2) pe_str (nomark _))
      (pss_one (ps_set (i := 3) sc__law_row.nd rfl (.inl rfl) (pe_slice sl_tupA (pv 3) po_none (po_some (pv 4)))))
      pss_nil)
      (pss_one (ps_ret (pe_tup (pa_cons (pv 1) (pa_cons (pe_ifExp (pt_cmpR op_eq (pv 2) pe_str (nomark _)) pe_str (pv 7)) (pa_cons (pv 3) (pa_cons (pv 4) (pa_cons (pv 5) (pa_cons (pv 2) pa_nil))))))))))))))), ?_⟩
    -- what came
    refine ⟨_, rfl, sz (by show 5 ≤ 16000000; decide), fun a ha => ?_⟩
    refine ⟨p, c, .ref a, rfl, dk.same (same_new ha), .inl ⟨a, _, rfl, At.new dk ha, (by show 1 ≤ 5; decide), (by show 5 ≤ 100000; decide), fun r x H1 hx g1 => ?_⟩⟩
    have g1 := (Gx.new dk ha).trans g1
    obtain ⟨m, rfl, hm⟩ := small_ints (m := 6) hx (by decide +kernel)
    refine ⟨_, rfl, by omega, by omega, fun D hD => ?_⟩
    have nD := g1.2.ne hD
    have hD0 := g1.free dk hD
    have hmm : ((m : Int)).toNat = m := by simp
    refine lc_all (walk_range (lo := 0) (n := ((m : Int)).toNat)) (fun H' => Gx p c H H') (fun _ y => ∃ z, (bodyB (.s z) = true) ∧ y = .str (S z)) (by rw [hmm]; omega) g1 (fun H' o g => g.put dk hD0 nD) (fun _ _ => trivial) ?_ ?_
    · rintro i x Ha Hb xs kk hi g hxs ⟨rfl, rfl⟩ hkk
      exact ⟨rfl, _, rfl, p, c, rfl, g.2, fun l H8 hl g8 => hkk _ _ ⟨l, hl, rfl⟩ (g.trans g8) (g8.1 D _ nD.1 nD.2 hxs)⟩
    rintro H2 xs hl hv g2 hxs
    obtain ⟨zs, rfl, hz⟩ := strs_of (P := fun z => bodyB (.s z) = true) (fun i y hy => hv i y hy)
    have hzl : zs.length = m := by rw [← hmm, ← hl]; simp
    refine ⟨D, _, rfl, .inl ⟨SqL.of hxs, fun t ht => ?_⟩⟩
    have s3 := same_new (o := .tup ((zs.map S).map V.str)) ht
    have g3 := g2.trans (Gx.same g2.2 s3)
    have ht0 := g2.free dk ht
    have nt := g2.2.ne ht
    have t3 : At p c (nw H (upd H2 t (.tup ((zs.map S).map V.str)))) t (.tup ((zs.map S).map V.str)) := ⟨nt.1, nt.2, nw_of ht0 upd_same⟩
    generalize upd H2 t (.tup ((zs.map S).map V.str)) = H3 at g3 t3 ⊢
    have hcl : ((zs.map S).map V.str).length = m := by rw [List.length_map, List.length_map, hzl]
    -- what was begun
    refine ⟨_, rfl, _, rfl, t, _, rfl, .inr (SqT.of (nw_some t3.2.2).2), _, _, rfl, rfl, p, c, _, rfl, g3.2, by omega, by omega, fun b H4 hb g4 => ?_⟩
    rw [hcl] at hb
    have t4 := t3.kp g4.nwt
    have g4 := g3.trans g4
    -- what was done
    refine ⟨_, rfl, _, rfl, by omega, by omega, fun E1 hE => ?_⟩
    have nE := g4.2.ne hE
    have hE0 := g4.free dk hE
    have hbb : ((b : Int)).toNat = b := by simp
    refine lc_it (walk_range (lo := 0) (n := ((b : Int)).toNat)) (fun i H' => Gx p c H H' ∧ At p c (nw H H') t (.tup ((zs.map S).map V.str)) ∧ ∃ ns : List Int, H' E1 = some (.lst (ns.map V.int)) ∧ ns.length ≤ i ∧ ∀ n ∈ ns, n.natAbs ≤ 100) ⟨g4.put dk hE0 nE, t4.kp (Same.nwt (same_new hE)), [], upd_same, Nat.le_refl _, fun n hn => nomatch hn⟩ (fun _ _ _ _ => trivial) ?_ ?_
    · rintro i x H5 H6 hi ⟨g5, t5, ns, h5, hl5, hn5⟩ ⟨rfl, rfl⟩
      refine ⟨rfl, _, rfl, p, c, 2, rfl, g5.2, by decide, by decide, fun r H7 hr7 g7 => ⟨rfl, _, rfl, ?_⟩⟩
      have t7 := t5.kp g7.nwt
      have h7 := g7.1 E1 _ nE.1 nE.2 h5
      have g7 := g5.trans g7
      refine ite2 (fun _ => ?_) (fun _ => ?_)
      · refine ⟨_, rfl, _, _, rfl, rfl, _, h7, ?_, g7.put dk hE0 nE, ?_, ns ++ [0 + (i : Int) + 1], ?_, ?_, ?_⟩
        · rw [sizeLine_eq, List.length_map]
          omega
        · have : t ≠ E1 := fun e => by
            have h1 := (nw_some t7.2.2).2
            rw [e, h7] at h1
            cases h1
          refine ⟨t7.1, t7.2.1, nw_of (nw_some t7.2.2).1 ?_⟩
          rw [upd_ne this]
          exact (nw_some t7.2.2).2
        · rw [upd_same, List.map_append]
          rfl
        · rw [List.length_append]
          simp
          omega
        · intro n hn
          rcases List.mem_append.mp hn with hn | hn
          · exact hn5 n hn
          · rw [List.mem_singleton.mp hn]
            omega
      · exact ⟨g7, t7, ns, h7, by omega, hn5⟩
    rintro H5 ⟨g5, t5, ns, h5, hl5, hn5⟩
    rw [hbb] at hl5
    refine ⟨E1, _, rfl, .inl ⟨SqL.of h5, fun u hu => ?_⟩⟩
    have s6 := same_new (o := .tup (ns.map V.int)) hu
    have u6 := At.newn (o := .tup (ns.map V.int)) g5 dk hu
    have t6 := t5.kp (Same.nwt (same_new (o := .tup (ns.map V.int)) hu))
    have g6 := g5.trans (Gx.same g5.2 s6)
    generalize upd H5 u (.tup (ns.map V.int)) = H6 at g6 u6 t6 ⊢
    -- the rest
    refine ⟨_, rfl, _, rfl, sz (by show 6 ≤ 16000000; decide), fun a2 ha2 => ?_⟩
    refine ⟨p, c, .ref a2, rfl, g6.2.same (same_new ha2), .inl ⟨a2, _, rfl, At.new g6.2 ha2, (by show 1 ≤ 6; decide), (by show 6 ≤ 100000; decide), fun r2 x2 H7 hx2 g7 => ?_⟩⟩
    have g67 := (Gx.new g6.2 ha2).trans g7
    obtain ⟨n, rfl, hn⟩ := small_ints (m := 200) hx2 (by decide +kernel)
    refine ⟨p, c, n, rfl, g67.2, hn, fun l H8 hp hl8 g8 => ?_⟩
    have g68 := g67.trans g8
    have t8 := t6.kp g68.nwt
    have u8 := u6.kp g68.nwt
    have g8 := g6.trans g68
    refine ⟨_, rfl, S l, rfl, sz (by rw [S_len]; omega), _, rfl, log_int (le60 (by rw [S_len]; omega)), ?_⟩
    rw [S_len, show Str.ofString (toString ((l.length : Nat) : Int)) = S (numL l.length) from toStrN l.length]
    have hnl : (numL l.length).length ≤ 3 := numLen (by decide) (by omega)
    have hcl1 : Str.ofString ":" = S [58] := by decide +kernel
    have hlo : ((numL l.length ++ [58]) ++ l).all (· < 128) = true := by
      rw [List.all_append, List.all_append, List.all_eq_true.mpr (fun c hc => by have := numL_all l.length c hc; simp; omega), plain_128 hp]
      rfl
    have hlz : ((numL l.length ++ [58]) ++ l).length ≤ 204 := by
      rw [List.length_append, List.length_append, List.length_singleton]
      omega
    rw [hcl1]
    refine ⟨_, _, rfl, rfl, sz (by rw [S_len, S_len, List.length_singleton]; omega), _, rfl, _, _, rfl, rfl, sz (by rw [S_cat, S_len, S_len, List.length_append, List.length_singleton]; omega), ?_⟩
    rw [S_cat, S_cat]
    generalize ((numL l.length ++ [58]) ++ l) = rl at hlo hlz ⊢
    refine ⟨_, rfl, _, rfl, S l, rfl, sz (by rw [S_len]; omega), _, _, rfl, rfl, p, c, _, rfl, g8.2, by rw [S_len]; omega, by rw [S_len]; omega, fun k H9 hk g9 => ⟨(k : Int), rfl, S rl, rfl, sz (by rw [S_len]; omega), ?_⟩⟩
    rw [cut_to]
    have t9 := t8.kp g9.nwt
    have u9 := u8.kp g9.nwt
    have g9 := g8.trans g9
    -- the whole
    have fin : ∀ (rs : List Nat) (cv : Addr) (cs : List (List Nat)) (H' : Hp), Gx p c H H' → Kp p c (nw H H9) (nw H H') → At p c (nw H H') cv (.tup ((cs.map S).map V.str)) → rs.all (· < 128) = true → rs.length ≤ 204 → cs.length ≤ 6 → (∀ z ∈ cs, bodyB (.s z) = true) → ∀ w, H' w = none → Q (.ref w) (upd H' w (.tup [.int lab, .str (S rs), .ref cv, .int (b : Int), .ref u, .str st])) := by
      intro rs cv cs H' g k hcv r1 r2 c1 c2 w hw
      have kk := (k.trans (Same.nwt (same_new (o := .tup [.int lab, .str (S rs), .ref cv, .int (b : Int), .ref u, .str st]) hw)))
      refine q _ (.tuple [.int lab, .str (S rs), .tuple (cs.map fun z => .str (S z)), .int (b : Int), .tuple (ns.map .int), .str st]) _ (g.trans (Gx.same g.2 (same_new hw))) (.tup (At.newn g dk hw) (.cons (.int _) (.cons (.str _) (.cons (.tup (hcv.kp (Same.nwt (same_new hw))) (strs_dg cs)) (.cons (.int _) (.cons (.tup (u9.kp kk) (ints_dg ns)) (.cons (.str _) .nil))))))) ⟨?_, rfl⟩
      have h256 : sl 12 = 256 := by decide
      rw [bB_tup]
      simp only [List.all_cons, List.all_nil, Bool.and_true]
      rw [bB_int (by omega), bB_str r1 (by omega), bB_tup, bB_int (by simp; omega), bB_tup, show bB 12 (.str st) = true from bB_str (l := st.cps.toList) hst.1 (by have := hst.2; omega), List.length_map, List.length_map, decide_eq_true (by omega : cs.length ≤ 12), decide_eq_true (by omega : ns.length ≤ 12), List.all_eq_true.mpr fun d hd => ?_, List.all_eq_true.mpr fun d hd => ?_]
      · rfl
      · obtain ⟨n, hn, rfl⟩ := List.mem_map.mp hd
        have := hn5 n hn
        exact bB_int (by omega)
      · obtain ⟨z, hz', rfl⟩ := List.mem_map.mp hd
        have := c2 z hz'
        simp only [bodyB, Bool.and_eq_true, decide_eq_true_eq] at this
        exact bB_str (plain_128 this.2) (by omega)
    have rok : (rl.take k).all (· < 128) = true := List.all_eq_true.mpr fun c hc => List.all_eq_true.mp hlo c (List.mem_of_mem_take hc)
    have rle : (rl.take k).length ≤ 204 := by rw [List.length_take]; omega
    have e0 : Str.ofString "" = S [] := by decide +kernel
    have done : ∀ (cv : Addr) (cs : List (List Nat)) (H' : Hp) (y : V), Gx p c H H' → Kp p c (nw H H9) (nw H H') → At p c (nw H H') cv (.tup ((cs.map S).map V.str)) → cs.length ≤ 6 → (∀ z ∈ cs, bodyB (.s z) = true) → (y = .str (Str.ofString "") ∨ y = .str (S (rl.take k))) → ∀ w, H' w = none → Q (.ref w) (upd H' w (.tup [.int lab, y, .ref cv, .int (b : Int), .ref u, .str st])) := by
      rintro cv cs H' y g k hcv c1 c2 (rfl | rfl) w hw
      · rw [e0]
        exact fin [] cv cs H' g k hcv rfl (by simp) c1 c2 w hw
      · exact fin _ cv cs H' g k hcv rok rle c1 c2 w hw
    have tk : ((zs.map S).map V.str).take b = ((zs.take b).map S).map V.str := by rw [List.map_take, List.map_take]
    have s6 : ([V.int lab, V.str (Str.ofString ""), .ref t, .int (b : Int), .ref u, .str st] : List V).length ≤ sizeLine := sz (by show 6 ≤ 16000000; decide)
    refine ⟨_, rfl, rfl, _, rfl, ite2 (fun _ => ?_) (fun _ => ?_)⟩
    · refine ⟨_, rfl, _, rfl, _, rfl, t, _, rfl, SqT.of (nw_some t9.2.2).2, fun h => ?_, fun _ w hw => ?_⟩
      · refine ⟨_, rfl, _, rfl, rfl, _, rfl, ite2 (fun _ => ?_) (fun _ => ?_)⟩
        · exact ⟨_, rfl, _, rfl, _, rfl, _, rfl, s6, fun w hw => done t zs H9 _ g9 .refl t9 (by omega) hz (.inl rfl) w hw⟩
        · exact ⟨_, rfl, _, rfl, _, rfl, _, rfl, _, rfl, s6, fun w hw => done t zs H9 _ g9 .refl t9 (by omega) hz (.inr rfl) w hw⟩
      · rw [cutV_to, tk]
        have sA := same_new (o := .tup (((zs.take b).map S).map V.str)) hw
        have wA := At.newn (o := .tup (((zs.take b).map S).map V.str)) g9 dk hw
        have gA := g9.trans (Gx.same g9.2 sA)
        have kA := Same.nwt (p := p) (c := c) (H := H) sA
        have zl : (zs.take b).length ≤ 6 := by rw [List.length_take]; omega
        have zt : ∀ z ∈ zs.take b, bodyB (.s z) = true := fun z h => hz z (List.mem_of_mem_take h)
        generalize upd H9 w (.tup (((zs.take b).map S).map V.str)) = HA at wA gA kA ⊢
        refine ⟨_, rfl, _, rfl, rfl, _, rfl, ite2 (fun _ => ?_) (fun _ => ?_)⟩
        · exact ⟨_, rfl, _, rfl, _, rfl, _, rfl, s6, fun v hv => done w _ HA _ gA kA wA zl zt (.inl rfl) v hv⟩
        · exact ⟨_, rfl, _, rfl, _, rfl, _, rfl, _, rfl, s6, fun v hv => done w _ HA _ gA kA wA zl zt (.inr rfl) v hv⟩
    · refine ⟨_, rfl, _, rfl, rfl, _, rfl, ite2 (fun _ => ?_) (fun _ => ?_)⟩
      · exact ⟨_, rfl, _, rfl, _, rfl, _, rfl, s6, fun w hw => done t zs H9 _ g9 .refl t9 (by omega) hz (.inl rfl) w hw⟩
      · exact ⟨_, rfl, _, rfl, _, rfl, _, rfl, _, rfl, s6, fun w hw => done t zs H9 _ g9 .refl t9 (by omega) hz (.inr rfl) w hw⟩
end
end Ag

end
/-! ## ZV -/
section
set_option linter.all false
set_option maxRecDepth 100000
set_option maxHeartbeats 4000000
namespace Ag
open PySem PySem.Spec PyProof.Rows L2
open SX (S S_len S_cat S_inj)
theorem word_bB {l : List Nat} (h : wordL l = true) : bB 12 (.str (S l)) = true := by
  unfold wordL at h
  rw [Bool.and_eq_true, Bool.and_eq_true, decide_eq_true_eq, decide_eq_true_eq] at h
  have h256 : sl 12 = 256 := by decide
  refine bB_str (List.all_eq_true.mpr fun c hc => ?_) (by omega)
  have := List.all_eq_true.mp h.2 c hc
  simp only [azC, Bool.and_eq_true, decide_eq_true_eq] at this
  exact decide_eq_true (by omega)
theorem rows_of {p c : Addr} {X : Hp} : ∀ {xs : List V}, (∀ (i : Nat) (y : V), xs[i]? = some y → ∃ d, Dg p c X y d ∧ bB 12 d = true ∧ shR d = true) → ∃ ds, DgA p c X xs ds ∧ ds.all (bB 12) = true ∧ ds.all shR = true
  | [], _ => ⟨[], .nil, rfl, rfl⟩
  | x :: xs, h => by
    obtain ⟨d, h1, h2, h3⟩ := h 0 x rfl
    obtain ⟨ds, k1, k2, k3⟩ := rows_of (xs := xs) fun i y hy => h (i + 1) y hy
    exact ⟨d :: ds, .cons h1 k1, by rw [List.all_cons, h2, k2]; rfl, by rw [List.all_cons, h3, k3]; rfl⟩
section
variable {P : Program} {w : World} {K : PySem.W.Frag} {mg : Str → Option Value} {base : Heap} {tm tn tb : Tok}
def spHouseM : Sp := fun vs H Q _ => ∃ (p c : Addr), vs = [.ref p] ∧ Dk p c H ∧ Outs p c H (fun d => bB 12 d = true ∧ shH d = true) Q
theorem ok_houseM (hset : mg "set" = none) {f f1 f2 f3 f4 : Addr} {fd fd1 fd2 fd3 fd4 : FuncData} (F : Fn K mg "_law_house" s__law_house ["_law_deck_here"] f fd) (B : Con mg tm tn tb)
    (F__law_draw : Fn K mg "_law_draw" s__law_draw ["_law_deck_here", "_law_below"] f1 fd1) (F__law_pick : Fn K mg "_law_pick" s__law_pick ["_law_deck_here", "_law_some"] f2 fd2)
    (F__law_name : Fn K mg "_law_name" s__law_name ["_law_deck_here"] f3 fd3)
    (F__law_row : Fn K mg "_law_row" s__law_row ["_law_deck_here", "_law_label", "_law_state"] f4 fd4) (G__law_row : FnOk P w K mg base CX0 5 f4 fd4 ["_law_deck_here", "_law_label", "_law_state"] spRowM) : FnOk P w K mg base CX0 6 f fd ["_law_deck_here"] spHouseM := by
  have G__law_draw : FnOk P w K mg base CX0 1 f1 fd1 ["_law_deck_here", "_law_below"] spDraw := ok_draw F__law_draw B.toBlt
  have G__law_pick : FnOk P w K mg base CX0 2 f2 fd2 ["_law_deck_here", "_law_some"] spPick := ok_pick F__law_pick B.toBlt F__law_draw
  have G__law_name : FnOk P w K mg base CX0 3 f3 fd3 ["_law_deck_here"] spName := ok_name F__law_name B F__law_draw F__law_pick
  refine F.F.ok sc__law_house (fun vs H Q E h => ?_) (fun cdv A outer s H vs Q E hr h => ?_)
  · obtain ⟨p, c, rfl, _⟩ := h
    rfl
  · obtain ⟨p, c, rfl, dk, q⟩ := h
    refine ⟨_, (pss_cons (ps_par3 (i := 1) (j := 2) (l := 3) (by rfl) sc__law_house.nd rfl rfl rfl (by decide) (by decide) (by decide) rfl rfl rfl (pa_cons (pe_call G__law_name (hr.mono (by decide)) (by rfl) F__law_name.g F__law_name.F.kp F__law_name.b .nil pass0 (pa_cons (pv 0) pa_nil)) (pa_cons (pe_call G__law_pick (hr.mono (by decide)) (by rfl) F__law_pick.g F__law_pick.F.kp F__law_pick.b .nil pass0 (pa_cons (pv 0) (pa_cons (pe_lst (pa_cons pe_int (pa_cons pe_int (pa_cons (pe_op op_sub (pe_op op_pow pe_int pe_int) pe_int) (pa_cons pe_int pa_nil))))) pa_nil))) (pa_cons (pe_call G__law_draw (hr.mono (by decide)) (by rfl) F__law_draw.g F__law_draw.F.kp F__law_draw.b .nil pass0 (pa_cons (pv 0) (pa_cons pe_int pa_nil))) pa_nil))) (by rfl))
      (pss_cons (ps_setLc (i := 4) (own := [("_law_go", 7)]) rfl sc__law_house.nd rfl rfl (sw_true rfl rfl rfl (by decide +kernel)) (pi_range1 (by rfl) B.n_range (pa_cons (pe_call G__law_draw (hr.mono (by decide)) (by rfl) F__law_draw.g F__law_draw.F.kp F__law_draw.b .nil pass0 (pa_cons (pv 0) (pa_cons pe_int pa_nil))) pa_nil)) (blkOk_by (N := N__law_house) (sc := defScope s__law_house) (by decide +kernel)) (fun _ _ _ _ _ => (pg_name (i := 7) sc__law_house.nd rfl (Or.inl rfl))) (fun _ _ _ _ _ => pts_nil) (fun _ _ _ _ _ => (pe_call G__law_pick (hr.mono (by decide)) (by rfl) F__law_pick.g F__law_pick.F.kp F__law_pick.b .nil pass0 (pa_cons (pv 0) (pa_cons (pe_lst (pa_cons pe_int (pa_cons pe_int (pa_cons pe_int (pa_cons pe_int (pa_cons pe_int (pa_cons pe_int (pa_cons pe_int (pa_cons (pe_op op_pow pe_int pe_int) (pa_cons pe_int (pa_cons (pe_op op_add pe_int (pe_call G__law_draw (hr.mono (by decide)) (by rfl) F__law_draw.g F__law_draw.F.kp F__law_draw.b .nil pass0 (pa_cons (pv 0) (pa_cons pe_int pa_nil)))) pa_nil))))))))))) pa_nil)))))
      (pss_cons (ps_if (pt_cmpR op_eq (pv 3) pe_int (nomark _))
      (pss_one (ps_ret (pe_tup (pa_cons (pv 1) (pa_cons (pv 2) (pa_cons pe_bl (pa_cons pe_bl (pa_cons (pe_tup pa_nil) pa_nil))))))))
      pss_nil)
      (pss_cons (ps_set (i := 5) sc__law_house.nd rfl (.inr rfl) (pe_ifExp (pt_cmpR op_lt (pv 3) pe_int (nomark _)) (pe_lst (pa_cons pe_str (pa_cons pe_str pa_nil))) (pe_lst (pa_cons pe_str (pa_cons pe_str (pa_cons pe_str (pa_cons pe_str pa_nil)))))))
      (pss_cons (ps_setLc (i := 6) (own := [("_law_label", 8)]) rfl sc__law_house.nd rfl rfl (sw_true rfl rfl rfl (by decide +kernel)) (pi_list (pe_callB (cr_sortedSet rfl) (by rfl) B.n_sorted (by decide +kernel) (pa_cons (pe_callTy (cr_setI rfl) (by rfl) hset (by decide +kernel) (pa_cons (pv 4) pa_nil)) pa_nil))) (blkOk_by (N := N__law_house) (sc := defScope s__law_house) (by decide +kernel)) (fun _ _ _ _ _ => (pg_name (i := 8) sc__law_house.nd rfl (Or.inl rfl))) (fun _ _ _ _ _ => pts_nil) (fun _ _ _ _ _ => (pe_call G__law_row (hr.mono (by decide)) (by rfl) F__law_row.g F__law_row.F.kp F__law_row.b .nil pass0 (pa_cons (pv 0) (pa_cons (pv 8) (pa_cons (pe_call G__law_pick (hr.mono (by decide)) (by rfl) F__law_pick.g F__law_pick.F.kp F__law_pick.b .nil pass0 (pa_cons (pv 0) (pa_cons (pv 5) pa_nil))) pa_nil))))))
      (pss_one (ps_ret (pe_tup (pa_cons (pv 1) (pa_cons (pv 2) (pa_cons pe_bl (pa_cons (pe_cmpR op_lt (pv 3) pe_int (nomark _)) (pa_cons (pe_callTy call_tuple_of (by rfl) B.n_tuple (by decide +kernel) (pa_cons (pv 6) pa_nil)) pa_nil))))))))))))), ?_⟩
    have c6 : CPow 10 6 := ⟨by decide, by decide, by decide⟩
    refine ⟨_, rfl, p, c, rfl, dk, fun nm H1 hnm g1 => ?_⟩
    refine ⟨_, rfl, _, _, rfl, rfl, c6, _, _, rfl, rfl, sz (by show 4 ≤ 16000000; decide), fun a ha => ?_⟩
    refine ⟨p, c, .ref a, rfl, g1.2.same (same_new ha), .inl ⟨a, _, rfl, At.new g1.2 ha, (by show 1 ≤ 4; decide), (by show 4 ≤ 100000; decide), fun r x H2 hx g2 => ?_⟩⟩
    have g2 := (g1.trans (Gx.new g1.2 ha)).trans g2
    obtain ⟨bt, rfl, hbt⟩ := small_ints (m := 1000000) hx (by decide +kernel)
    refine ⟨_, rfl, p, c, 8, rfl, g2.2, by decide, by decide, fun way H3 hway g3 => ?_⟩
    have g3 := g2.trans g3
    refine ⟨_, _, _, rfl, ?_⟩
    -- the labels
    refine ⟨_, rfl, p, c, 6, rfl, g3.2, by decide, by decide, fun m H4 hm g4 => ⟨_, rfl, by omega, by omega, fun L hL => ?_⟩⟩
    have g4 := g3.trans g4
    have nL := g4.2.ne hL
    have hL0 := g4.free dk hL
    have hmm : ((m : Int)).toNat = m := by simp
    refine lc_all (walk_range (lo := 0) (n := ((m : Int)).toNat)) (fun H' => Gx p c H H') (fun _ y => ∃ n : Nat, n ≤ 1000000 ∧ y = .int (n : Int)) (by rw [hmm]; omega) g4 (fun H' o g => g.put dk hL0 nL) (fun _ _ => trivial) ?_ ?_
    · rintro i x Ha Hb xs kk hi g hxs ⟨rfl, rfl⟩ hkk
      refine ⟨rfl, _, rfl, _, _, rfl, rfl, c6, _, rfl, p, c, 40, rfl, g.2, by decide, by decide, fun k H6 hk g6 => ⟨_, _, rfl, rfl, sz (by show 10 ≤ 16000000; decide), fun a2 ha2 => ?_⟩⟩
      have e6 := g6.1 L _ nL.1 nL.2 hxs
      have g6 := g.trans g6
      refine ⟨p, c, .ref a2, rfl, g6.2.same (same_new ha2), .inl ⟨a2, _, rfl, At.new g6.2 ha2, (by show 1 ≤ 10; decide), (by show 10 ≤ 100000; decide), fun r2 x2 H7 hx2 g7 => ?_⟩⟩
      obtain ⟨n, e, _, hn⟩ := small_mem (lo := 0) (hi := 1000000) hx2 (fun y hy => by
        simp only [List.mem_cons, List.not_mem_nil, or_false] at hy
        rcases hy with h | h | h | h | h | h | h | h | h | h
        · exact ⟨1, h, by decide, by decide⟩
        · exact ⟨2, h, by decide, by decide⟩
        · exact ⟨3, h, by decide, by decide⟩
        · exact ⟨9, h, by decide, by decide⟩
        · exact ⟨10, h, by decide, by decide⟩
        · exact ⟨11, h, by decide, by decide⟩
        · exact ⟨100, h, by decide, by decide⟩
        · exact ⟨1000000, h, by decide, by decide⟩
        · exact ⟨0, h, by decide, by decide⟩
        · exact ⟨1 + k, by rw [h]; push_cast; rfl, by omega, by omega⟩)
      exact hkk _ _ ⟨n, hn, e⟩ ((g6.trans (Gx.new g6.2 ha2)).trans g7) (g7.1 L _ nL.1 nL.2 (same_new ha2 _ _ e6))
    rintro H5 xs hl hv g5 hxs
    obtain ⟨ns, rfl, hn⟩ : ∃ ns : List Int, xs = ns.map V.int ∧ ∀ n ∈ ns, n.natAbs ≤ 1000000 := by
      clear hl hxs
      induction xs with
      | nil => exact ⟨[], rfl, fun n hn => nomatch hn⟩
      | cons x xs ih =>
        obtain ⟨n, h1, rfl⟩ := hv 0 x rfl
        obtain ⟨ns, rfl, h2⟩ := ih fun i y hy => hv (i + 1) y hy
        refine ⟨(n : Int) :: ns, rfl, fun j hj => ?_⟩
        rcases List.mem_cons.mp hj with rfl | hj
        · omega
        · exact h2 j hj
    have hnl : ns.length = m := by rw [← hmm, ← hl, List.length_map]
    have h256 : sl 12 = 256 := by decide
    have hb50 : (10 : Nat) ^ 50 ≥ 1000000 := by decide
    have fin : ∀ (u lv : Bool) (ra : Addr) (ys : List V) (ds : List PyData) (H' : Hp), Gx p c H H' → At p c (nw H H') ra (.tup ys) → DgA p c (nw H H') ys ds → ds.length ≤ 12 → ds.all (bB 12) = true → ds.all shR = true → ∀ w, H' w = none → Q (.ref w) (upd H' w (.tup [.str (S nm), .int (bt : Int), .bl u, .bl lv, .ref ra])) := by
      intro u lv ra ys ds H' g ha hA hdl hdb hds w hw
      have kk := Same.nwt (p := p) (c := c) (H := H) (same_new (o := .tup [.str (S nm), .int (bt : Int), .bl u, .bl lv, .ref ra]) hw)
      refine q _ (.tuple [.str (S nm), .int (bt : Int), .bool u, .bool lv, .tuple ds]) _ (g.trans (Gx.same g.2 (same_new hw))) (.tup (At.newn g dk hw) (.cons (.str _) (.cons (.int _) (.cons (.bl _) (.cons (.bl _) (.cons (.tup (ha.kp kk) (hA.to kk)) .nil)))))) ⟨?_, hds⟩
      rw [bB_tup]
      simp only [List.all_cons, List.all_nil, Bool.and_true]
      rw [word_bB hnm, bB_int (by omega), bB_tup, hdb, decide_eq_true hdl]
      rfl
    have s5 : ([V.int 0, .int 0, .int 0, .int 0, .int 0] : List V).length ≤ sizeLine := sz (by show 5 ≤ 16000000; decide)
    refine ⟨_, rfl, rfl, _, rfl, ite2 (fun _ => ?_) (fun _ => ?_)⟩
    · refine ⟨_, rfl, _, rfl, Nat.zero_le _, fun e he => ⟨s5, fun w hw => ?_⟩⟩
      have se := same_new (o := .tup []) he
      exact fin false false e [] [] _ (g5.trans (Gx.same g5.2 se)) (At.newn g5 dk he) .nil (by decide) rfl rfl w hw
    -- the states, the rows
    try unfold tNext
    try dsimp only
    try unfold tSeq
    try dsimp only
    unfold tAsg
    refine testE (fun x H' => ∃ (sa : Addr) (xs : List V), x = .ref sa ∧ Gx p c H H' ∧ At p c H' sa (.lst xs) ∧ H' L = some (.lst (ns.map V.int)) ∧ 1 ≤ xs.length ∧ xs.length ≤ 4 ∧ ∀ y ∈ xs, ∃ st, y = .str st ∧ okSt st) (fun Q' hQ' => ?_) ?_
    · refine ⟨_, rfl, _, _, rfl, rfl, _, rfl, ite2 (fun _ => ?_) (fun _ => ?_)⟩
      · refine ⟨sz (by show 2 ≤ 16000000; decide), fun sa hsa => hQ' _ _ ⟨sa, _, rfl, g5.trans (Gx.new g5.2 hsa), At.new g5.2 hsa, same_new hsa _ _ hxs, (by show 1 ≤ 2; decide), (by show 2 ≤ 4; decide), fun y hy => ?_⟩⟩
        simp only [List.mem_cons, List.not_mem_nil, or_false] at hy
        rcases hy with h | h
        · exact ⟨_, h, by decide +kernel, by decide +kernel⟩
        · exact ⟨_, h, by decide +kernel, by decide +kernel⟩
      · refine ⟨sz (by show 4 ≤ 16000000; decide), fun sa hsa => hQ' _ _ ⟨sa, _, rfl, g5.trans (Gx.new g5.2 hsa), At.new g5.2 hsa, same_new hsa _ _ hxs, (by show 1 ≤ 4; decide), (by show 4 ≤ 4; decide), fun y hy => ?_⟩⟩
        simp only [List.mem_cons, List.not_mem_nil, or_false] at hy
        rcases hy with h | h | h | h
        · exact ⟨_, h, by decide +kernel, by decide +kernel⟩
        · exact ⟨_, h, by decide +kernel, by decide +kernel⟩
        · exact ⟨_, h, by decide +kernel, by decide +kernel⟩
        · exact ⟨_, h, by decide +kernel, by decide +kernel⟩
    clear g5 hxs
    rintro _ H6 ⟨sa, sts, rfl, g6, hsa, h6, hs1, hs4, hst⟩
    refine ⟨_, rfl, L, ns, rfl, .inl (SqL.of h6), by omega, fun se M hse nd hm hml => ?_⟩
    refine ⟨se, _, _, rfl, upd_same, by omega, fun ns' r hpw hmem hlen' hr' => ?_⟩
    have s67 := (same_new hse).trans (same_new (o := .lst (ns'.map V.int)) hr')
    have nr := (g6.2.same (same_new hse)).ne hr'
    generalize hH7 : upd (upd H6 se _) r _ = H7 at s67 ⊢
    have h7 : H7 r = some (.lst (ns'.map V.int)) := by rw [← hH7]; exact upd_same
    clear hH7
    have g7 := g6.trans (Gx.same g6.2 s67)
    have hsa7 : At p c H7 sa (.lst sts) := hsa.kp (.same s67)
    refine ⟨r, rfl, ⟨_, SqL.of h7⟩, fun D hD => ?_⟩
    have nD := g7.2.ne hD
    have hD0 := g7.free dk hD
    have nrD : r ≠ D := ne_of_none h7 hD
    have nsD : sa ≠ D := ne_of_none hsa7.2.2 hD
    have hnr : ∀ n ∈ ns', n.natAbs ≤ 1000000 := fun n h => hn n (of_decide_eq_true ((hmem n).mp h))
    refine lc_allH (walk_list (K := K) (a := r) (xs := ns'.map V.int)) (fun H' => Gx p c H H' ∧ H' r = some (.lst (ns'.map V.int)) ∧ At p c H' sa (.lst sts)) (fun H' _ y => ∃ d, Dg p c (hd1 D (nw H H')) y d ∧ bB 12 d = true ∧ shR d = true) (by rw [List.length_map]; omega) ⟨g7, h7, hsa7⟩ (fun H' o R => ⟨R.1.put dk hD0 nD, by rw [upd_ne nrD]; exact R.2.1, R.2.2.1, R.2.2.2.1, by rw [upd_ne nsD]; exact R.2.2.2.2⟩) ?_ (fun H' R => SqL.of R.2.1) ?_ ?_
    · rintro H' o j y ⟨d, hd, hb⟩
      refine ⟨d, hd.to fun b u n1 n2 e => ?_, hb⟩
      obtain ⟨e1, e2⟩ := hd1_some e
      obtain ⟨e3, e4⟩ := nw_some e2
      exact hd1_of e1 (nw_of e3 (by rw [upd_ne e1]; exact e4))
    · rintro i x Hx Hy xs k hi ⟨g, hr, hs⟩ hxs ⟨rfl, hx⟩ hk
      obtain ⟨lab, hlab, rfl⟩ := List.mem_map.mp (List.mem_of_getElem? hx)
      refine ⟨rfl, _, rfl, _, rfl, _, rfl, _, rfl, p, c, .ref sa, rfl, g.2, .inl ⟨sa, sts, rfl, hs, hs1, by omega, fun r2 x2 H8 hx2 g8 => ?_⟩⟩
      obtain ⟨st, rfl, hok⟩ := hst x2 (List.mem_of_getElem? hx2)
      have := hnr lab hlab
      refine ⟨p, c, lab, st, rfl, g8.2, by omega, hok, fun y d H9 g9 hy hG => ?_⟩
      have gg := g8.trans g9
      have hx8 := g8.1 D _ nD.1 nD.2 hxs
      refine hk y H9 ?_ ⟨d, hy.to fun b u n1 n2 e => ?_, hG⟩ ⟨g.trans gg, gg.1 r _ nr.1 nr.2 hr, hs.gx gg⟩ (g9.1 D _ nD.1 nD.2 hx8)
      · rintro j z ⟨d, hd, hb⟩
        refine ⟨d, hd.to fun b u n1 n2 e => ?_, hb⟩
        obtain ⟨e1, e2⟩ := hd1_some e
        obtain ⟨e3, e4⟩ := nw_some e2
        exact hd1_of e1 (nw_of e3 (gg.1 b u n1 n2 e4))
      · obtain ⟨e1, e2⟩ := nw_some e
        refine hd1_of (fun z => by rw [z, hx8] at e1; cases e1) (nw_of ?_ e2)
        cases h : H b with
        | none => rfl
        | some w => rw [(g.trans g8).1 b w n1 n2 h] at e1; cases e1
    rintro H8 xs hl8 hv8 ⟨g8, _, _⟩ hxs8
    obtain ⟨ds, hA, hd1', hd2⟩ := rows_of hv8
    have hdl : ds.length ≤ 12 := by rw [← hA.len, hl8, List.length_map]; omega
    refine ⟨_, rfl, _, rfl, _, rfl, _, _, rfl, rfl, _, rfl, D, xs, rfl, .inl ⟨SqL.of hxs8, fun t ht => ⟨s5, fun w hw => ?_⟩⟩⟩
    have st := same_new (o := .tup xs) ht
    refine fin true _ t xs ds _ (g8.trans (Gx.same g8.2 st)) (At.newn g8 dk ht) (hA.to fun b u n1 n2 e => ?_) hdl hd1' hd2 w hw
    obtain ⟨e1, e2⟩ := hd1_some e
    obtain ⟨e3, e4⟩ := nw_some e2
    exact nw_of e3 (st b u e4)
end
end Ag

end
/-! ## ZW -/
section
set_option linter.all false
set_option maxRecDepth 100000
set_option maxHeartbeats 4000000
namespace Ag
open PySem PySem.Spec PyProof.Rows L2
open SX (S S_len S_cat S_inj)
theorem Ax.kx {p c D a : Addr} {H H' : Hp} {o : HO} (h : Ax p c D H a o) (k : Kp p c (hd1 D H) (hd1 D H')) : Ax p c D H' a o := h.kp k
theorem zI {p c : Addr} {z : V} {i : Int} {n : Nat} (h : z = .int i) (hi : i.natAbs ≤ 10 ^ 50 + n) : ∃ zd, (∀ H, Dx p c p H z zd) ∧ bB n zd = true := ⟨.int i, fun _ => h ▸ .int i, bB_int hi⟩
theorem zB {p c : Addr} {z : V} {b : Bool} {n : Nat} (h : z = .bl b) : ∃ zd, (∀ H, Dx p c p H z zd) ∧ bB n zd = true := ⟨.bool b, fun _ => h ▸ .bl b, rfl⟩
theorem zS {p c : Addr} {z : V} {b : Str} {n : Nat} (h : z = .str b) (hb : bB n (.str b) = true) : ∃ zd, (∀ H, Dx p c p H z zd) ∧ bB n zd = true := ⟨.str b, fun _ => h ▸ .str b, hb⟩
theorem dgx {p c : Addr} {H : Hp} : Kp p c H (hd1 p H) := fun b o n1 _ e => hd1_of n1 e
theorem shH_E {p c D : Addr} {H : Hp} {v : V} {d : PyData} (h : Dx p c D H v d) (s : shH d = true) : ∃ a x0 x1 x2 x3 b ys e0 e1 e2 e3 rs, v = .ref a ∧ Ax p c D H a (.tup [x0, x1, x2, x3, .ref b]) ∧ Ax p c D H b (.tup ys) ∧ d = .tuple [e0, e1, e2, e3, .tuple rs] ∧
    Dx p c D H x0 e0 ∧ Dx p c D H x1 e1 ∧ Dx p c D H x2 e2 ∧ Dx p c D H x3 e3 ∧ DxA p c D H ys rs ∧ rs.all shR = true := by
  match d, s, h with
  | .tuple [e0, e1, e2, e3, .tuple rs], s, .tup ha (.cons g0 (.cons g1 (.cons g2 (.cons g3 (.cons (.tup hb hB) .nil))))) => exact ⟨_, _, _, _, _, _, _, e0, e1, e2, e3, rs, rfl, ha, hb, rfl, g0, g1, g2, g3, hB, s⟩
theorem shR_E {p c D : Addr} {H : Hp} {v : V} {d : PyData} (h : Dx p c D H v d) (s : shR d = true) : ∃ a, ∃ (i j : Int) (x y : Str) (b f : Addr) (bs fs : List V) (us ws : List PyData), v = .ref a ∧ Ax p c D H a (.tup [.int i, .str x, .ref b, .int j, .ref f, .str y]) ∧ Ax p c D H b (.tup bs) ∧ Ax p c D H f (.tup fs) ∧
    d = .tuple [.int i, .str x, .tuple us, .int j, .tuple ws, .str y] ∧ DxA p c D H bs us ∧ DxA p c D H fs ws := by
  match d, s, h with
  | .tuple [.int i, .str x, .tuple us, .int j, .tuple ws, .str y], s, .tup ha (.cons (.int _) (.cons (.str _) (.cons (.tup hb hB) (.cons (.int _) (.cons (.tup hf hF) (.cons (.str _) .nil)))))) => exact ⟨_, _, _, _, _, _, _, _, _, _, _, rfl, ha, hb, hf, rfl, hB, hF⟩
section
variable {P : Program} {w : World} {K : PySem.W.Frag} {mg : Str → Option Value} {base : Heap} {tm tn tb : Tok}
def spNear : Sp := fun vs H Q _ => ∃ (p c : Addr) (v : V) (d : PyData) (m : Nat), vs = [.ref p, v] ∧ Dk p c H ∧ Dg p c H v d ∧ bB m d = true ∧ m % 13 = 12 ∧ m ≤ 25 ∧ shH d = true ∧ ∀ v' d' H', Gx p c H H' → Dg p c H' v' d' → bB (2 * m + 1) d' = true → Q v' H'
theorem ok_near {f f1 f2 f3 : Addr} {fd fd1 fd2 fd3 : FuncData} (F : Fn K mg "_law_near" s__law_near ["_law_deck_here", "_law_house_here"] f fd) (B : Con mg tm tn tb) (F__law_draw : Fn K mg "_law_draw" s__law_draw ["_law_deck_here", "_law_below"] f1 fd1) (F__law_pick : Fn K mg "_law_pick" s__law_pick ["_law_deck_here", "_law_some"] f2 fd2)
    (F__law_bent : Fn K mg "_law_bent" s__law_bent ["_law_deck_here", "_law_value", "_law_deep"] f3 fd3) (G__law_bent : FnOk P w K mg base CX0 10 f3 fd3 ["_law_deck_here", "_law_value", "_law_deep"] (spBent 5)) : FnOk P w K mg base CX0 11 f fd ["_law_deck_here", "_law_house_here"] spNear := by
  have G__law_draw : FnOk P w K mg base CX0 1 f1 fd1 ["_law_deck_here", "_law_below"] spDraw := ok_draw F__law_draw B.toBlt
  have G__law_pick : FnOk P w K mg base CX0 2 f2 fd2 ["_law_deck_here", "_law_some"] spPick := ok_pick F__law_pick B.toBlt F__law_draw
  refine F.F.ok sc__law_near (fun vs H Q E h => ?_) (fun cdv A outer s H vs Q E hr h => ?_)
  · obtain ⟨p, c, v, d, m, rfl, _⟩ := h
    rfl
  · obtain ⟨p, c, v, d, m, rfl, dk, hd, hb, hm, hm2, hsh, q⟩ := h
    refine ⟨_, (pss_cons (ps_par (i := 2) (j := 3) (by rfl) sc__law_near.nd rfl rfl (by decide) rfl rfl (pa_cons (pe_call G__law_draw (hr.mono (by decide)) (by rfl) F__law_draw.g F__law_draw.F.kp F__law_draw.b .nil pass0 (pa_cons (pv 0) (pa_cons pe_int pa_nil))) (pa_cons (pe_ix ix_tup (pv 1) pe_int (fun _ _ => rfl)) pa_nil)) (by rfl))
      (pss_cons (ps_if (PW.pt (pw_or (pt_cmpR op_gt (pv 2) pe_int (nomark _)) (pw_or1 (pt_cmpR (op_eqTT hr.units) (pv 3) (pe_tup pa_nil) (nomark _)))))
      (pss_one (ps_ret (pe_call G__law_bent (hr.mono (by decide)) (by rfl) F__law_bent.g F__law_bent.F.kp F__law_bent.b .nil pass0 (pa_cons (pv 0) (pa_cons (pv 1) (pa_cons pe_int pa_nil))))))
      pss_nil)
      (pss_cons (ps_set (i := 4) sc__law_near.nd rfl (.inl rfl) (pe_call G__law_draw (hr.mono (by decide)) (by rfl) F__law_draw.g F__law_draw.F.kp F__law_draw.b .nil pass0 (pa_cons (pv 0) (pa_cons (pe_callB call_len_seq (by rfl) B.n_len PySem.boot_len (pa_cons (pv 3) pa_nil)) pa_nil))))
      (pss_cons (ps_par (i := 5) (j := 6) (by rfl) sc__law_near.nd rfl rfl (by decide) rfl rfl (pa_cons (pe_ix ix_tup (pv 3) (pv 4) (fun _ _ => rfl)) (pa_cons (pe_call G__law_pick (hr.mono (by decide)) (by rfl) F__law_pick.g F__law_pick.F.kp F__law_pick.b .nil pass0 (pa_cons (pv 0) (pa_cons (pe_lst (pa_cons pe_str (pa_cons pe_str (pa_cons pe_str pa_nil)))) pa_nil))) pa_nil)) (by rfl))
      (C8.pss_cut (ps_if (pt_cmpR op_lt (pv 2) pe_int (nomark _))
      (pss_one (ps_set (i := 5) sc__law_near.nd rfl (.inl rfl) (pe_op op_catA (pe_slice sl_tupA (pv 5) po_none (po_some pe_int)) (pe_tup (pa_cons (pv 6) pa_nil)))))
      (pss_one (ps_if (pt_cmpR op_eq (pv 2) pe_int (nomark _))
        (pss_one (ps_set (i := 5) sc__law_near.nd rfl (.inl rfl) (pe_op op_catA (pe_op op_catA (pe_slice sl_tupA (pv 5) po_none (po_some pe_int)) (pe_tup (pa_cons (pe_call G__law_pick (hr.mono (by decide)) (by rfl) F__law_pick.g F__law_pick.F.kp F__law_pick.b .nil pass0 (pa_cons (pv 0) (pa_cons (pe_lst (pa_cons (pe_op op_add (pe_ix ix_tup (pv 5) pe_int (fun _ _ => rfl)) pe_int) (pa_cons (pe_op op_sub (pe_ix ix_tup (pv 5) pe_int (fun _ _ => rfl)) pe_int) (pa_cons (pe_callB call_len_seq (by rfl) B.n_len PySem.boot_len (pa_cons (pe_ix ix_tup (pv 5) pe_int (fun _ _ => rfl)) pa_nil)) (pa_cons (pe_cmpR op_eq (pe_ix ix_tup (pv 5) pe_int (fun _ _ => rfl)) pe_int (nomark _)) pa_nil))))) pa_nil))) pa_nil))) (pe_slice sl_tupA (pv 5) (po_some pe_int) po_none))))
        (pss_one (ps_if (pt_cmpR op_eq (pv 2) pe_int (nomark _))
          (pss_cons (ps_set (i := 7) sc__law_near.nd rfl (.inl rfl) (pe_ix ix_tup (pv 5) pe_int (fun _ _ => rfl)))
            (pss_cons (ps_set (i := 7) sc__law_near.nd rfl (.inl rfl) (pe_call G__law_pick (hr.mono (by decide)) (by rfl) F__law_pick.g F__law_pick.F.kp F__law_pick.b .nil pass0 (pa_cons (pv 0) (pa_cons (pe_lst (pa_cons (pe_revT (pv 7)) (pa_cons (pe_op op_catA (pv 7) (pe_tup (pa_cons (pe_op op_add (pe_ix ix_tup (pv 5) pe_int (fun _ _ => rfl)) pe_int) pa_nil))) (pa_cons (pe_op op_catA (pv 7) (pv 7)) (pa_cons (pe_op op_catA (pe_tup (pa_cons pe_int pa_nil)) (pv 7)) (pa_cons (pe_tup (pa_cons pe_bl pa_nil)) pa_nil)))))) pa_nil))))
            (pss_one (ps_set (i := 5) sc__law_near.nd rfl (.inl rfl) (pe_op op_catA (pe_op op_catA (pe_slice sl_tupA (pv 5) po_none (po_some pe_int)) (pe_tup (pa_cons (pv 7) pa_nil))) (pe_slice sl_tupA (pv 5) (po_some pe_int) po_none))))))
          (pss_one (ps_if (pt_cmpR op_eq (pv 2) pe_int (nomark _))
            (pss_one (ps_set (i := 5) sc__law_near.nd rfl (.inl rfl) (pe_op op_catA (pe_op op_catA (pe_slice sl_tupA (pv 5) po_none (po_some pe_int)) (pe_tup (pa_cons (pe_op op_catA (pe_ix ix_tup (pv 5) pe_int (fun _ _ => rfl)) (pe_tup (pa_cons (pe_call G__law_pick (hr.mono (by decide)) (by rfl) F__law_pick.g F__law_pick.F.kp F__law_pick.b .nil pass0 (pa_cons (pv 0) (pa_cons (pe_lst (pa_cons pe_str (pa_cons (pe_op op_rep_str pe_str pe_int) (pa_cons pe_str (pa_cons pe_int (pa_cons pe_str pa_nil)))))) pa_nil))) pa_nil))) pa_nil))) (pe_slice sl_tupA (pv 5) (po_some pe_int) po_none))))
            (pss_one (ps_if (pt_cmpR op_eq (pv 2) pe_int (nomark _))
              (pss_one (ps_set (i := 5) sc__law_near.nd rfl (.inl rfl) (pe_op op_catA (pe_op op_catA (pe_slice sl_tupA (pv 5) po_none (po_some pe_int)) (pe_tup (pa_cons (pe_call G__law_pick (hr.mono (by decide)) (by rfl) F__law_pick.g F__law_pick.F.kp F__law_pick.b .nil pass0 (pa_cons (pv 0) (pa_cons (pe_lst (pa_cons pe_str (pa_cons pe_str (pa_cons pe_str (pa_cons pe_str (pa_cons pe_str (pa_cons pe_str (pa_cons pe_str (pa_cons pe_str (pa_cons pe_str (pa_cons pe_str (pa_cons pe_int pa_nil)))))))))))) pa_nil))) pa_nil))) (pe_slice sl_tupA (pv 5) (po_some pe_int) po_none))))
              (pss_one (ps_if (pt_cmpR op_eq (pv 2) pe_int (nomark _))
                (pss_one (ps_ret (pe_op op_catA (pe_slice sl_tupA (pv 1) po_none (po_some pe_int)) (pe_tup (pa_cons (pe_op op_catA (pe_slice sl_tupA (pv 3) (po_some (pv 4)) po_none) (pe_slice sl_tupA (pv 3) po_none (po_some (pv 4)))) pa_nil)))))
                (pss_one (ps_if (pt_cmpR op_eq (pv 2) pe_int (nomark _))
                  (pss_one (ps_ret (pe_op op_catA (pe_slice sl_tupA (pv 1) po_none (po_some pe_int)) (pe_tup (pa_cons (pe_op op_catA (pe_op op_catA (pe_slice sl_tupA (pv 3) po_none (po_some (pv 4))) (pe_slice sl_tupA (pv 3) (po_some (pv 4)) (po_some (pe_op op_add (pv 4) pe_int)))) (pe_slice sl_tupA (pv 3) (po_some (pv 4)) po_none)) pa_nil)))))
                  (pss_one (ps_ret (pe_op op_catA (pe_op op_catA (pe_slice sl_tupA (pv 1) po_none (po_some pe_int)) (pe_call G__law_pick (hr.mono (by decide)) (by rfl) F__law_pick.g F__law_pick.F.kp F__law_pick.b .nil pass0 (pa_cons (pv 0) (pa_cons (pe_lst (pa_cons (pe_tup (pa_cons pe_bl (pa_cons pe_bl pa_nil))) (pa_cons (pe_tup (pa_cons pe_bl (pa_cons pe_bl pa_nil))) (pa_cons (pe_tup (pa_cons pe_bl (pa_cons pe_bl pa_nil))) (pa_cons (pe_tup (pa_cons pe_bl (pa_cons pe_bl pa_nil))) pa_nil))))) pa_nil)))) (pe_slice sl_tupA (pv 1) (po_some pe_int) po_none)))))))))))))))))
      (pss_one (ps_ret (pe_op op_catA (pe_slice sl_tupA (pv 1) po_none (po_some pe_int)) (pe_tup (pa_cons (pe_op op_catA (pe_op op_catA (pe_slice sl_tupA (pv 3) po_none (po_some (pv 4))) (pe_tup (pa_cons (pv 5) pa_nil))) (pe_slice sl_tupA (pv 3) (po_some (pe_op op_add (pv 4) pe_int)) po_none)) pa_nil)))))))))), ?_⟩
    have hD : H p ≠ none := by
      obtain ⟨_, _, _, e, _⟩ := id dk
      rw [e]
      simp
    have hx : Dx p c p H v d := hd.to dgx
    have q : ∀ v' d' H', Gx p c H H' → Dx p c p H' v' d' → bB (2 * m + 1) d' = true → Q v' H' := fun v' d' H' g h b => q v' d' H' g (h.to hd_up) b
    refine ⟨_, rfl, p, c, 12, rfl, dk, by decide, by decide, fun way H1 hway g1 => ?_⟩
    have hD1 := Has.gx dk g1 hD
    have hx1 : Dx p c p H1 v d := hx.to (hd_kp g1.kp)
    obtain ⟨a, x0, x1, x2, x3, b, ys, e0, e1, e2, e3, rs, rfl, ha, hbt, rfl, k0, k1, k2, k3, hR, hrs⟩ := shH_E hx1 hsh
    have hbb := hb
    rw [bB_tup, Bool.and_eq_true] at hbb
    simp only [List.all_cons, List.all_nil, Bool.and_true, Bool.and_eq_true] at hbb
    obtain ⟨_, b0, b1, b2, b3, b4⟩ := hbb
    rw [bB_tup, Bool.and_eq_true, decide_eq_true_eq] at b4
    obtain ⟨hrl, hrb⟩ := b4
    refine ⟨_, rfl, a, _, _, _, rfl, rfl, SqT.of ha.at_.2.2, atI_nat (j := 4) rfl, _, _, rfl, ?_⟩
    have hlen := hR.len
    try unfold tNext
    try dsimp only [gName]
    try unfold tSeq
    try dsimp only
    try unfold tIfS
    refine testIf (fun t H' => Same H1 H' ∧ (t = false → rs ≠ [])) (fun Q' hQ' => ?_) ?_
    · refine ⟨_, rfl, _, _, rfl, rfl, _, rfl, ite2 (fun _ => ?_) (fun _ => ?_)⟩
      · exact hQ' _ _ ⟨Same.refl _, fun z => by cases z⟩
      · refine ⟨_, rfl, Nat.zero_le _, fun t ht => ?_⟩
        refine ⟨b, ys, t, rfl, (same_new ht) _ _ hbt.at_.2.2, rfl, upd_same, _, rfl, hQ' _ _ ⟨same_new ht, fun z => ?_⟩⟩
        have z := of_decide_eq_false z
        rintro rfl
        exact z (List.eq_nil_of_length_eq_zero hlen)
    rintro t1 H2 ⟨s2, hne⟩
    have g2 := g1.trans (Gx.same g1.2 s2)
    have hD2 := Has.gx dk g2 hD
    have kk := hd_kp (D := p) (Kp.same (p := p) (c := c) s2)
    have ha := ha.kx kk
    have hbt := hbt.kx kk
    have k0 := k0.to kk
    have k1 := k1.to kk
    have k2 := k2.to kk
    have k3 := k3.to kk
    have hR := hR.to kk
    have hx2 := hx1.to kk
    clear kk hx1 hD1
    refine ite2 (fun h => ?_) (fun h => ?_)
    · refine ⟨_, rfl, _, rfl, p, c, p, .ref a, _, 3, m, rfl, g2.2, hD2, hx2, hb, hm, by omega, by decide, fun v' d' H' g' h' b' => q v' d' H' (g2.trans g') h' (bB_mono (by omega) _ b')⟩
    have hne1 : 1 ≤ rs.length := by
      have := hne (Bool.eq_false_iff.mpr h)
      cases rs with
      | nil => exact absurd rfl this
      | cons _ _ => simp
    try unfold tNext
    try dsimp only
    refine ⟨_, rfl, _, rfl, b, ys, rfl, .inr (SqT.of hbt.at_.2.2), p, c, _, rfl, g2.2, by omega, by omega, fun i H3 hi g3 => ?_⟩
    have hi : i < ys.length := by omega
    have hD3 := Has.gx g2.2 g3 hD2
    have kk := hd_kp (D := p) g3.kp
    have hbt3 := hbt.kx kk
    have g3' := g3
    have g3 := g2.trans g3
    obtain ⟨y, hy⟩ : ∃ y, ys[i]? = some y := ⟨ys[i], List.getElem?_eq_getElem hi⟩
    refine ⟨_, rfl, _, rfl, b, ys, _, y, rfl, rfl, SqT.of hbt3.at_.2.2, atI_nat hy, _, rfl, sz (by show 3 ≤ 16000000; decide), fun l hl => ?_⟩
    have gl := Gx.new (o := .lst [.str (Str.ofString "open"), .str (Str.ofString "away"), .str (Str.ofString "closed")]) g3.2 hl
    refine ⟨p, c, .ref l, rfl, gl.2, .inl ⟨l, _, rfl, At.new g3.2 hl, (by show 1 ≤ 3; decide), (by show 3 ≤ 100000; decide), fun r x H4 hx g4 => ⟨_, _, rfl, ?_⟩⟩⟩
    obtain ⟨st, rfl, hst⟩ : ∃ st, x = .str st ∧ bB 12 (.str st) = true := by
      have mem := List.mem_of_getElem? hx
      simp only [List.mem_cons, List.not_mem_nil, or_false] at mem
      rcases mem with h | h | h
      · exact ⟨_, h, by decide +kernel⟩
      · exact ⟨_, h, by decide +kernel⟩
      · exact ⟨_, h, by decide +kernel⟩
    have g34 := gl.trans g4
    have hD4 := Has.gx g3.2 g34 hD3
    have kk := hd_kp (D := p) (g3'.trans g34).kp
    have g4 := g3.trans g34
    have ha := ha.kx kk
    have hbt := hbt.kx kk
    have k0 := k0.to kk
    have k1 := k1.to kk
    have k2 := k2.to kk
    have k3 := k3.to kk
    have hR := hR.to kk
    clear kk hbt3 g3' gl g34 hD3 g3 hD2 hx2 hx hl g2
    obtain ⟨dy, hdy, hgy⟩ := hR.at_ hy
    have hsy := List.all_eq_true.mp hrs dy (List.mem_of_getElem? hdy)
    have hby := List.all_eq_true.mp hrb dy (List.mem_of_getElem? hdy)
    have hil : i < rs.length := by omega
    refine ⟨fun σ H' => ∃ (rv : V) (rd : PyData) (z : Option V), σ = [some (.ref p), some (.ref a), some (.int (way : Int)), some (.ref b), some (.int (i : Int)), some rv, some (.str st), z] ∧ Gx p c H4 H' ∧ Dx p c p H' rv rd ∧ bB (2 * m + 1) rd = true, ?_, ?_⟩
    · obtain ⟨a6, i6, j6, x6, y6, b6, f6, bs, fs, us, ws, rfl, h6, hb6, hf6, rfl, hB6, hF6⟩ := shR_E hgy hsy
      have hby' := hby
      rw [bB_tup, Bool.and_eq_true] at hby'
      simp only [List.all_cons, List.all_nil, Bool.and_true, Bool.and_eq_true] at hby'
      obtain ⟨_, c0, c1, c2, c3, c4, c5⟩ := hby'
      have hust := c2
      have hwst := c4
      rw [bB_tup, Bool.and_eq_true, decide_eq_true_eq] at hust hwst
      have up : ∀ {d : PyData}, bB m d = true → bB (2 * m + 1) d = true := fun h => bB_mono (by omega) _ h
      have s12 : bB 12 = bB 12 := rfl
      have hst' : bB (2 * m + 1) (.str st) = true := bB_mono (by omega) _ hst
      have hbl := hB6.len
      have hfl := hF6.len
      -- the row's last
      refine ⟨_, rfl, _, _, rfl, rfl, _, rfl, ite2 (fun _ => ?_) (fun _ => ?_)⟩
      · refine ⟨_, rfl, _, rfl, sl_x g4.2 hD4 h6 fun a1 H5 s5 h1 => ⟨_, rfl, sz (by show 1 ≤ 16000000; decide), fun t ht => ?_⟩⟩
        have h1 : Ax p c p H5 a1 (.tup (List.take 5 [.int i6, .str x6, .ref b6, .int j6, .ref f6, .str y6])) := by rw [← cutV_to _ 5]; exact h1
        have g5 := Gx.same g4.2 s5
        have hD5 := Has.gx g4.2 g5 hD4
        have st6 := same_new (o := .tup [.str st]) ht
        have g6 := g5.trans (Gx.same g5.2 st6)
        have hD6 := Has.gx g5.2 (Gx.same g5.2 st6) hD5
        have h7 : Ax p c p _ t (.tup [.str st]) := Ax.new g5.2 hD5 ht
        have h1 := h1.kx (hd_kp (.same st6))
        generalize upd H5 t (.tup [.str st]) = H6 at st6 g6 hD6 h7 h1 ⊢
        refine cat_x g6.2 hD6 h1 h7 (by show 5 + 1 ≤ 1000000; decide) fun a8 H8 s8 h8 => ?_
        have g8 := g6.trans (Gx.same g6.2 s8)
        have KK := hd_kp (D := p) g8.kp
        refine ⟨.ref a8, .tuple [.int i6, .str x6, .tuple us, .int j6, .tuple ws, .str st], _, rfl, g8, .tup h8 (.cons (.int _) (.cons (.str _) (.cons (.tup (hb6.kx KK) (hB6.to KK)) (.cons (.int _) (.cons (.tup (hf6.kx KK) (hF6.to KK)) (.cons (.str _) .nil)))))), ?_⟩
        refine bB_row (m := 2 * m + 1) ?_ (Nat.le_refl _) (by show 6 ≤ _; omega)
        simp only [List.all_cons, List.all_nil, Bool.and_true, up c0, up c1, up c2, up c3, up c4, hst']
      have s46 : ∀ {H5}, Same H4 H5 → H5 a6 = some (.tup [.int i6, .str x6, .ref b6, .int j6, .ref f6, .str y6]) := fun s => s _ _ h6.at_.2.2
      have b46 : ∀ {H5}, Same H4 H5 → H5 b6 = some (.tup bs) := fun s => s _ _ hb6.at_.2.2
      have f46 : ∀ {H5}, Same H4 H5 → H5 f6 = some (.tup fs) := fun s => s _ _ hf6.at_.2.2
      have si6 : i6.natAbs ≤ 10 ^ 50 + m := of_decide_eq_true c0
      have sj6 : j6.natAbs ≤ 10 ^ 50 + m := of_decide_eq_true c3
      have hten : (10 : Nat) ^ 50 ≥ 1000000 := by decide
      -- what was begun
      refine ⟨_, rfl, rfl, _, rfl, ite2 (fun _ => ?_) (fun _ => ?_)⟩
      · refine ⟨_, rfl, _, rfl, sl_x g4.2 hD4 h6 fun a1 H5 s5 h1 => ?_⟩
        have h1 : Ax p c p H5 a1 (.tup (List.take 3 [.int i6, .str x6, .ref b6, .int j6, .ref f6, .str y6])) := by rw [← cutV_to _ 3]; exact h1
        have g5 := Gx.same g4.2 s5
        have hD5 := Has.gx g4.2 g5 hD4
        refine ⟨_, rfl, _, rfl, a6, _, _, _, rfl, rfl, SqT.of (s46 s5), atI_nat (j := 3) rfl, _, _, rfl, rfl, _, rfl, a6, _, _, _, rfl, rfl, SqT.of (s46 s5), atI_nat (j := 3) rfl, _, _, rfl, rfl, _, rfl, a6, _, _, _, rfl, rfl, SqT.of (s46 s5), atI_nat (j := 2) rfl, b6, bs, rfl, .inr (SqT.of (b46 s5)), _, rfl, a6, _, _, _, rfl, rfl, SqT.of (s46 s5), atI_nat (j := 3) rfl, rfl, ?_⟩
        refine ⟨sz (by show 4 ≤ 16000000; decide), fun l hl => ?_⟩
        have gl := Gx.new (o := .lst [.int (j6 + 1), .int (j6 - 1), .int (bs.length : Nat), .bl (decide (V.int j6 = V.int 1))]) g5.2 hl
        refine ⟨p, c, .ref l, rfl, gl.2, .inl ⟨l, _, rfl, At.new g5.2 hl, (by show 1 ≤ 4; decide), (by show 4 ≤ 100000; decide), fun r2 z H6 hz g6 => ?_⟩⟩
        obtain ⟨zd, hzz, hzb⟩ : ∃ zd, (∀ H, Dx p c p H z zd) ∧ bB (2 * m + 1) zd = true := by
          have mem := List.mem_of_getElem? hz
          simp only [List.mem_cons, List.not_mem_nil, or_false] at mem
          rcases mem with h | h | h | h
          · exact zI h (by omega)
          · exact zI h (by omega)
          · exact zI h (by omega)
          · exact zB h
        have h1 := h1.kx (hd_kp (gl.trans g6).kp)
        have hD6 := Has.gx g5.2 (gl.trans g6) hD5
        have g56 := gl.trans g6
        have g6 := g5.trans g56

        refine ⟨sz (by show 1 ≤ 16000000; decide), fun t ht => ?_⟩
        have st7 := same_new (o := .tup [z]) ht
        have g7 := g6.trans (Gx.same g6.2 st7)
        have hD7 := Has.gx g6.2 (Gx.same g6.2 st7) hD6
        have h7 : Ax p c p _ t (.tup [z]) := Ax.new g6.2 hD6 ht
        have hz7 := (hzz H6).to (hd_kp (D := p) (.same st7))
        have h1 := h1.kx (hd_kp (.same st7))
        generalize upd _ t (.tup [z]) = H7 at st7 g7 hD7 h7 hz7 h1 ⊢
        refine cat_x g7.2 hD7 h1 h7 (by show 3 + 1 ≤ 1000000; decide) fun a8 H8 s8 h8 => ?_
        have g8 := g7.trans (Gx.same g7.2 s8)
        have hD8 := Has.gx g7.2 (Gx.same g7.2 s8) hD7
        refine ⟨_, rfl, _, rfl, ?_⟩
        dsimp only [tNoPart]
        refine sl_x g8.2 hD8 (h6.kx (hd_kp g8.kp)) fun a9 H9 s9 h9 => ?_
        have h9 : Ax p c p H9 a9 (.tup (List.drop 4 [.int i6, .str x6, .ref b6, .int j6, .ref f6, .str y6])) := by rw [← cutV_from _ (by show 4 ≤ 6; decide)]; exact h9
        have g9 := g8.trans (Gx.same g8.2 s9)
        have hD9 := Has.gx g8.2 (Gx.same g8.2 s9) hD8
        refine cat_x g9.2 hD9 (h8.kx (hd_kp (.same s9))) h9 (by show 3 + 1 + 2 ≤ 1000000; decide) fun aA HA sA hA => ?_
        have gA := g9.trans (Gx.same g9.2 sA)
        have KK := hd_kp (D := p) gA.kp
        have hzA := hz7.to (hd_kp (D := p) (.same ((s8.trans s9).trans sA)))
        refine ⟨.ref aA, .tuple [.int i6, .str x6, .tuple us, zd, .tuple ws, .str y6], _, rfl, gA, .tup hA (.cons (.int _) (.cons (.str _) (.cons (.tup (hb6.kx KK) (hB6.to KK)) (.cons hzA (.cons (.tup (hf6.kx KK) (hF6.to KK)) (.cons (.str _) .nil)))))), ?_⟩
        refine bB_row (m := 2 * m + 1) ?_ (Nat.le_refl _) (by show 6 ≤ _; omega)
        simp only [List.all_cons, List.all_nil, Bool.and_true, up c0, up c1, up c2, (hzb), up c4, up c5]

      -- what was done
      refine ⟨_, rfl, rfl, _, rfl, ite2 (fun _ => ?_) (fun _ => ?_)⟩
      · refine ⟨_, rfl, a6, _, _, _, rfl, rfl, SqT.of (s46 (Same.refl _)), atI_nat (j := 4) rfl, ?_⟩
        refine ⟨_, rfl, _, rfl, f6, fs, rfl, SqT.of (f46 (Same.refl _)), fun r1 hr1 => ?_⟩
        have s5 := same_new (o := .tup fs.reverse) hr1
        have o1 : Ax p c p _ r1 (.tup fs.reverse) := Ax.new g4.2 hD4 hr1
        have g5 := Gx.same g4.2 s5
        have hD5 := Has.gx g4.2 g5 hD4
        generalize upd H4 r1 (.tup fs.reverse) = H5 at s5 o1 g5 hD5 ⊢
        refine ⟨_, rfl, _, rfl, a6, _, _, _, rfl, rfl, SqT.of (s46 s5), atI_nat (j := 3) rfl, _, _, rfl, rfl, sz (by show 1 ≤ 16000000; decide), fun t2 ht2 => ?_⟩
        have s6' := same_new (o := .tup [.int (j6 + 1)]) ht2
        have o2 : Ax p c p _ t2 (.tup [.int (j6 + 1)]) := Ax.new g5.2 hD5 ht2
        have g6 := g5.trans (Gx.same g5.2 s6')
        have hD6 := Has.gx g5.2 (Gx.same g5.2 s6') hD5
        generalize upd H5 t2 (.tup [.int (j6 + 1)]) = H6 at s6' o2 g6 hD6 ⊢
        refine cat_x g6.2 hD6 (hf6.kx (hd_kp g6.kp)) o2 (by simp only [List.length_cons, List.length_nil]; omega) fun a3 H7 s7 o3 => ?_
        have g7 := g6.trans (Gx.same g6.2 s7)
        have hD7 := Has.gx g6.2 (Gx.same g6.2 s7) hD6
        refine ⟨_, rfl, _, rfl, cat_x g7.2 hD7 (hf6.kx (hd_kp g7.kp)) (hf6.kx (hd_kp g7.kp)) (by omega) fun a4 H8 s8 o4 => ?_⟩
        have g8 := g7.trans (Gx.same g7.2 s8)
        have hD8 := Has.gx g7.2 (Gx.same g7.2 s8) hD7
        refine ⟨sz (by show 1 ≤ 16000000; decide), fun t5 ht5 => ?_⟩
        have s9 := same_new (o := .tup [.int 0]) ht5
        have o5 : Ax p c p _ t5 (.tup [.int 0]) := Ax.new g8.2 hD8 ht5
        have g9 := g8.trans (Gx.same g8.2 s9)
        have hD9 := Has.gx g8.2 (Gx.same g8.2 s9) hD8
        generalize upd H8 t5 (.tup [.int 0]) = H9 at s9 o5 g9 hD9 ⊢
        refine ⟨_, rfl, cat_x g9.2 hD9 o5 (hf6.kx (hd_kp g9.kp)) (by simp only [List.length_cons, List.length_nil]; omega) fun a6' HA sA o6 => ?_⟩
        have gA := g9.trans (Gx.same g9.2 sA)
        have hDA := Has.gx g9.2 (Gx.same g9.2 sA) hD9
        refine ⟨sz (by show 1 ≤ 16000000; decide), fun t7 ht7 => ?_⟩
        have sB := same_new (o := .tup [.bl true]) ht7
        have o7 : Ax p c p _ t7 (.tup [.bl true]) := Ax.new gA.2 hDA ht7
        have gB := gA.trans (Gx.same gA.2 sB)
        have hDB := Has.gx gA.2 (Gx.same gA.2 sB) hDA
        generalize upd HA t7 (.tup [.bl true]) = HB at sB o7 gB hDB ⊢
        refine ⟨sz (by show 5 ≤ 16000000; decide), fun l hl => ?_⟩
        have gl := Gx.new (o := .lst [.ref r1, .ref a3, .ref a4, .ref a6', .ref t7]) gB.2 hl
        refine ⟨p, c, .ref l, rfl, gl.2, .inl ⟨l, _, rfl, At.new gB.2 hl, (by show 1 ≤ 5; decide), (by show 5 ≤ 100000; decide), fun r2 z HC hz gC => ?_⟩⟩
        have gC0 := gl.trans gC
        have gC := gB.trans gC0
        have hDC := Has.gx gB.2 gC0 hDB
        obtain ⟨zd, hzz, hzb⟩ : ∃ zd, Dx p c p HC z zd ∧ bB (2 * m + 1) zd = true := by
          have kC := hd_kp (D := p) gC.kp
          have kB := hd_kp (D := p) gC0.kp
          have kA := (hd_kp (D := p) (Kp.same (p := p) (c := c) sB)).trans kB
          have k9 := (hd_kp (D := p) (Kp.same (p := p) (c := c) sA)).trans kA
          have k8 := (hd_kp (D := p) (Kp.same (p := p) (c := c) s9)).trans k9
          have k7 := (hd_kp (D := p) (Kp.same (p := p) (c := c) s8)).trans k8
          have k6 := (hd_kp (D := p) (Kp.same (p := p) (c := c) s7)).trans k7
          have k5 := (hd_kp (D := p) (Kp.same (p := p) (c := c) s6')).trans k6
          have hFC := hF6.to kC
          have hw : ws.all (bB (2 * m + 1)) = true := bBA_mono (by omega) _ hwst.2
          have mem := List.mem_of_getElem? hz
          simp only [List.mem_cons, List.not_mem_nil, or_false] at mem
          rcases mem with rfl | rfl | rfl | rfl | rfl
          · exact ⟨_, .tup (o1.kx k5) hFC.rev, bB_row (m := 2 * m + 1) (by rw [List.all_reverse]; exact hw) (Nat.le_refl _) (by rw [List.length_reverse]; omega)⟩
          · exact ⟨_, .tup (o3.kx k7) (hFC.app (.cons (.int _) .nil)), bB_row (m := 2 * m + 1) (by rw [List.all_append, hw, List.all_cons, bB_int (by omega)]; rfl) (Nat.le_refl _) (by simp only [List.length_append, List.length_cons, List.length_nil]; omega)⟩
          · exact ⟨_, .tup (o4.kx k8) (hFC.app hFC), bB_row (m := 2 * m + 1) (by rw [List.all_append, hw]; rfl) (Nat.le_refl _) (by rw [List.length_append]; omega)⟩
          · exact ⟨_, .tup (o6.kx kA) (DgA.app (.cons (.int _) .nil) hFC), bB_row (m := 2 * m + 1) (by rw [List.all_append, hw, List.all_cons, bB_int (by simp)]; rfl) (Nat.le_refl _) (by simp only [List.length_append, List.length_cons, List.length_nil]; omega)⟩
          · exact ⟨_, .tup (o7.kx kB) (.cons (.bl _) .nil), bB_row (m := 2 * m + 1) (by rfl) (Nat.le_refl _) (by simp only [List.length_cons, List.length_nil]; omega)⟩
        clear gC0 gl o1 o2 o3 o4 o5 o6 o7 g5 g6 g7 g8 g9 gA gB hD5 hD6 hD7 hD8 hD9 hDA hDB
        refine ⟨_, rfl, _, rfl, sl_x gC.2 hDC (h6.kx (hd_kp gC.kp)) fun a1 H6 s6 h1 => ⟨_, rfl, ?_⟩⟩
        have h1 : Ax p c p H6 a1 (.tup (List.take 4 [.int i6, .str x6, .ref b6, .int j6, .ref f6, .str y6])) := by rw [← cutV_to _ 4]; exact h1
        have g6 := gC.trans (Gx.same gC.2 s6)
        have hD6 := Has.gx gC.2 (Gx.same gC.2 s6) hDC
        have hzz := hzz.to (hd_kp (.same s6))
        refine ⟨sz (by show 1 ≤ 16000000; decide), fun t ht => ?_⟩
        have st7 := same_new (o := .tup [z]) ht
        have g7 := g6.trans (Gx.same g6.2 st7)
        have hD7 := Has.gx g6.2 (Gx.same g6.2 st7) hD6
        have h7 : Ax p c p _ t (.tup [z]) := Ax.new g6.2 hD6 ht
        have hz7 := (hzz).to (hd_kp (D := p) (.same st7))
        have h1 := h1.kx (hd_kp (.same st7))
        generalize upd _ t (.tup [z]) = H7 at st7 g7 hD7 h7 hz7 h1 ⊢
        refine cat_x g7.2 hD7 h1 h7 (by show 4 + 1 ≤ 1000000; decide) fun a8 H8 s8 h8 => ?_
        have g8 := g7.trans (Gx.same g7.2 s8)
        have hD8 := Has.gx g7.2 (Gx.same g7.2 s8) hD7
        refine ⟨_, rfl, _, rfl, ?_⟩
        dsimp only [tNoPart]
        refine sl_x g8.2 hD8 (h6.kx (hd_kp g8.kp)) fun a9 H9 s9 h9 => ?_
        have h9 : Ax p c p H9 a9 (.tup (List.drop 5 [.int i6, .str x6, .ref b6, .int j6, .ref f6, .str y6])) := by rw [← cutV_from _ (by show 5 ≤ 6; decide)]; exact h9
        have g9 := g8.trans (Gx.same g8.2 s9)
        have hD9 := Has.gx g8.2 (Gx.same g8.2 s9) hD8
        refine cat_x g9.2 hD9 (h8.kx (hd_kp (.same s9))) h9 (by show 4 + 1 + 1 ≤ 1000000; decide) fun aA HA sA hA => ?_
        have gA := g9.trans (Gx.same g9.2 sA)
        have KK := hd_kp (D := p) gA.kp
        have hzA := hz7.to (hd_kp (D := p) (.same ((s8.trans s9).trans sA)))
        refine ⟨.ref aA, .tuple [.int i6, .str x6, .tuple us, .int j6, zd, .str y6], _, rfl, gA, .tup hA (.cons (.int _) (.cons (.str _) (.cons (.tup (hb6.kx KK) (hB6.to KK)) (.cons (.int _) (.cons hzA (.cons (.str _) .nil)))))), ?_⟩
        refine bB_row (m := 2 * m + 1) ?_ (Nat.le_refl _) (by show 6 ≤ _; omega)
        simp only [List.all_cons, List.all_nil, Bool.and_true, up c0, up c1, up c2, up c3, (hzb), up c5]

      -- what came
      refine ⟨_, rfl, rfl, _, rfl, ite2 (fun _ => ?_) (fun _ => ?_)⟩
      · refine ⟨_, rfl, _, rfl, sl_x g4.2 hD4 h6 fun a1 H5 s5 h1 => ?_⟩
        have h1 : Ax p c p H5 a1 (.tup (List.take 2 [.int i6, .str x6, .ref b6, .int j6, .ref f6, .str y6])) := by rw [← cutV_to _ 2]; exact h1
        have g5 := Gx.same g4.2 s5
        have hD5 := Has.gx g4.2 g5 hD4
        refine ⟨_, rfl, a6, _, _, _, rfl, rfl, SqT.of (s46 s5), atI_nat (j := 2) rfl, _, rfl, [126], 151, congrArg V.str (by decide +kernel), rfl, by decide, by decide, by decide, ?_⟩
        refine ⟨sz (by show 5 ≤ 16000000; decide), fun l hl => ?_⟩
        have gl := Gx.new (o := .lst [.str (Str.ofString "x"), .str (S (List.replicate 151 [126]).flatten), .str (Str.ofString "\n"), .int 1, .str (Str.ofString "")]) g5.2 hl
        refine ⟨p, c, .ref l, rfl, gl.2, .inl ⟨l, _, rfl, At.new g5.2 hl, (by show 1 ≤ 5; decide), (by show 5 ≤ 100000; decide), fun r2 z H6 hz g6 => ?_⟩⟩
        obtain ⟨zd, hzz, hzb⟩ : ∃ zd, (∀ H, Dx p c p H z zd) ∧ bB (2 * m + 1) zd = true := by
          have mem := List.mem_of_getElem? hz
          simp only [List.mem_cons, List.not_mem_nil, or_false] at mem
          rcases mem with h | h | h | h | h
          · exact zS h (bB_mono (m := 12) (by omega) _ (by decide +kernel))
          · exact zS h (bB_mono (m := 12) (by omega) _ (by decide +kernel))
          · exact zS h (bB_mono (m := 12) (by omega) _ (by decide +kernel))
          · exact zI h (by simp; omega)
          · exact zS h (bB_mono (m := 12) (by omega) _ (by decide +kernel))
        have h1 := h1.kx (hd_kp (gl.trans g6).kp)
        have hD6 := Has.gx g5.2 (gl.trans g6) hD5
        have g56 := gl.trans g6
        have g6 := g5.trans g56

        refine ⟨sz (by show 1 ≤ 16000000; decide), fun t2 ht2 => ?_⟩
        have st6 := same_new (o := .tup [z]) ht2
        have h2 : Ax p c p _ t2 (.tup [z]) := Ax.new g6.2 hD6 ht2
        have hD6' := Has.gx g6.2 (Gx.same g6.2 st6) hD6
        have g6' := g6.trans (Gx.same g6.2 st6)
        have h1 := h1.kx (hd_kp (.same st6))
        generalize upd H6 t2 (.tup [z]) = H6' at st6 h2 hD6' g6' h1 ⊢
        clear g6 hD6
        refine cat_x g6'.2 hD6' (hb6.kx (hd_kp g6'.kp)) h2 (by simp only [List.length_cons, List.length_nil]; omega) fun a3 H7 s7 o3 => ?_
        have g6 := g6'.trans (Gx.same g6'.2 s7)
        have hD6 := Has.gx g6'.2 (Gx.same g6'.2 s7) hD6'
        have h1 := h1.kx (hd_kp (.same s7))
        have hzz : Dx p c p H7 (.ref a3) (.tuple (us ++ [zd])) := .tup o3 ((hB6.to (hd_kp g6.kp)).app (.cons (hzz _) .nil))
        have hzb : bB (2 * m + 1) (.tuple (us ++ [zd])) = true := bB_row (m := 2 * m + 1) (by rw [List.all_append, bBA_mono (by omega) _ hust.2, List.all_cons, hzb]; rfl) (Nat.le_refl _) (by simp only [List.length_append, List.length_cons, List.length_nil]; omega)
        refine ⟨sz (by show 1 ≤ 16000000; decide), fun t ht => ?_⟩
        have st7 := same_new (o := .tup [.ref a3]) ht
        have g7 := g6.trans (Gx.same g6.2 st7)
        have hD7 := Has.gx g6.2 (Gx.same g6.2 st7) hD6
        have h7 : Ax p c p _ t (.tup [.ref a3]) := Ax.new g6.2 hD6 ht
        have hz7 := (hzz).to (hd_kp (D := p) (.same st7))
        have h1 := h1.kx (hd_kp (.same st7))
        generalize upd _ t (.tup [.ref a3]) = H7 at st7 g7 hD7 h7 hz7 h1 ⊢
        refine cat_x g7.2 hD7 h1 h7 (by show 2 + 1 ≤ 1000000; decide) fun a8 H8 s8 h8 => ?_
        have g8 := g7.trans (Gx.same g7.2 s8)
        have hD8 := Has.gx g7.2 (Gx.same g7.2 s8) hD7
        refine ⟨_, rfl, _, rfl, ?_⟩
        dsimp only [tNoPart]
        refine sl_x g8.2 hD8 (h6.kx (hd_kp g8.kp)) fun a9 H9 s9 h9 => ?_
        have h9 : Ax p c p H9 a9 (.tup (List.drop 3 [.int i6, .str x6, .ref b6, .int j6, .ref f6, .str y6])) := by rw [← cutV_from _ (by show 3 ≤ 6; decide)]; exact h9
        have g9 := g8.trans (Gx.same g8.2 s9)
        have hD9 := Has.gx g8.2 (Gx.same g8.2 s9) hD8
        refine cat_x g9.2 hD9 (h8.kx (hd_kp (.same s9))) h9 (by show 2 + 1 + 3 ≤ 1000000; decide) fun aA HA sA hA => ?_
        have gA := g9.trans (Gx.same g9.2 sA)
        have KK := hd_kp (D := p) gA.kp
        have hzA := hz7.to (hd_kp (D := p) (.same ((s8.trans s9).trans sA)))
        refine ⟨.ref aA, .tuple [.int i6, .str x6, .tuple (us ++ [zd]), .int j6, .tuple ws, .str y6], _, rfl, gA, .tup hA (.cons (.int _) (.cons (.str _) (.cons hzA (.cons (.int _) (.cons (.tup (hf6.kx KK) (hF6.to KK)) (.cons (.str _) .nil)))))), ?_⟩
        refine bB_row (m := 2 * m + 1) ?_ (Nat.le_refl _) (by show 6 ≤ _; omega)
        simp only [List.all_cons, List.all_nil, Bool.and_true, up c0, up c1, (hzb), up c3, up c4, up c5]

      -- the rest
      refine ⟨_, rfl, rfl, _, rfl, ite2 (fun _ => ?_) (fun _ => ?_)⟩
      · refine ⟨_, rfl, _, rfl, sl_x g4.2 hD4 h6 fun a1 H5 s5 h1 => ⟨_, rfl, ?_⟩⟩
        have h1 : Ax p c p H5 a1 (.tup (List.take 1 [.int i6, .str x6, .ref b6, .int j6, .ref f6, .str y6])) := by rw [← cutV_to _ 1]; exact h1
        have g5 := Gx.same g4.2 s5
        have hD5 := Has.gx g4.2 g5 hD4
        refine ⟨sz (by show 11 ≤ 16000000; decide), fun l hl => ?_⟩
        have gl := Gx.new (o := .lst [.str (Str.ofString ""), .str (Str.ofString "0:"), .str (Str.ofString "0:,"), .str (Str.ofString "7"), .str (Str.ofString "201"), .str (Str.ofString "3:ab"), .str (Str.ofString "3:abc"), .str (Str.ofString "3:abcd"), .str (Str.ofString ":"), .str (Str.ofString "\n"), .int 0]) g5.2 hl
        refine ⟨p, c, .ref l, rfl, gl.2, .inl ⟨l, _, rfl, At.new g5.2 hl, (by show 1 ≤ 11; decide), (by show 11 ≤ 100000; decide), fun r2 z H6 hz g6 => ?_⟩⟩
        obtain ⟨zd, hzz, hzb⟩ : ∃ zd, (∀ H, Dx p c p H z zd) ∧ bB (2 * m + 1) zd = true := by
          have mem := List.mem_of_getElem? hz
          simp only [List.mem_cons, List.not_mem_nil, or_false] at mem
          rcases mem with h | h | h | h | h | h | h | h | h | h | h
          · exact zS h (bB_mono (m := 12) (by omega) _ (by decide +kernel))
          · exact zS h (bB_mono (m := 12) (by omega) _ (by decide +kernel))
          · exact zS h (bB_mono (m := 12) (by omega) _ (by decide +kernel))
          · exact zS h (bB_mono (m := 12) (by omega) _ (by decide +kernel))
          · exact zS h (bB_mono (m := 12) (by omega) _ (by decide +kernel))
          · exact zS h (bB_mono (m := 12) (by omega) _ (by decide +kernel))
          · exact zS h (bB_mono (m := 12) (by omega) _ (by decide +kernel))
          · exact zS h (bB_mono (m := 12) (by omega) _ (by decide +kernel))
          · exact zS h (bB_mono (m := 12) (by omega) _ (by decide +kernel))
          · exact zS h (bB_mono (m := 12) (by omega) _ (by decide +kernel))
          · exact zI h (by simp)
        have h1 := h1.kx (hd_kp (gl.trans g6).kp)
        have hD6 := Has.gx g5.2 (gl.trans g6) hD5
        have g56 := gl.trans g6
        have g6 := g5.trans g56

        refine ⟨sz (by show 1 ≤ 16000000; decide), fun t ht => ?_⟩
        have st7 := same_new (o := .tup [z]) ht
        have g7 := g6.trans (Gx.same g6.2 st7)
        have hD7 := Has.gx g6.2 (Gx.same g6.2 st7) hD6
        have h7 : Ax p c p _ t (.tup [z]) := Ax.new g6.2 hD6 ht
        have hz7 := (hzz H6).to (hd_kp (D := p) (.same st7))
        have h1 := h1.kx (hd_kp (.same st7))
        generalize upd _ t (.tup [z]) = H7 at st7 g7 hD7 h7 hz7 h1 ⊢
        refine cat_x g7.2 hD7 h1 h7 (by show 1 + 1 ≤ 1000000; decide) fun a8 H8 s8 h8 => ?_
        have g8 := g7.trans (Gx.same g7.2 s8)
        have hD8 := Has.gx g7.2 (Gx.same g7.2 s8) hD7
        refine ⟨_, rfl, _, rfl, ?_⟩
        dsimp only [tNoPart]
        refine sl_x g8.2 hD8 (h6.kx (hd_kp g8.kp)) fun a9 H9 s9 h9 => ?_
        have h9 : Ax p c p H9 a9 (.tup (List.drop 2 [.int i6, .str x6, .ref b6, .int j6, .ref f6, .str y6])) := by rw [← cutV_from _ (by show 2 ≤ 6; decide)]; exact h9
        have g9 := g8.trans (Gx.same g8.2 s9)
        have hD9 := Has.gx g8.2 (Gx.same g8.2 s9) hD8
        refine cat_x g9.2 hD9 (h8.kx (hd_kp (.same s9))) h9 (by show 1 + 1 + 4 ≤ 1000000; decide) fun aA HA sA hA => ?_
        have gA := g9.trans (Gx.same g9.2 sA)
        have KK := hd_kp (D := p) gA.kp
        have hzA := hz7.to (hd_kp (D := p) (.same ((s8.trans s9).trans sA)))
        refine ⟨.ref aA, .tuple [.int i6, zd, .tuple us, .int j6, .tuple ws, .str y6], _, rfl, gA, .tup hA (.cons (.int _) (.cons hzA (.cons (.tup (hb6.kx KK) (hB6.to KK)) (.cons (.int _) (.cons (.tup (hf6.kx KK) (hF6.to KK)) (.cons (.str _) .nil)))))), ?_⟩
        refine bB_row (m := 2 * m + 1) ?_ (Nat.le_refl _) (by show 6 ≤ _; omega)
        simp only [List.all_cons, List.all_nil, Bool.and_true, up c0, (hzb), up c2, up c3, up c4, up c5]

      have ei : ((i : Int) + 1) = ((i + 1 : Nat) : Int) := by omega
      have hrb2 : rs.all (bB (2 * m + 1)) = true := bBA_mono (by omega) _ hrb
      -- the rows turned
      refine ⟨_, rfl, rfl, _, rfl, ite2 (fun _ => ?_) (fun _ => ?_)⟩
      · refine ⟨_, rfl, _, rfl, sl_x g4.2 hD4 ha fun a1 H5 s5 h1 => ?_⟩
        have h1 : Ax p c p H5 a1 (.tup (List.take 4 [x0, x1, x2, x3, .ref b])) := by rw [← cutV_to _ 4]; exact h1
        have g5 := Gx.same g4.2 s5
        have hD5 := Has.gx g4.2 g5 hD4
        refine ⟨_, rfl, _, rfl, _, rfl, ?_⟩
        dsimp only [tNoPart]
        refine sl_x g5.2 hD5 (hbt.kx (hd_kp g5.kp)) fun a2 H6 s6 h2 => ?_
        rw [cutV_from ys (by omega)] at h2
        have g6 := g5.trans (Gx.same g5.2 s6)
        have hD6 := Has.gx g5.2 (Gx.same g5.2 s6) hD5
        refine ⟨_, rfl, _, rfl, _, rfl, sl_x g6.2 hD6 (hbt.kx (hd_kp g6.kp)) fun a3 H7 s7 h3 => ?_⟩
        rw [cutV_to] at h3
        have g7 := g6.trans (Gx.same g6.2 s7)
        have hD7 := Has.gx g6.2 (Gx.same g6.2 s7) hD6
        refine cat_x g7.2 hD7 (h2.kx (hd_kp (.same s7))) h3 (by simp only [List.length_take, List.length_drop]; omega) fun a5 H8 s8 h5 => ?_
        have g8 := g7.trans (Gx.same g7.2 s8)
        have hD8 := Has.gx g7.2 (Gx.same g7.2 s8) hD7
        have hR8 := hR.to (hd_kp (D := p) g8.kp)
        have h1 := h1.kx (hd_kp (.same ((s6.trans s7).trans s8)))
        refine ⟨sz (by show 1 ≤ 16000000; decide), fun t ht => ?_⟩
        have stA := same_new (o := .tup [.ref a5]) ht
        have gA := g8.trans (Gx.same g8.2 stA)
        have hDA := Has.gx g8.2 (Gx.same g8.2 stA) hD8
        have hA7 : Ax p c p _ t (.tup [.ref a5]) := Ax.new g8.2 hD8 ht
        have h1 := h1.kx (hd_kp (.same stA))
        have hrrA := (h5).kx (hd_kp (.same stA))
        have hzsA := ((hR8.drop i).app (hR8.take i)).to (hd_kp (D := p) (.same stA))
        generalize upd _ t (.tup [.ref a5]) = HA at stA gA hDA hA7 h1 hrrA hzsA ⊢
        refine cat_x gA.2 hDA h1 hA7 (by show 4 + 1 ≤ 1000000; decide) fun aF HF sF hF => ?_
        have gF := gA.trans (Gx.same gA.2 sF)
        have KK := hd_kp (D := p) gF.kp
        have kF := hd_kp (D := p) (Kp.same (p := p) (c := c) sF)
        refine q _ (.tuple [e0, e1, e2, e3, .tuple (rs.drop i ++ rs.take i)]) _ (g4.trans gF) (.tup hF (.cons (k0.to KK) (.cons (k1.to KK) (.cons (k2.to KK) (.cons (k3.to KK) (.cons (.tup (hrrA.kx kF) (hzsA.to kF)) .nil)))))) ?_
        refine bB_row (m := 2 * m + 1) ?_ (Nat.le_refl _) (by show 5 ≤ _; omega)
        have hrz : bB (2 * m + 1) (.tuple (rs.drop i ++ rs.take i)) = true := bB_row (m := 2 * m + 1) (by rw [List.all_append, all_drop hrb2, all_take hrb2]; rfl) (Nat.le_refl _) (by simp only [List.length_append, List.length_take, List.length_drop]; omega)
        simp only [List.all_cons, List.all_nil, Bool.and_true, up b0, up b1, up b2, up b3, hrz]

      -- a row twice
      refine ⟨_, rfl, rfl, _, rfl, ite2 (fun _ => ?_) (fun _ => ?_)⟩
      · refine ⟨_, rfl, _, rfl, sl_x g4.2 hD4 ha fun a1 H5 s5 h1 => ?_⟩
        have h1 : Ax p c p H5 a1 (.tup (List.take 4 [x0, x1, x2, x3, .ref b])) := by rw [← cutV_to _ 4]; exact h1
        have g5 := Gx.same g4.2 s5
        have hD5 := Has.gx g4.2 g5 hD4
        refine ⟨_, rfl, _, rfl, _, rfl, sl_x g5.2 hD5 (hbt.kx (hd_kp g5.kp)) fun a2 H6 s6 h2 => ?_⟩
        rw [cutV_to] at h2
        have g6 := g5.trans (Gx.same g5.2 s6)
        have hD6 := Has.gx g5.2 (Gx.same g5.2 s6) hD5
        refine ⟨_, rfl, _, rfl, _, rfl, _, rfl, _, _, rfl, rfl, _, rfl, sl_x g6.2 hD6 (hbt.kx (hd_kp g6.kp)) fun a3 H7 s7 h3 => ?_⟩
        rw [ei, cutV_mid ys (by omega)] at h3
        have g7 := g6.trans (Gx.same g6.2 s7)
        have hD7 := Has.gx g6.2 (Gx.same g6.2 s7) hD6
        refine cat_x g7.2 hD7 (h2.kx (hd_kp (.same s7))) h3 (by simp only [List.length_take, List.length_drop]; omega) fun a5 H8 s8 h5 => ?_
        have g8 := g7.trans (Gx.same g7.2 s8)
        have hD8 := Has.gx g7.2 (Gx.same g7.2 s8) hD7
        refine ⟨_, rfl, _, rfl, _, rfl, ?_⟩
        dsimp only [tNoPart]
        refine sl_x g8.2 hD8 (hbt.kx (hd_kp g8.kp)) fun a7 H9 s9 h7 => ?_
        rw [cutV_from ys (by omega)] at h7
        have g9 := g8.trans (Gx.same g8.2 s9)
        have hD9 := Has.gx g8.2 (Gx.same g8.2 s9) hD8
        refine cat_x g9.2 hD9 (h5.kx (hd_kp (.same s9))) h7 (by simp only [List.length_append, List.length_take, List.length_drop]; omega) fun aB HB sB hB => ?_
        have gB := g9.trans (Gx.same g9.2 sB)
        have hDB := Has.gx g9.2 (Gx.same g9.2 sB) hD9
        have hR8 := hR.to (hd_kp (D := p) gB.kp)
        have h1 := h1.kx (hd_kp (.same ((((s6.trans s7).trans s8).trans s9).trans sB)))
        refine ⟨sz (by show 1 ≤ 16000000; decide), fun t ht => ?_⟩
        have stA := same_new (o := .tup [.ref aB]) ht
        have gA := gB.trans (Gx.same gB.2 stA)
        have hDA := Has.gx gB.2 (Gx.same gB.2 stA) hDB
        have hA7 : Ax p c p _ t (.tup [.ref aB]) := Ax.new gB.2 hDB ht
        have h1 := h1.kx (hd_kp (.same stA))
        have hrrA := (hB).kx (hd_kp (.same stA))
        have hzsA := (((hR8.take i).app ((hR8.drop i).take (i + 1 - i))).app (hR8.drop i)).to (hd_kp (D := p) (.same stA))
        generalize upd _ t (.tup [.ref aB]) = HA at stA gA hDA hA7 h1 hrrA hzsA ⊢
        refine cat_x gA.2 hDA h1 hA7 (by show 4 + 1 ≤ 1000000; decide) fun aF HF sF hF => ?_
        have gF := gA.trans (Gx.same gA.2 sF)
        have KK := hd_kp (D := p) gF.kp
        have kF := hd_kp (D := p) (Kp.same (p := p) (c := c) sF)
        refine q _ (.tuple [e0, e1, e2, e3, .tuple ((rs.take i ++ (rs.drop i).take (i + 1 - i)) ++ rs.drop i)]) _ (g4.trans gF) (.tup hF (.cons (k0.to KK) (.cons (k1.to KK) (.cons (k2.to KK) (.cons (k3.to KK) (.cons (.tup (hrrA.kx kF) (hzsA.to kF)) .nil)))))) ?_
        refine bB_row (m := 2 * m + 1) ?_ (Nat.le_refl _) (by show 5 ≤ _; omega)
        have hrz : bB (2 * m + 1) (.tuple ((rs.take i ++ (rs.drop i).take (i + 1 - i)) ++ rs.drop i)) = true := bB_row (m := 2 * m + 1) (by rw [List.all_append, List.all_append, all_take hrb2, all_take (all_drop hrb2 i), all_drop hrb2]; rfl) (Nat.le_refl _) (by simp only [List.length_append, List.length_take, List.length_drop]; omega)
        simp only [List.all_cons, List.all_nil, Bool.and_true, up b0, up b1, up b2, up b3, hrz]

      -- the marks
      refine ⟨_, rfl, _, rfl, sl_x g4.2 hD4 ha fun a1 H5 s5 h1 => ⟨_, rfl, ?_⟩⟩
      have h1 : Ax p c p H5 a1 (.tup (List.take 2 [x0, x1, x2, x3, .ref b])) := by rw [← cutV_to _ 2]; exact h1
      have g5 := Gx.same g4.2 s5
      have hD5 := Has.gx g4.2 g5 hD4
      refine ⟨sz (by show 2 ≤ 16000000; decide), fun t1 ht1 => ?_⟩
      have sm1 := same_new (o := .tup [.bl true, .bl true]) ht1
      have m1 : Ax p c p _ t1 (.tup [.bl true, .bl true]) := Ax.new g5.2 hD5 ht1
      have gm1 := g5.trans (Gx.same g5.2 sm1)
      have hm1 := Has.gx g5.2 (Gx.same g5.2 sm1) hD5
      generalize upd H5 t1 (.tup [.bl true, .bl true]) = M1 at sm1 m1 gm1 hm1 ⊢
      refine ⟨sz (by show 2 ≤ 16000000; decide), fun t2 ht2 => ?_⟩
      have sm2 := same_new (o := .tup [.bl false, .bl false]) ht2
      have m2 : Ax p c p _ t2 (.tup [.bl false, .bl false]) := Ax.new gm1.2 hm1 ht2
      have gm2 := gm1.trans (Gx.same gm1.2 sm2)
      have hm2 := Has.gx gm1.2 (Gx.same gm1.2 sm2) hm1
      generalize upd M1 t2 (.tup [.bl false, .bl false]) = M2 at sm2 m2 gm2 hm2 ⊢
      refine ⟨sz (by show 2 ≤ 16000000; decide), fun t3 ht3 => ?_⟩
      have sm3 := same_new (o := .tup [.bl false, .bl true]) ht3
      have m3 : Ax p c p _ t3 (.tup [.bl false, .bl true]) := Ax.new gm2.2 hm2 ht3
      have gm3 := gm2.trans (Gx.same gm2.2 sm3)
      have hm3 := Has.gx gm2.2 (Gx.same gm2.2 sm3) hm2
      generalize upd M2 t3 (.tup [.bl false, .bl true]) = M3 at sm3 m3 gm3 hm3 ⊢
      refine ⟨sz (by show 2 ≤ 16000000; decide), fun t4 ht4 => ?_⟩
      have sm4 := same_new (o := .tup [.bl true, .bl false]) ht4
      have m4 : Ax p c p _ t4 (.tup [.bl true, .bl false]) := Ax.new gm3.2 hm3 ht4
      have gm4 := gm3.trans (Gx.same gm3.2 sm4)
      have hm4 := Has.gx gm3.2 (Gx.same gm3.2 sm4) hm3
      generalize upd M3 t4 (.tup [.bl true, .bl false]) = M4 at sm4 m4 gm4 hm4 ⊢
      refine ⟨sz (by show 4 ≤ 16000000; decide), fun l hl => ?_⟩
      have gl := Gx.new (o := .lst [.ref t1, .ref t2, .ref t3, .ref t4]) gm4.2 hl
      refine ⟨p, c, .ref l, rfl, gl.2, .inl ⟨l, _, rfl, At.new gm4.2 hl, (by show 1 ≤ 4; decide), (by show 4 ≤ 100000; decide), fun r2 z H6 hz g6 => ?_⟩⟩
      have kl := hd_kp (D := p) (gl.trans g6).kp
      obtain ⟨tz, u, v, rfl, htz⟩ : ∃ tz u v, z = .ref tz ∧ Ax p c p H6 tz (.tup [.bl u, .bl v]) := by
        have mem := List.mem_of_getElem? hz
        simp only [List.mem_cons, List.not_mem_nil, or_false] at mem
        rcases mem with rfl | rfl | rfl | rfl
        · exact ⟨_, _, _, rfl, (m1.kx (hd_kp (.same ((sm2.trans sm3).trans sm4)))).kx kl⟩
        · exact ⟨_, _, _, rfl, (m2.kx (hd_kp (.same (sm3.trans sm4)))).kx kl⟩
        · exact ⟨_, _, _, rfl, (m3.kx (hd_kp (.same sm4))).kx kl⟩
        · exact ⟨_, _, _, rfl, m4.kx kl⟩
      have h1 := (h1.kx (hd_kp (.same (((sm1.trans sm2).trans sm3).trans sm4)))).kx kl
      have hD6 := Has.gx gm4.2 (gl.trans g6) hm4
      have g6 := gm4.trans (gl.trans g6)
      refine cat_x g6.2 hD6 h1 htz (by show 2 + 2 ≤ 1000000; decide) fun a3 H7 s7 h3 => ?_
      have g7 := g6.trans (Gx.same g6.2 s7)
      have hD7 := Has.gx g6.2 (Gx.same g6.2 s7) hD6
      refine ⟨_, rfl, _, rfl, ?_⟩
      dsimp only [tNoPart]
      refine sl_x g7.2 hD7 (ha.kx (hd_kp g7.kp)) fun a9 H9 s9 h9 => ?_
      have h9 : Ax p c p H9 a9 (.tup (List.drop 4 [x0, x1, x2, x3, .ref b])) := by rw [← cutV_from _ (by show 4 ≤ 5; decide)]; exact h9
      have g9 := g7.trans (Gx.same g7.2 s9)
      have hD9 := Has.gx g7.2 (Gx.same g7.2 s9) hD7
      refine cat_x g9.2 hD9 (h3.kx (hd_kp (.same s9))) h9 (by show 4 + 1 ≤ 1000000; decide) fun aF HF sF hF => ?_
      have gF := g9.trans (Gx.same g9.2 sF)
      have KK := hd_kp (D := p) gF.kp
      refine q _ (.tuple [e0, e1, .bool u, .bool v, .tuple rs]) _ (g4.trans gF) (.tup hF (.cons (k0.to KK) (.cons (k1.to KK) (.cons (.bl _) (.cons (.bl _) (.cons (.tup (hbt.kx KK) (hR.to KK)) .nil)))))) ?_
      refine bB_row (m := 2 * m + 1) ?_ (Nat.le_refl _) (by show 5 ≤ _; omega)
      have hrz : bB (2 * m + 1) (.tuple rs) = true := bB_row (m := 2 * m + 1) hrb2 (Nat.le_refl _) (by omega)
      simp only [List.all_cons, List.all_nil, Bool.and_true, up b0, up b1, hrz, show ∀ w, bB (2 * m + 1) (.bool w) = true from fun _ => rfl]
    · rintro σ H5 ⟨rv, rd, z, rfl, g5, hrd, hrdb⟩
      have hD5 := Has.gx g4.2 g5 hD4
      refine ⟨_, rfl, _, rfl, sl_x g5.2 hD5 (ha.kx (hd_kp g5.kp)) fun a1 H6 s6 h1 => ?_⟩
      have h1 : Ax p c p H6 a1 (.tup (List.take 4 [x0, x1, x2, x3, .ref b])) := by rw [← cutV_to _ 4]; exact h1
      have g6 := g5.trans (Gx.same g5.2 s6)
      have hD6 := Has.gx g5.2 (Gx.same g5.2 s6) hD5
      have up : ∀ {d : PyData}, bB m d = true → bB (2 * m + 1) d = true := fun h => bB_mono (by omega) _ h
      have ei : ((i : Int) + 1) = ((i + 1 : Nat) : Int) := by omega
      have hrb2 : rs.all (bB (2 * m + 1)) = true := bBA_mono (by omega) _ hrb
      refine ⟨_, rfl, _, rfl, _, rfl, sl_x g6.2 hD6 (hbt.kx (hd_kp g6.kp)) fun a2 H7 s7 h2 => ?_⟩
      rw [cutV_to] at h2
      have g7 := g6.trans (Gx.same g6.2 s7)
      have hD7 := Has.gx g6.2 (Gx.same g6.2 s7) hD6
      refine ⟨_, rfl, sz (by show 1 ≤ 16000000; decide), fun t2 ht2 => ?_⟩
      have st8 := same_new (o := .tup [rv]) ht2
      have g8 := g7.trans (Gx.same g7.2 st8)
      have hD8 := Has.gx g7.2 (Gx.same g7.2 st8) hD7
      have h8 : Ax p c p _ t2 (.tup [rv]) := Ax.new g7.2 hD7 ht2
      generalize upd H7 t2 (.tup [rv]) = H8 at st8 g8 hD8 h8 ⊢
      refine cat_x g8.2 hD8 (h2.kx (hd_kp (.same st8))) h8 (by simp only [List.length_take, List.length_cons, List.length_nil]; omega) fun a5 H9 s9 h5 => ?_
      have g9 := g8.trans (Gx.same g8.2 s9)
      have hD9 := Has.gx g8.2 (Gx.same g8.2 s9) hD8
      refine ⟨_, rfl, _, rfl, _, _, rfl, rfl, _, rfl, ?_⟩
      dsimp only [tNoPart]
      refine sl_x g9.2 hD9 (hbt.kx (hd_kp g9.kp)) fun a7 HB sB h7 => ?_
      rw [ei, cutV_from ys (by omega)] at h7
      have gB := g9.trans (Gx.same g9.2 sB)
      have hDB := Has.gx g9.2 (Gx.same g9.2 sB) hD9
      refine cat_x gB.2 hDB (h5.kx (hd_kp (.same sB))) h7 (by simp only [List.length_append, List.length_take, List.length_drop, List.length_cons, List.length_nil]; omega) fun aC HC sC hC => ?_
      have gC := gB.trans (Gx.same gB.2 sC)
      have hDC := Has.gx gB.2 (Gx.same gB.2 sC) hDB
      have hR8 := hR.to (hd_kp (D := p) gC.kp)
      have s5C := (((((s6.trans s7).trans st8).trans s9).trans sB).trans sC)
      have hrdC := hrd.to (hd_kp (D := p) (.same s5C))
      have h1 := h1.kx (hd_kp (.same ((((s7.trans st8).trans s9).trans sB).trans sC)))
      refine ⟨sz (by show 1 ≤ 16000000; decide), fun t ht => ?_⟩
      have stA := same_new (o := .tup [.ref aC]) ht
      have gA := gC.trans (Gx.same gC.2 stA)
      have hDA := Has.gx gC.2 (Gx.same gC.2 stA) hDC
      have hA7 : Ax p c p _ t (.tup [.ref aC]) := Ax.new gC.2 hDC ht
      have h1 := h1.kx (hd_kp (.same stA))
      have hrrA := (hC).kx (hd_kp (.same stA))
      have hzsA := (((hR8.take i).app (.cons hrdC .nil)).app (hR8.drop (i + 1))).to (hd_kp (D := p) (.same stA))
      generalize upd _ t (.tup [.ref aC]) = HA at stA gA hDA hA7 h1 hrrA hzsA ⊢
      refine cat_x gA.2 hDA h1 hA7 (by show 4 + 1 ≤ 1000000; decide) fun aF HF sF hF => ?_
      have gF := gA.trans (Gx.same gA.2 sF)
      have KK := hd_kp (D := p) gF.kp
      have kF := hd_kp (D := p) (Kp.same (p := p) (c := c) sF)
      refine q _ (.tuple [e0, e1, e2, e3, .tuple ((rs.take i ++ [rd]) ++ rs.drop (i + 1))]) _ (g4.trans gF) (.tup hF (.cons (k0.to KK) (.cons (k1.to KK) (.cons (k2.to KK) (.cons (k3.to KK) (.cons (.tup (hrrA.kx kF) (hzsA.to kF)) .nil)))))) ?_
      refine bB_row (m := 2 * m + 1) ?_ (Nat.le_refl _) (by show 5 ≤ _; omega)
      have hrz : bB (2 * m + 1) (.tuple ((rs.take i ++ [rd]) ++ rs.drop (i + 1))) = true := bB_row (m := 2 * m + 1) (by rw [List.all_append, List.all_append, all_take hrb2, List.all_cons, hrdb, all_drop hrb2]; rfl) (Nat.le_refl _) (by simp only [List.length_append, List.length_take, List.length_drop, List.length_cons, List.length_nil]; omega)
      simp only [List.all_cons, List.all_nil, Bool.and_true, up b0, up b1, up b2, up b3, hrz]

end
end Ag

end
/-! ## ZX -/
section
set_option linter.all false
set_option maxRecDepth 100000
set_option maxHeartbeats 8000000
namespace Ag
open PySem PySem.Spec PyProof.Rows L2
open SX (S S_len S_cat S_inj)
theorem fit_2 (b : Bool) : Fit (.tuple [.bool b, .bool b]) := by
  cases b <;> exact ⟨by decide, by decide, by decide +kernel⟩
def hND (l : List Nat) : PyData := .tuple [.str (S l), .int 1, .bool true, .bool false, .tuple []]
theorem fit_h {l : List Nat} (h : wordL l = true) : Fit (.tuple [hND l, hND l]) := by
  have h1 := word_bB h
  have h1 : ((S l).cps.toList.all (· < 128) && decide ((S l).cps.toList.length ≤ sl 12)) = true := h1
  rw [Bool.and_eq_true, decide_eq_true_eq] at h1
  have h256 : sl 12 = 256 := by decide
  have h2 : l.length ≤ 256 := by have : l.length ≤ sl 12 := h1.2; omega
  refine ⟨?_, ?_, ?_⟩
  · simp only [hND, okD, okAll, h1.1]
    decide
  · simp [hND, PyData.depth, PyData.depthAll]
  · simp [hND, PyData.bulk, PyData.bulkAll]
    omega
section
variable {P : Program} {w : World} {K : PySem.W.Frag} {mg : Str → Option Value} {base : Heap} {tm tn tb : Tok}
def spTold (K : PySem.W.Frag) : Sp := fun vs H Q _ => ∃ p c v d, vs = [v] ∧ HsD K p c H v d ∧ bB 52 d = true ∧ ∀ H', Same H H' → Q (.bl true) H'
theorem ok_told {f f1 f2 : Addr} {fd fd1 fd2 : FuncData} (F : Fn K mg "_law_is_told" s__law_is_told ["_law_thing"] f fd) (B : Con mg tm tn tb)
    (F_is_house : Fn K mg "is_house" s_is_house ["thing"] f1 fd1) (G_is_house : FnOk P w K mg base CX0 5 f1 fd1 ["thing"] (spHouseD K)) (K_is_house_thing : KwB K fd1 ["thing"] ["thing"] (fun x => x) (fun x => x))
    (F__law_is_house : Fn K mg "_law_is_house" s__law_is_house ["_law_thing"] f2 fd2) (G__law_is_house : FnOk P w K mg base CX0 4 f2 fd2 ["_law_thing"] (spLHouseD K)) : FnG P w K mg base 6 f fd ["_law_thing"] (spTold K) := by
  refine okG F.F sc__law_is_told (fun vs H Q E h => ?_) (fun cdv A outer s H vs Q E hr hG h => ?_)
  · obtain ⟨p, c, v, d, rfl, _⟩ := h
    rfl
  · obtain ⟨p, c, v, d, rfl, hd, hb, q⟩ := h
    have hu := hu66 hr
    refine ⟨_, (pss_cons (ps_set (i := 1) sc__law_is_told.nd rfl (.inl rfl) (pe_call G__law_is_house (hr.mono (by decide)) (by rfl) F__law_is_house.g F__law_is_house.F.kp F__law_is_house.b .nil pass0 (pa_cons (pv 0) pa_nil)))
      (pss_one (ps_ret (pe_cmpR op_eq (pe_callB (call_repr_data (hu66 hr) hG) (by rfl) B.n_repr (by decide +kernel) (pa_cons (pe_tup (pa_cons (pe_call G_is_house (hr.mono (by decide)) (by rfl) F_is_house.g F_is_house.F.kp F_is_house.b .nil pass0 (pa_cons (pv 0) pa_nil)) (pa_cons (pe_callKwG (FnG.of G_is_house) (hr.mono (by decide)) hG (by rfl) F_is_house.g F_is_house.F.kp K_is_house_thing (pk_cons (pv 0) pk_nil)) pa_nil))) pa_nil)) (pe_callB (call_repr_data (hu66 hr) hG) (by rfl) B.n_repr (by decide +kernel) (pa_cons (pe_tup (pa_cons (pv 1) (pa_cons (pv 1) pa_nil))) pa_nil)) (nomark _))))), ?_⟩
    obtain ⟨w1, w2, w3, w4⟩ := (fit_2 (houseB d)).shown
    refine ⟨_, rfl, p, c, v, d, rfl, hd.1, hb, fun H1 s1 => ?_⟩
    refine ⟨_, rfl, p, c, v, d, rfl, hd.to (.same s1), hb, fun H2 s2 => ?_⟩
    have s2 := s1.trans s2
    refine ⟨_, rfl, rfl, p, c, v, d, rfl, hd.to (.same s2), hb, fun H3 s3 => ?_⟩
    have s3 := s2.trans s3
    refine ⟨sz (by show 2 ≤ 16000000; decide), fun t ht => ?_⟩
    refine ⟨_, _, rfl, .tup (SqT.of upd_same) (.cons (.bl _) (.cons (.bl _) .nil)), w1, w2, w3, w4, ?_⟩
    have s4 := s3.trans (same_new (o := .tup [.bl (houseB d), .bl (houseB d)]) ht)
    generalize upd H3 t _ = H4 at s4 ⊢
    refine ⟨_, rfl, _, rfl, sz (by show 2 ≤ 16000000; decide), fun u hu2 => ?_⟩
    refine ⟨_, _, rfl, .tup (SqT.of upd_same) (.cons (.bl _) (.cons (.bl _) .nil)), w1, w2, w3, w4, rfl, ?_⟩
    rw [decide_eq_true rfl]
    exact q _ (s4.trans (same_new hu2))
end
end Ag

end
/-! ## ZY -/
section
set_option linter.all false
set_option maxRecDepth 100000
set_option maxHeartbeats 8000000
namespace Ag
open PySem PySem.Spec PyProof.Rows L2
open SX (S S_len S_cat S_inj)
def spLaw (K : PySem.W.Frag) : Sp := fun vs H Q _ => ∃ (a : Addr) (ns : List Int), vs = [.ref a] ∧ SqL K H a (ns.map V.int) ∧ ns.length ≤ 63 ∧ ∀ H', Q (.bl true) H'
/-- a drawn house in a heap, the list of houses no part of it -/
def Hse (p c L : Addr) (H : Hp) (y : V) : Prop := ∃ d, Dx p c L H y d ∧ bB 12 d = true ∧ shH d = true
theorem Hse.to {p c L : Addr} {H H' : Hp} {y : V} (h : Hse p c L H y) (k : Kp p c (hd1 L H) (hd1 L H')) : Hse p c L H' y := by
  obtain ⟨d, h1, h2⟩ := h
  exact ⟨d, h1.to k, h2⟩
theorem shR_sk {r : PyData} (hr : rowB (skD r) = true) : shR r = true := by
  cases r with
  | tuple us =>
    simp only [skD] at hr
    by_cases h6 : us.length = 6
    · obtain ⟨u0, u1, u2, u3, u4, u5, rfl⟩ := len6 h6
      simp only [skA] at hr
      have hr : ((wholeB 0 1000000000 (skD u0) && rstB (skD u1)) && (bodiesB (skD u2) && ((wholeB 0 1000000000 (skD u3) && (decide (asInt (skD u3) ≤ lenT (skD u2)) && cntB (asInt (skD u3)) (skD u4))) && stB (lenT (skD u2)) (asInt (skD u3)) (skD u1) (skD u5)))) = true := hr
      simp only [Bool.and_eq_true] at hr
      obtain ⟨⟨a0, a1⟩, a2, ⟨a3, _, a4⟩, a5⟩ := hr
      have z0 : ∃ i, u0 = .int i := by cases u0 <;> simp [skD, wholeB] at a0 <;> exact ⟨_, rfl⟩
      have z1 : ∃ i, u1 = .str i := by cases u1 <;> simp [skD, rstB] at a1 <;> exact ⟨_, rfl⟩
      have z2 : ∃ i, u2 = .tuple i := by cases u2 <;> simp [skD, bodiesB] at a2 <;> exact ⟨_, rfl⟩
      have z3 : ∃ i, u3 = .int i := by cases u3 <;> simp [skD, wholeB] at a3 <;> exact ⟨_, rfl⟩
      have z4 : ∃ i, u4 = .tuple i := by cases u4 <;> simp [skD, cntB] at a4 <;> exact ⟨_, rfl⟩
      have z5 : ∃ i, u5 = .str i := by cases u5 <;> simp [skD, stB, eqDS] at a5 <;> exact ⟨_, rfl⟩
      obtain ⟨i0, rfl⟩ := z0
      obtain ⟨i1, rfl⟩ := z1
      obtain ⟨i2, rfl⟩ := z2
      obtain ⟨i3, rfl⟩ := z3
      obtain ⟨i4, rfl⟩ := z4
      obtain ⟨i5, rfl⟩ := z5
      rfl
    · rw [row6 (by rw [skA_len]; exact h6)] at hr
      cases hr
  | _ => simp [skD, rowB] at hr
theorem rows_sk : ∀ rs : List PyData, (skA rs).all rowB = true → rs.all shR = true
  | [], _ => rfl
  | r :: rs, h => by
    simp only [skA, List.all_cons, Bool.and_eq_true] at h
    rw [List.all_cons, shR_sk h.1, rows_sk rs h.2]
    rfl
theorem shH_sk {d : PyData} (h : houseB (skD d) = true) : shH d = true := by
  cases d with
  | tuple ds =>
    simp only [skD] at h
    by_cases h5 : ds.length = 5
    · obtain ⟨e0, e1, e2, e3, e4, rfl⟩ := len5 h5
      simp only [skA] at h
      have h : ((wordB (skD e0) && (wholeB 0 1000000000 (skD e1) && !decide (asInt (skD e1) = 0))) && ((isB (skD e2) && isB (skD e3)) && (rowsB (skD e4) && shutB (asB (skD e2)) (asB (skD e3)) (skD e4)))) = true := h
      simp only [Bool.and_eq_true] at h
      obtain ⟨_, _, h, _⟩ := h
      cases e4 with
      | tuple rs =>
        simp only [skD] at h
        have h : ((skA rs).all rowB && ascI ((skA rs).map fun r => asInt (itT 0 r))) = true := h
        rw [Bool.and_eq_true] at h
        exact rows_sk rs h.1
      | _ => simp [skD, rowsB] at h
    · rw [house5 (by rw [skA_len]; exact h5)] at h
      cases h
  | _ => simp [skD, houseB] at h
/-- a for, its body a way from what is held after it -/
theorem for_it2 {J : It} {n : Nat} {G : Hp → Prop} {Y : Nat → Hp → V → Hp → Prop} (w : Walk J n G Y) {g : TG} {body : (L2.St → Hp → Prop) → L2.St → Hp → Prop} {nx : L2.St → Hp → Prop} {σ : L2.St} {H : Hp} (Pv : Nat → L2.St → Hp → Prop) (h0 : Pv 0 σ H) (hG : ∀ i σ H, i ≤ n → Pv i σ H → G H)
    (hs : ∀ i x σ H H', i < n → Pv i σ H → Y i H x H' → g x σ H' fun σ2 H2 => body (Pv (i + 1)) σ2 H2) (hd : ∀ σ H, Pv n σ H → nx σ H) :
    ∃ W : Nat → Nat → L2.St → Hp → Prop, (∃ m, W 0 m σ H) ∧ ∀ i m σ H, W i m σ H →
      (J.stop i H ∧ nx σ H) ∨ (J.go i H ∧ ∃ N : L2.St → Hp → Prop, (∀ σ' H', N σ' H' → ∃ m', m' < m ∧ W (i + 1) m' σ' H') ∧ ∀ x H', J.yld i H x H' → g x σ H' fun σ2 H2 => body N σ2 H2) :=
  for_it w (g := g) (tb := fun D => body D.nx) (D := { nx := nx, rt := fun _ _ => True }) Pv h0 hG hs hd
section
variable {P : Program} {w : World} {K : PySem.W.Frag} {mg : Str → Option Value} {base : Heap} {tm tn tb tw tr tp tg : Tok} {Wa : Addr}
theorem ok_law {f f1 f2 f3 f4 f5 f6 f7 f8 f9 g1 g2 g3 C fI : Addr} {fd fd1 fd2 fd3 fd4 fd5 fd6 fd7 fd8 fd9 gd1 gd2 gd3 fdI : FuncData} (F : Fn K mg "law" s_law ["_law_script"] f fd) (B : Con mg tm tn tb)
    (F__law_deck : Fn K mg "_law_deck" s__law_deck ["_law_script"] f1 fd1) (G__law_deck : FnOk P w K mg base CX0 1 f1 fd1 ["_law_script"] (spDeck K))
    (F__law_draw : Fn K mg "_law_draw" s__law_draw ["_law_deck_here", "_law_below"] f2 fd2) (G__law_draw : FnOk P w K mg base CX0 1 f2 fd2 ["_law_deck_here", "_law_below"] spDraw)
    (F__law_pick : Fn K mg "_law_pick" s__law_pick ["_law_deck_here", "_law_some"] f3 fd3) (G__law_pick : FnOk P w K mg base CX0 2 f3 fd3 ["_law_deck_here", "_law_some"] spPick)
    (F__law_name : Fn K mg "_law_name" s__law_name ["_law_deck_here"] f4 fd4) (G__law_name : FnOk P w K mg base CX0 3 f4 fd4 ["_law_deck_here"] spName)
    (F_house_new : Fn K mg "house_new" s_house_new ["name"] f5 fd5) (G_house_new : FnOk P w K mg base CX0 2 f5 fd5 ["name"] spHouseN) (K_house_new_name : KwB K fd5 ["name"] ["name"] (fun x => x) (fun x => x))
    (F__law_house : Fn K mg "_law_house" s__law_house ["_law_deck_here"] f6 fd6) (G__law_house : FnOk P w K mg base CX0 6 f6 fd6 ["_law_deck_here"] spHouseM)
    (F__law_row : Fn K mg "_law_row" s__law_row ["_law_deck_here", "_law_label", "_law_state"] f7 fd7) (G__law_row : FnOk P w K mg base CX0 5 f7 fd7 ["_law_deck_here", "_law_label", "_law_state"] spRowM)
    (F__law_is_told : Fn K mg "_law_is_told" s__law_is_told ["_law_thing"] f8 fd8) (G__law_is_told : FnG P w K mg base 6 f8 fd8 ["_law_thing"] (spTold K))
    (F__law_near : Fn K mg "_law_near" s__law_near ["_law_deck_here", "_law_house_here"] f9 fd9) (G__law_near : FnOk P w K mg base CX0 11 f9 fd9 ["_law_deck_here", "_law_house_here"] spNear)
    (F__law_is_house : Fn K mg "_law_is_house" s__law_is_house ["_law_thing"] g1 gd1) (G__law_is_house : FnOk P w K mg base CX0 4 g1 gd1 ["_law_thing"] (spLHouseD K))
    (F__law_bent : Fn K mg "_law_bent" s__law_bent ["_law_deck_here", "_law_value", "_law_deep"] g2 gd2) (G__law_bent : FnOk P w K mg base CX0 10 g2 gd2 ["_law_deck_here", "_law_value", "_law_deep"] (spBent 5))
    (F__law_any : Fn K mg "_law_any" s__law_any ["_law_deck_here", "_law_deep"] g3 gd3) (G__law_any : FnOk P w K mg base CX0 7 g3 gd3 ["_law_deck_here", "_law_deep"] (spAny 4))
    (T : BenC K mg C fI fdI) (G_bench : FnOk P w K mg base CX0 7 fI fdI ["self", "settings"] (spBIni C)) : FnG P w K mg base 12 f fd ["_law_script"] (spLaw K) := by
  refine okG F.F sc_law (fun vs H Q E h => ?_) (fun cdv A outer s0 H vs Q E hr hG h => ?_)
  · obtain ⟨a, ns, rfl, _⟩ := h
    rfl
  · obtain ⟨a0, sc, rfl, hsc, hn, q⟩ := h
    refine ⟨_, (pss_cons (ps_set (i := 1) sc_law.nd rfl (.inr rfl) (pe_call G__law_deck (hr.mono (by decide)) (by rfl) F__law_deck.g F__law_deck.F.kp F__law_deck.b .nil pass0 (pa_cons (pv 0) pa_nil)))
      (pss_cons (ps_par (i := 2) (j := 3) (by rfl) sc_law.nd rfl rfl (by decide) rfl rfl (pa_cons (pe_make T.mkc G_bench (hr.mono (by decide)) (by rfl) T.g T.b .nil pass0 (pa_cons (pe_tup (pa_cons (pe_tup (pa_cons (pe_tup (pa_cons pe_str (pa_cons pe_int pa_nil))) pa_nil)) (pa_cons pe_str (pa_cons (pe_tup (pa_cons pe_int (pa_cons pe_int (pa_cons pe_int (pa_cons pe_int pa_nil))))) (pa_cons pe_int (pa_cons pe_int (pa_cons pe_int (pa_cons pe_int pa_nil)))))))) pa_nil)) (pa_cons (pe_call G__law_name (hr.mono (by decide)) (by rfl) F__law_name.g F__law_name.F.kp F__law_name.b .nil pass0 (pa_cons (pv 1) pa_nil)) pa_nil)) (by rfl))
      (pss_cons (ps_if (pt_cmpR op_ne (pe_callB (call_repr_data (hu66 hr) hG) (by rfl) B.n_repr (by decide +kernel) (pa_cons (pe_tup (pa_cons (pe_call G_house_new (hr.mono (by decide)) (by rfl) F_house_new.g F_house_new.F.kp F_house_new.b .nil pass0 (pa_cons (pv 3) pa_nil)) (pa_cons (pe_callKwG (FnG.of G_house_new) (hr.mono (by decide)) hG (by rfl) F_house_new.g F_house_new.F.kp K_house_new_name (pk_cons (pv 3) pk_nil)) pa_nil))) pa_nil)) (pe_callB (call_repr_data (hu66 hr) hG) (by rfl) B.n_repr (by decide +kernel) (pa_cons (pe_tup (pa_cons (pe_tup (pa_cons (pv 3) (pa_cons pe_int (pa_cons pe_bl (pa_cons pe_bl (pa_cons (pe_tup pa_nil) pa_nil)))))) (pa_cons (pe_tup (pa_cons (pv 3) (pa_cons pe_int (pa_cons pe_bl (pa_cons pe_bl (pa_cons (pe_tup pa_nil) pa_nil)))))) pa_nil))) pa_nil)) (nomark _))
      (pss_one (ps_ret pe_bl))
      pss_nil)
      (pss_cons (ps_set (i := 4) sc_law.nd rfl (.inl rfl) (pe_op op_cat (pe_lc (own := [("_law_go", 7)]) rfl sc_law.nd (pi_range1 (by rfl) B.n_range (pa_cons pe_int pa_nil)) (blkOk_by (N := N_law) (sc := defScope s_law) (by decide +kernel)) (fun _ _ _ _ _ => (pg_name (i := 7) sc_law.nd rfl (Or.inl rfl))) (fun _ _ _ _ _ => pts_nil) (fun _ _ _ _ _ => (pe_call G__law_house (hr.mono (by decide)) (by rfl) F__law_house.g F__law_house.F.kp F__law_house.b .nil pass0 (pa_cons (pv 1) pa_nil)))) (pe_lst (pa_cons (pe_tup (pa_cons (pv 3) (pa_cons pe_int (pa_cons pe_bl (pa_cons pe_bl (pa_cons (pe_tup pa_nil) pa_nil)))))) pa_nil))))
      (C8.pss_cut (ps_if (pt_cmpR op_eq (pe_call G__law_draw (hr.mono (by decide)) (by rfl) F__law_draw.g F__law_draw.F.kp F__law_draw.b .nil pass0 (pa_cons (pv 1) (pa_cons pe_int pa_nil))) pe_int (nomark _))
      (pss_cons (ps_setLc (i := 5) (own := [("_law_label", 13)]) rfl sc_law.nd rfl rfl (sw_true rfl rfl rfl (by decide +kernel)) (pi_range2 (by rfl) B.n_range (pa_cons pe_int (pa_cons pe_int pa_nil))) (blkOk_by (N := N_law) (sc := defScope s_law) (by decide +kernel)) (fun _ _ _ _ _ => (pg_name (i := 13) sc_law.nd rfl (Or.inl rfl))) (fun _ _ _ _ _ => pts_nil) (fun _ _ _ _ _ => (pe_call G__law_row (hr.mono (by decide)) (by rfl) F__law_row.g F__law_row.F.kp F__law_row.b .nil pass0 (pa_cons (pv 1) (pa_cons (pv 13) (pa_cons (pe_call G__law_pick (hr.mono (by decide)) (by rfl) F__law_pick.g F__law_pick.F.kp F__law_pick.b .nil pass0 (pa_cons (pv 1) (pa_cons (pe_lst (pa_cons pe_str (pa_cons pe_str (pa_cons pe_str pa_nil)))) pa_nil))) pa_nil))))))
        (pss_one (ps_asg (pe_tup (pa_cons (pv 3) (pa_cons pe_int (pa_cons pe_bl (pa_cons pe_bl (pa_cons (pe_callTy call_tuple_of (by rfl) B.n_tuple (by decide +kernel) (pa_cons (pv 5) pa_nil)) pa_nil)))))) (pg_sub (pv 4) pe_int set_list))))
      pss_nil)
      (pss_cons (ps_for PassesOwn.never rfl (pi_list (pv 4)) (pg_name (i := 6) sc_law.nd rfl (Or.inl rfl))
      (pss_cons (ps_if (PW.pt (pw_or (pt_not (pt_val (pe_callG G__law_is_told (hr.mono (by decide)) hG (by rfl) F__law_is_told.g F__law_is_told.F.kp F__law_is_told.b (pa_cons (pv 6) pa_nil)))) (pw_or1 (pt_not (pt_val (pe_callG G__law_is_told (hr.mono (by decide)) hG (by rfl) F__law_is_told.g F__law_is_told.F.kp F__law_is_told.b (pa_cons (pe_op op_catA (pe_slice sl_tupA (pv 6) po_none (po_some pe_int)) (pe_tup (pa_cons (pe_ix ix_tup (pe_ix ix_list (pv 4) pe_int (fun _ _ => rfl)) pe_int (fun _ _ => rfl)) pa_nil))) pa_nil)))))))
        (pss_one (ps_ret pe_bl))
        pss_nil)
        (pss_one (ps_for PassesOwn.never rfl (pi_range1 (by rfl) B.n_range (pa_cons pe_int pa_nil)) (pg_name (i := 7) sc_law.nd rfl (Or.inl rfl))
        (pss_cons (ps_set (i := 8) sc_law.nd rfl (.inl rfl) (pe_call G__law_near (hr.mono (by decide)) (by rfl) F__law_near.g F__law_near.F.kp F__law_near.b .nil pass0 (pa_cons (pv 1) (pa_cons (pv 6) pa_nil))))
          (pss_cons (ps_set (i := 9) sc_law.nd rfl (.inl rfl) (pe_and (pe_cmpR op_eq (pv 7) pe_int (nomark _)) (pe_one (pe_call G__law_is_house (hr.mono (by decide)) (by rfl) F__law_is_house.g F__law_is_house.F.kp F__law_is_house.b .nil pass0 (pa_cons (pv 8) pa_nil)))))
          (pss_cons (ps_set (i := 8) sc_law.nd rfl (.inl rfl) (pe_ifExp (pt_val (pv 9)) (pe_call G__law_near (hr.mono (by decide)) (by rfl) F__law_near.g F__law_near.F.kp F__law_near.b .nil pass0 (pa_cons (pv 1) (pa_cons (pv 8) pa_nil))) (pv 8)))
          (pss_cons (ps_set (i := 10) sc_law.nd rfl (.inl rfl) (pe_lst (pa_cons (pv 8) (pa_cons (pe_call G__law_bent (hr.mono (by decide)) (by rfl) F__law_bent.g F__law_bent.F.kp F__law_bent.b .nil pass0 (pa_cons (pv 1) (pa_cons (pe_ifExp (pt_cmpR op_lt (pv 7) pe_int (nomark _)) (pv 8) (pv 6)) (pa_cons pe_int pa_nil)))) pa_nil))))
          (pss_one (ps_if (PW.pt (pw_or (pt_not (pt_val (pe_callG G__law_is_told (hr.mono (by decide)) hG (by rfl) F__law_is_told.g F__law_is_told.F.kp F__law_is_told.b (pa_cons (pe_ix ix_list (pv 10) pe_int (fun _ _ => rfl)) pa_nil)))) (pw_or1 (pt_not (pt_val (pe_callG G__law_is_told (hr.mono (by decide)) hG (by rfl) F__law_is_told.g F__law_is_told.F.kp F__law_is_told.b (pa_cons (pe_ix ix_list (pv 10) pe_int (fun _ _ => rfl)) pa_nil)))))))
          (pss_one (ps_ret pe_bl))
          pss_nil))))))))))
      (pss_cons (ps_set (i := 11) sc_law.nd rfl (.inl rfl) (pe_lst (pa_cons (pv 2) (pa_cons (pe_tup (pa_cons (pv 3) (pa_cons pe_int (pa_cons pe_bl (pa_cons pe_bl (pa_cons (pe_tup (pa_cons (pv 2) pa_nil)) pa_nil)))))) (pa_cons (pe_op op_catA (pe_tup (pa_cons (pv 2) pa_nil)) (pe_slice sl_tupA (pe_ix ix_list (pv 4) pe_int (fun _ _ => rfl)) (po_some pe_int) po_none)) (pa_cons pe_non pa_nil))))))
      (pss_cons (ps_for PassesOwn.never rfl (pi_list (pe_op op_cat (pv 11) (pe_lst (pa_cons (pe_call G__law_any (hr.mono (by decide)) (by rfl) F__law_any.g F__law_any.F.kp F__law_any.b .nil pass0 (pa_cons (pv 1) (pa_cons pe_int pa_nil))) (pa_cons (pe_call G__law_any (hr.mono (by decide)) (by rfl) F__law_any.g F__law_any.F.kp F__law_any.b .nil pass0 (pa_cons (pv 1) (pa_cons pe_int pa_nil))) pa_nil))))) (pg_name (i := 12) sc_law.nd rfl (Or.inl rfl))
      (pss_one (ps_if (pt_not (pt_val (pe_callG G__law_is_told (hr.mono (by decide)) hG (by rfl) F__law_is_told.g F__law_is_told.F.kp F__law_is_told.b (pa_cons (pv 12) pa_nil))))
        (pss_one (ps_ret pe_bl))
        pss_nil)))
      (pss_one (ps_ret pe_bl)))))))))), ?_⟩
    refine ⟨_, rfl, a0, sc, rfl, hsc, hn, fun p c H1 hp hc sm1 dk => ?_⟩
    have ann : (.str (Str.ofString "ann") : V) = .str (S [97, 110, 110]) := by decide +kernel
    refine ⟨sz (by show 2 ≤ 16000000; decide), fun T1 hT1 => ?_⟩
    rw [ann]
    have s2 := same_new (o := .tup [.str (S [97, 110, 110]), .int 1]) hT1
    have oT : upd H1 T1 (.tup [.str (S [97, 110, 110]), .int 1]) T1 = some (.tup [.str (S [97, 110, 110]), .int ((1 : Nat) : Int)]) := upd_same
    have dk2 := dk.same s2
    generalize upd H1 T1 (.tup [.str (S [97, 110, 110]), .int 1]) = H2 at s2 oT dk2 ⊢
    refine ⟨sz (by show 1 ≤ 16000000; decide), fun Pq hPq => ?_⟩
    have s3 := same_new (o := .tup [.ref T1]) hPq
    have oP : upd H2 Pq (.tup [.ref T1]) Pq = some (.tup [.ref T1]) := upd_same
    have oT := s3 _ _ oT
    have dk3 := dk2.same s3
    generalize upd H2 Pq (.tup [.ref T1]) = H3 at s3 oT oP dk3 ⊢
    refine ⟨sz (by show 4 ≤ 16000000; decide), fun R hR => ?_⟩
    have s4 := same_new (o := .tup [.int 1, .int 2, .int 1, .int 4]) hR
    have oR : upd H3 R (.tup [.int 1, .int 2, .int 1, .int 4]) R = some (.tup [.int 1, .int 2, .int 1, .int 4]) := upd_same
    have oT := s4 _ _ oT
    have oP := s4 _ _ oP
    have dk4 := dk3.same s4
    generalize upd H3 R (.tup [.int 1, .int 2, .int 1, .int 4]) = H4 at s4 oT oP oR dk4 ⊢
    refine ⟨sz (by show 7 ≤ 16000000; decide), fun a ha => ?_⟩
    have s5 := same_new (o := .tup [.ref Pq, .str (Str.ofString "turns"), .ref R, .int 1, .int 9, .int 5, .int 3]) ha
    have oA : upd H4 a (.tup [.ref Pq, .str (Str.ofString "turns"), .ref R, .int 1, .int 9, .int 5, .int 3]) a = some (.tup [.ref Pq, .str (Str.ofString "turns"), .ref R, .int 1, .int 9, .int 5, .int 3]) := upd_same
    have oT := s5 _ _ oT
    have oP := s5 _ _ oP
    have oR := s5 _ _ oR
    have dk5 := dk4.same s5
    generalize upd H4 a (.tup [.ref Pq, .str (Str.ofString "turns"), .ref R, .int 1, .int 9, .int 5, .int 3]) = H5 at s5 oT oP oR oA dk5 ⊢
    have st : Sett a Pq R T1 H5 := ⟨oA, ⟨oP, ⟨rfl, fun j t e => by
      match j, e with
      | 0, e => cases e; exact ⟨_, rfl, oT⟩
      | j + 1, e => cases e⟩, ⟨by decide, by decide, by decide, by decide, by decide⟩⟩, oR⟩
    refine fun x dx hx hdx hne => ⟨x, dx, a, Pq, R, T1, rfl, st.to ((same_new hdx).trans (same_new (by rw [upd_ne hne.symm]; exact hx))), upd_same, fun fs H6 o6 k6 => ⟨rfl, ?_⟩⟩
    have s6 : Same H5 H6 := fun b o e => k6 b o (by rw [upd_ne (ne_of_none e hx), upd_ne (ne_of_none e hdx)]; exact e) (ne_of_none e hx)
    have dk6 := dk5.same s6
    have nx := dk5.ne hx
    have box : ∀ {H' : Hp}, Kp p c H6 H' → Do K p c H' (.ref x) (.dict []) := fun g => .oth (fun H2 g2 => T.ty H2 x dx fs ((g.trans g2) x _ nx.1 nx.2 o6)) T.kI T.kB T.kS T.kT
    clear s2 s3 s4 s5 s6 oT oP oR oA st hx hdx hne k6 hT1 hPq hR ha dk2 dk3 dk4 dk5 ann
    -- the name
    refine ⟨_, rfl, p, c, rfl, dk6, fun nm H7 hnm g7 => ⟨_, _, rfl, ?_⟩⟩
    -- a new house
    obtain ⟨w1, w2, w3, w4⟩ := (fit_h hnm).shown
    try unfold tSeq
    try dsimp only [gName]
    refine ⟨_, rfl, nm, rfl, hnm, fun t1 e1 H8 s8 _ _ _ ot1 oe1 => ?_⟩
    refine ⟨_, rfl, rfl, nm, rfl, hnm, fun t2 e2 H9 s9 _ _ _ ot2 oe2 => ?_⟩
    have ot1 := s9 _ _ ot1
    have oe1 := s9 _ _ oe1
    have s9 := s8.trans s9
    refine ⟨sz (by show 2 ≤ 16000000; decide), fun t3 h3 => ?_⟩
    have s10 := same_new (o := .tup [.ref t1, .ref t2]) h3
    refine ⟨_, .tuple [hND nm, hND nm], rfl, .tup (SqT.of upd_same) (.cons (.tup (SqT.of (s10 _ _ ot1)) (.cons (.str _) (.cons (.int _) (.cons (.bl _) (.cons (.bl _) (.cons (.tup (SqT.of (s10 _ _ oe1)) .nil) .nil)))))) (.cons (.tup (SqT.of (s10 _ _ ot2)) (.cons (.str _) (.cons (.int _) (.cons (.bl _) (.cons (.bl _) (.cons (.tup (SqT.of (s10 _ _ oe2)) .nil) .nil)))))) .nil)), w1, w2, w3, w4, ?_⟩
    have s10 := s9.trans s10
    generalize upd H9 t3 (.tup [.ref t1, .ref t2]) = H10 at s10 ⊢
    clear ot1 oe1 ot2 oe2 s8 s9 h3
    refine ⟨_, rfl, Nat.zero_le _, fun e1' he1 => ⟨sz (by show 5 ≤ 16000000; decide), fun t1' ht1 => ?_⟩⟩
    have s11 := (same_new (o := .tup []) he1).trans (same_new (o := .tup [.str (S nm), .int 1, .bl true, .bl false, .ref e1']) ht1)
    have oe1 := same_new (o := .tup [.str (S nm), .int 1, .bl true, .bl false, .ref e1']) ht1 e1' _ upd_same
    have ot1 : upd _ t1' (.tup [.str (S nm), .int 1, .bl true, .bl false, .ref e1']) t1' = _ := upd_same (H := upd H10 e1' (.tup []))
    generalize upd (upd H10 e1' (.tup [])) t1' (.tup [.str (S nm), .int 1, .bl true, .bl false, .ref e1']) = H11 at s11 oe1 ot1 ⊢
    refine ⟨_, rfl, Nat.zero_le _, fun e2' he2 => ⟨sz (by show 5 ≤ 16000000; decide), fun t2' ht2 => ?_⟩⟩
    have s12 := (same_new (o := .tup []) he2).trans (same_new (o := .tup [.str (S nm), .int 1, .bl true, .bl false, .ref e2']) ht2)
    have oe2 := same_new (o := .tup [.str (S nm), .int 1, .bl true, .bl false, .ref e2']) ht2 e2' _ upd_same
    have ot2 : upd _ t2' (.tup [.str (S nm), .int 1, .bl true, .bl false, .ref e2']) t2' = _ := upd_same (H := upd H11 e2' (.tup []))
    generalize upd (upd H11 e2' (.tup [])) t2' (.tup [.str (S nm), .int 1, .bl true, .bl false, .ref e2']) = H12 at s12 oe2 ot2 ⊢
    have oe1 := s12 _ _ oe1
    have ot1 := s12 _ _ ot1
    refine ⟨sz (by show 2 ≤ 16000000; decide), fun t3' h3' => ?_⟩
    have s13 := same_new (o := .tup [.ref t1', .ref t2']) h3'
    refine ⟨_, .tuple [hND nm, hND nm], rfl, .tup (SqT.of upd_same) (.cons (.tup (SqT.of (s13 _ _ ot1)) (.cons (.str _) (.cons (.int _) (.cons (.bl _) (.cons (.bl _) (.cons (.tup (SqT.of (s13 _ _ oe1)) .nil) .nil)))))) (.cons (.tup (SqT.of (s13 _ _ ot2)) (.cons (.str _) (.cons (.int _) (.cons (.bl _) (.cons (.bl _) (.cons (.tup (SqT.of (s13 _ _ oe2)) .nil) .nil)))))) .nil)), w1, w2, w3, w4, rfl, _, rfl, ?_⟩
    rw [decide_eq_true rfl]
    refine iteF ?_
    have g13 := g7.trans (Gx.same g7.2 (((s10.trans s11).trans s12).trans s13))
    generalize upd H12 t3' (.tup [.ref t1', .ref t2']) = H13 at g13 ⊢
    clear s10 s11 s12 s13 oe1 ot1 oe2 ot2 he1 ht1 he2 ht2 h3' g7 w1 w2 w3 w4
    -- the houses
    refine ⟨_, rfl, by decide, by decide, fun D hD => ?_⟩
    have nD := g13.2.ne hD
    have hD0 := g13.free dk6 hD
    refine lc_allH (walk_range (lo := 0) (n := (3 : Int).toNat)) (fun H' => Gx p c H6 H') (fun H' _ y => ∃ d, Dg p c (hd1 D (nw H6 H')) y d ∧ bB 12 d = true ∧ shH d = true) (by decide) g13 (fun H' o g => g.put dk6 hD0 nD) ?_ (fun _ _ => trivial) ?_ ?_
    · rintro H' o j y ⟨d, hd, hb⟩
      refine ⟨d, hd.to fun b u n1 n2 e => ?_, hb⟩
      obtain ⟨e1, e2⟩ := hd1_some e
      obtain ⟨e3, e4⟩ := nw_some e2
      exact hd1_of e1 (nw_of e3 (by rw [upd_ne e1]; exact e4))
    · rintro i x Hx Hy xs k hi g hxs ⟨rfl, rfl⟩ hk
      refine ⟨rfl, _, rfl, p, c, rfl, g.2, fun y d H9 g9 hy hG => ?_⟩
      refine hk y H9 ?_ ⟨d, hy.to fun b u n1 n2 e => ?_, hG⟩ (g.trans g9) (g9.1 D _ nD.1 nD.2 hxs)
      · rintro j z ⟨d, hd, hb⟩
        refine ⟨d, hd.to fun b u n1 n2 e => ?_, hb⟩
        obtain ⟨e1, e2⟩ := hd1_some e
        obtain ⟨e3, e4⟩ := nw_some e2
        exact hd1_of e1 (nw_of e3 (g9.1 b u n1 n2 e4))
      · obtain ⟨e1, e2⟩ := nw_some e
        refine hd1_of (fun z => by rw [z, hxs] at e1; cases e1) (nw_of ?_ e2)
        cases h : H6 b with
        | none => rfl
        | some w => rw [g.1 b w n1 n2 h] at e1; cases e1
    rintro H14 xs hl14 hv14 g14 hxs14
    refine ⟨_, rfl, Nat.zero_le _, fun e4 he4 => ⟨sz (by show 5 ≤ 16000000; decide), fun t4 ht4 => ⟨sz (by show 1 ≤ 16000000; decide), fun l4 hl4 => ?_⟩⟩⟩
    have s15 := ((same_new (o := .tup []) he4).trans (same_new (o := .tup [.str (S nm), .int 1, .bl true, .bl false, .ref e4]) ht4)).trans (same_new (o := .lst [.ref t4]) hl4)
    have ot4 : upd _ t4 (.tup [.str (S nm), .int 1, .bl true, .bl false, .ref e4]) t4 = _ := upd_same (H := upd H14 e4 (.tup []))
    have oe4 := same_new (o := .tup [.str (S nm), .int 1, .bl true, .bl false, .ref e4]) ht4 e4 _ upd_same
    have nt4 := (g14.2.same (same_new (o := .tup []) he4)).ne ht4
    have ne4 := g14.2.ne he4
    have sl4 := same_new (o := .lst [.ref t4]) hl4
    have ot4 := sl4 _ _ ot4
    have oe4 := sl4 _ _ oe4
    have ol4 : upd _ l4 (.lst [.ref t4]) l4 = _ := upd_same (H := upd (upd H14 e4 (.tup [])) t4 (.tup [.str (S nm), .int 1, .bl true, .bl false, .ref e4]))
    generalize upd (upd (upd H14 e4 (.tup [])) t4 (.tup [.str (S nm), .int 1, .bl true, .bl false, .ref e4])) l4 (.lst [.ref t4]) = H15 at s15 ot4 oe4 ol4 ⊢
    clear sl4 he4 ht4 hl4
    refine ⟨D, l4, xs, [.ref t4], rfl, rfl, s15 _ _ hxs14, ol4, sz (by simp only [hl14, List.length_cons, List.length_nil]; decide), fun L hL => ?_⟩
    have g15 := g14.trans (Gx.same g14.2 s15)
    have oL := At.new (o := .lst (xs ++ [.ref t4])) g15.2 hL
    have sL := same_new (o := .lst (xs ++ [.ref t4])) hL
    have dk16 := g15.2.same sL
    have nL6 : H6 L = none := g15.free dk6 hL
    have wl : (xs ++ [V.ref t4]).length = 4 := by rw [List.length_append, hl14]; rfl
    have hws : ∀ (i : Nat) y, (xs ++ [V.ref t4])[i]? = some y → Hse p c L (upd H15 L (.lst (xs ++ [.ref t4]))) y := by
      have k : Kp p c H15 (hd1 L (upd H15 L (.lst (xs ++ [.ref t4])))) := fun b o _ _ e => hd1_of (ne_of_none e hL) (sL _ _ e)
      intro i y hy
      rw [List.getElem?_append] at hy
      split at hy
      · obtain ⟨d, hd, hb⟩ := hv14 i y hy
        refine ⟨d, hd.to fun b u n1 n2 e => ?_, hb⟩
        exact k b u n1 n2 (s15 _ _ (nw_some (hd1_some e).2).2)
      · have hm := List.mem_of_getElem? hy
        rw [List.mem_singleton] at hm
        subst hm
        refine ⟨hND nm, .tup ⟨nt4.1, nt4.2, k _ _ nt4.1 nt4.2 ot4⟩ (.cons (.str _) (.cons (.int _) (.cons (.bl _) (.cons (.bl _) (.cons (.tup ⟨ne4.1, ne4.2, k _ _ ne4.1 ne4.2 oe4⟩ .nil) .nil))))), ?_, rfl⟩
        unfold hND
        rw [bB_tup]
        simp only [List.all_cons, List.all_nil, Bool.and_true]
        rw [word_bB hnm]
        rfl
    have k16 : Kp p c H6 (upd H15 L (.lst (xs ++ [.ref t4]))) := g15.kp.trans (.same sL)
    generalize (xs ++ [V.ref t4]) = ws at oL sL dk16 wl hws k16 ⊢
    generalize upd H15 L (.lst ws) = H16 at oL sL dk16 hws k16 ⊢
    clear hv14 g14 hxs14 hl14 ot4 oe4 ol4 nt4 ne4 g15 s15 hL sL hD hD0 nD g13
    refine ⟨fun σ H' => ∃ (x5 x6 x7 x8 x9 x10 x11 x12 x13 : Option V) (ws : List V), σ = [some (.ref a0), some (.ref p), some (.ref x), some (.str (S nm)), some (.ref L), x5, x6, x7, x8, x9, x10, x11, x12, x13] ∧ Kp p c H6 H' ∧ Dk p c H' ∧ At p c H' L (.lst ws) ∧ ws.length = 4 ∧ ∀ (i : Nat) y, ws[i]? = some y → Hse p c L H' y, ?_, ?_⟩
    · refine ⟨_, rfl, p, c, 4, rfl, dk16, by decide, by decide, fun r H17 hr17 g17 => ⟨rfl, _, rfl, ?_⟩⟩
      have k17 := k16.trans g17.kp
      have oL17 := oL.gx g17
      have hws17 : ∀ (i : Nat) y, ws[i]? = some y → Hse p c L H17 y := fun i y hy => (hws i y hy).to (hd_kp g17.kp)
      refine ite2 (fun _ => ?_) (fun _ => ?_)
      · refine ⟨_, _, rfl, ⟨by decide, by decide, by decide, by decide⟩, fun DR hDR => ?_⟩
        have nR := g17.2.ne hDR
        have g17' := Gx.refl g17.2
        refine lc_allH (walk_range (lo := 1) (n := ((13 : Int) - 1).toNat)) (fun H' => Gx p c H17 H') (fun H' _ y => ∃ d, Dg p c (hd1 DR (nw H17 H')) y d ∧ bB 12 d = true ∧ shR d = true) (by decide) g17' (fun H' o g => g.put g17.2 hDR nR) ?_ (fun _ _ => trivial) ?_ ?_
        · rintro H' o j y ⟨d, hd, hb⟩
          refine ⟨d, hd.to fun b u n1 n2 e => ?_, hb⟩
          obtain ⟨e1, e2⟩ := hd1_some e
          obtain ⟨e3, e4⟩ := nw_some e2
          exact hd1_of e1 (nw_of e3 (by rw [upd_ne e1]; exact e4))
        · rintro i z Hx Hy xs k hi g hxs ⟨rfl, rfl⟩ hk
          refine ⟨rfl, _, rfl, _, rfl, _, rfl, sz (by show 3 ≤ 16000000; decide), fun l hl => ?_⟩
          have gl := Gx.new (o := .lst [.str (Str.ofString "open"), .str (Str.ofString "away"), .str (Str.ofString "closed")]) g.2 hl
          refine ⟨p, c, .ref l, rfl, gl.2, .inl ⟨l, _, rfl, At.new g.2 hl, (by show 1 ≤ 3; decide), (by show 3 ≤ 100000; decide), fun r2 x2 H8 hx2 g8 => ?_⟩⟩
          obtain ⟨st, rfl, hok⟩ : ∃ st, x2 = .str st ∧ okSt st := by
            have mem := List.mem_of_getElem? hx2
            simp only [List.mem_cons, List.not_mem_nil, or_false] at mem
            rcases mem with h | h | h
            · exact ⟨_, h, by decide +kernel, by decide +kernel⟩
            · exact ⟨_, h, by decide +kernel, by decide +kernel⟩
            · exact ⟨_, h, by decide +kernel, by decide +kernel⟩
          have hi12 : i < 12 := hi
          have h50 : (10 : Nat) ^ 50 ≥ 1000 := by decide
          refine ⟨p, c, _, st, rfl, g8.2, by omega, hok, fun y d H9 g9 hy hG => ?_⟩
          have g8 := gl.trans g8
          have gg := g8.trans g9
          have hx8 := g8.1 DR _ nR.1 nR.2 hxs
          refine hk y H9 ?_ ⟨d, hy.to fun b u n1 n2 e => ?_, hG⟩ (g.trans gg) (g9.1 DR _ nR.1 nR.2 hx8)
          · rintro j z ⟨d, hd, hb⟩
            refine ⟨d, hd.to fun b u n1 n2 e => ?_, hb⟩
            obtain ⟨e1, e2⟩ := hd1_some e
            obtain ⟨e3, e4⟩ := nw_some e2
            exact hd1_of e1 (nw_of e3 (gg.1 b u n1 n2 e4))
          · obtain ⟨e1, e2⟩ := nw_some e
            refine hd1_of (fun z => by rw [z, hx8] at e1; cases e1) (nw_of ?_ e2)
            cases h : H17 b with
            | none => rfl
            | some w => rw [(g.trans g8).1 b w n1 n2 h] at e1; cases e1
        rintro H18 rs hl18 hv18 g18 hxs18
        obtain ⟨ds, hA, hd1', hd2⟩ := rows_of hv18
        have hdl : ds.length ≤ 12 := by rw [← hA.len, hl18]; decide
        refine ⟨_, rfl, _, rfl, DR, rs, rfl, .inl ⟨SqL.of hxs18, fun tr htr => ⟨sz (by show 5 ≤ 16000000; decide), fun th hth => ?_⟩⟩⟩
        have s19 := same_new (o := .tup rs) htr
        have ntr := g18.2.ne htr
        have otr : upd H18 tr (.tup rs) tr = _ := upd_same
        have g19 := g18.trans (Gx.same g18.2 s19)
        generalize upd H18 tr (.tup rs) = H19 at s19 otr g19 hth ⊢
        have s20 := same_new (o := .tup [.str (S nm), .int 7, .bl true, .bl false, .ref tr]) hth
        have nth := g19.2.ne hth
        have oth : upd H19 th (.tup [.str (S nm), .int 7, .bl true, .bl false, .ref tr]) th = _ := upd_same
        have g20 := g19.trans (Gx.same g19.2 s20)
        have otr := s20 _ _ otr
        generalize upd H19 th (.tup [.str (S nm), .int 7, .bl true, .bl false, .ref tr]) = H20 at s20 oth otr g20 ⊢
        have oL20 := oL17.gx g20
        have oL19 := oL17.gx g19
        have nthL : th ≠ L := fun e => by rw [e, oL19.2.2] at hth; cases hth
        have ntrL : tr ≠ L := fun e => by
          have := oL20.2.2
          rw [← e, otr] at this
          cases this
        refine ⟨_, rfl, L, ws, 2, 2, rfl, rfl, oL20.2.2, by rw [wl]; rfl, ?_⟩
        refine ⟨_, _, _, _, _, _, _, _, _, ws.set 2 (.ref th), rfl, ?_, ?_, ⟨oL.1, oL.2.1, upd_same⟩, by rw [List.length_set]; exact wl, ?_⟩
        · intro b o n1 n2 e
          rw [upd_ne (fun z => by rw [z, nL6] at e; cases e)]
          exact (k17.trans g20.kp) b o n1 n2 e
        · obtain ⟨m', t', cs', q1, q2, q3⟩ := g20.2
          exact ⟨m', t', cs', by rw [upd_ne oL.1.symm]; exact q1, by rw [upd_ne oL.2.1.symm]; exact q2, q3⟩
        · have kS : Kp p c (hd1 L H20) (hd1 L (upd H20 L (.lst (ws.set 2 (.ref th))))) := hd_ap
          intro i y hy
          rw [List.getElem?_set] at hy
          split at hy
          · rename_i h2
            rw [if_pos (by omega)] at hy
            cases hy
            have kk : Kp p c (hd1 DR (nw H17 H18)) (hd1 L H20) := fun b o n1 n2 e => by
              obtain ⟨f1, f2⟩ := hd1_some e
              obtain ⟨f3, f4⟩ := nw_some f2
              exact hd1_of (fun z => by rw [z, oL17.2.2] at f3; cases f3) (s20 _ _ (s19 _ _ f4))
            have a1 : Ax p c L H20 th (.tup [.str (S nm), .int 7, .bl true, .bl false, .ref tr]) := ⟨nth.1, nth.2, hd1_of nthL oth⟩
            have a2 : Ax p c L H20 tr (.tup rs) := ⟨ntr.1, ntr.2, hd1_of ntrL otr⟩
            refine ⟨.tuple [.str (S nm), .int 7, .bool true, .bool false, .tuple ds], .tup (a1.kx kS) (.cons (.str _) (.cons (.int _) (.cons (.bl _) (.cons (.bl _) (.cons (.tup (a2.kx kS) ((hA.to kk).to kS)) .nil))))), ?_, hd2⟩
            rw [bB_tup]
            simp only [List.all_cons, List.all_nil, Bool.and_true]
            rw [word_bB hnm, bB_tup, hd1', decide_eq_true hdl]
            rfl
          · exact ((hws17 i y hy).to (hd_kp g20.kp)).to kS
      · exact ⟨_, _, _, _, _, _, _, _, _, ws, rfl, k17, g17.2, oL17, wl, hws17⟩
    · rintro σ H17 ⟨x5, x6, x7, x8, x9, x10, x11, x12, x13, ws', rfl, k17, dk17, oL17, wl17, hws17⟩
      clear oL dk16 wl hws k16
      -- one thing looked at
      have told : ∀ {H' : Hp} {v : V} {d : PyData} {k : Bool → Hp → Prop}, HsD K p c H' v d → bB 52 d = true → (∀ H2, Same H' H2 → k true H2) → (spTold K) [v] H' (fun u H2 => ∃ b, u = .bl b ∧ k b H2) E0 := fun hd lk q => ⟨p, c, _, _, rfl, hd, lk, fun H2 s => ⟨_, rfl, q H2 s⟩⟩
      have toldG : ∀ {H' : Hp} {v : V} {d : PyData} {m : Nat} {k : Bool → Hp → Prop}, Dg p c H' v d → bB m d = true → m ≤ 52 → (∀ H2, Same H' H2 → k true H2) → (spTold K) [v] H' (fun u H2 => ∃ b, u = .bl b ∧ k b H2) E0 := fun hd lk hm q => ⟨p, c, _, _, rfl, HsD.of hd, bB_mono hm _ (bB_sk _ _ lk), fun H2 s => ⟨_, rfl, q H2 s⟩⟩
      refine ⟨_, rfl, L, rfl, ⟨_, SqL.of oL17.2.2⟩, ?_⟩
      have hw := walk_list (K := K) (a := L) (xs := ws')
      refine for_it2 hw (fun j σ H' => ∃ (x5 x6 x7 x8 x9 x10 x11 x12 x13 : Option V), σ = [some (.ref a0), some (.ref p), some (.ref x), some (.str (S nm)), some (.ref L), x5, x6, x7, x8, x9, x10, x11, x12, x13] ∧ Gx p c H17 H') ?_ ?_ ?_ ?_
      · exact ⟨_, _, _, _, _, _, _, _, _, rfl, Gx.refl dk17⟩
      · rintro j σ H' _ ⟨_, _, _, _, _, _, _, _, _, _, g⟩
        exact SqL.of (oL17.gx g).2.2
      · rintro j y σ Hz H18 hj ⟨x5, x6, x7, x8, x9, x10, x11, x12, x13, rfl, g18⟩ ⟨rfl, hy⟩
        obtain ⟨d, hxd, hbd, hsd⟩ := hws17 j y hy
        have hyd : Dg p c H18 y d := (hxd.to hd_up).to g18.kp
        refine ⟨_, rfl, toldG hyd hbd (by decide) fun H19 s19 => iteF ?_⟩
        have g19 := g18.trans (Gx.same g18.2 s19)
        have hyd := hyd.to (.same s19)
        have hD19 : H19 p ≠ none := by
          obtain ⟨_, _, _, e, _⟩ := g19.2
          rw [e]
          simp
        obtain ⟨y0, hy0⟩ : ∃ y0, ws'[0]? = some y0 := ⟨ws'[0], List.getElem?_eq_getElem (by omega)⟩
        obtain ⟨d', hxd', hbd', hsd'⟩ := hws17 0 y0 hy0
        have hyd' : Dg p c H19 y0 d' := (hxd'.to hd_up).to g19.kp
        obtain ⟨a1, x0, x1, x2, x3, b, ys, e0, e1, e2, e3, rs, rfl, ha, hbt, rfl, k0, k1, k2, k3, hR, hrs⟩ := shH_E (hyd.to dgx) hsd
        obtain ⟨a2, x0', x1', x2', x3', b', ys', e0', e1', e2', e3', rs', rfl, ha', hbt', rfl, _, _, _, _, hR', hrs'⟩ := shH_E (hyd'.to dgx) hsd'
        have hb1 := hbd
        have hb2 := hbd'
        rw [bB_tup, Bool.and_eq_true] at hb1 hb2
        simp only [List.all_cons, List.all_nil, Bool.and_true, Bool.and_eq_true] at hb1 hb2
        obtain ⟨_, b0, b1, b2, b3, _⟩ := hb1
        obtain ⟨_, _, _, _, _, b4⟩ := hb2
        refine ⟨_, rfl, _, rfl, sl_x g19.2 hD19 ha fun a3 H20 s20 h3 => ?_⟩
        have h3 : Ax p c p H20 a3 (.tup (List.take 4 [x0, x1, x2, x3, .ref b])) := by rw [← cutV_to _ 4]; exact h3
        have g20 := g19.trans (Gx.same g19.2 s20)
        have hD20 := Has.gx g19.2 (Gx.same g19.2 s20) hD19
        refine ⟨_, rfl, L, ws', _, _, rfl, rfl, SqL.of (oL17.gx g20).2.2, atI_nat (j := 0) hy0, a2, _, _, _, rfl, rfl, SqT.of (s20 _ _ ha'.at_.2.2), atI_nat (j := 4) rfl, sz (by show 1 ≤ 16000000; decide), fun t ht => ?_⟩
        have s21 := same_new (o := .tup [.ref b']) ht
        have h4 : Ax p c p _ t (.tup [.ref b']) := Ax.new g20.2 hD20 ht
        have g21 := g20.trans (Gx.same g20.2 s21)
        have hD21 := Has.gx g20.2 (Gx.same g20.2 s21) hD20
        have h3 := h3.kx (hd_kp (.same s21))
        generalize upd H20 t (.tup [.ref b']) = H21 at s21 h4 g21 hD21 h3 ⊢
        refine cat_x g21.2 hD21 h3 h4 (by show 4 + 1 ≤ 1000000; decide) fun a5 H22 s22 h5 => ?_
        have g22 := g21.trans (Gx.same g21.2 s22)
        have s1922 := (s20.trans s21).trans s22
        have kk := hd_kp (D := p) (Kp.same (p := p) (c := c) s1922)
        have hnew : Dx p c p H22 (.ref a5) (.tuple [e0, e1, e2, e3, .tuple rs']) := .tup h5 (.cons (k0.to kk) (.cons (k1.to kk) (.cons (k2.to kk) (.cons (k3.to kk) (.cons (.tup (hbt'.kx kk) (hR'.to kk)) .nil)))))
        have hnb : bB 12 (.tuple [e0, e1, e2, e3, .tuple rs']) = true := by
          rw [bB_tup]
          simp only [List.all_cons, List.all_nil, Bool.and_true, b0, b1, b2, b3, b4]
          rfl
        refine toldG (hnew.to hd_up) hnb (by decide) fun H23 s23 => iteF ?_
        have g23 := g22.trans (Gx.same g22.2 s23)
        clear h3 h4 h5 hnew hnb kk s1922 g22 g21 g20 g19 hD21 hD20 hD19 k0 k1 k2 k3 hR hR' ha ha' hbt hbt' b0 b1 b2 b3 b4 hrs hrs' hyd hyd' hxd' hbd' hsd'
        generalize (PyData.tuple [e0, e1, e2, e3, .tuple rs]) = d at hxd hbd hsd
        -- things near it
        refine ⟨_, rfl, by decide, by decide, ?_⟩
        refine for_it2 (walk_range (lo := 0) (n := (7 : Int).toNat)) (fun i σ H' => ∃ (x5 x7 x8 x9 x10 x11 x12 x13 : Option V), σ = [some (.ref a0), some (.ref p), some (.ref x), some (.str (S nm)), some (.ref L), x5, some (.ref a1), x7, x8, x9, x10, x11, x12, x13] ∧ Gx p c H17 H') ⟨_, _, _, _, _, _, _, _, rfl, g23⟩ (fun _ _ _ _ _ => trivial) ?_ ?_
        · rintro i z σ Ha Hq hi ⟨x5, x7, x8, x9, x10, x11, x12, x13, rfl, g24⟩ ⟨rfl, rfl⟩
          have hyd : Dg p c Hq (.ref a1) d := (hxd.to hd_up).to g24.kp
          refine ⟨_, rfl, _, rfl, p, c, .ref a1, d, 12, rfl, g24.2, hyd, hbd, by decide, by decide, hsd, fun v1 d1 H25 g25 hv1 hb1 => ?_⟩
          have hb1 : bB 25 d1 = true := hb1
          have g25 := g24.trans g25
          try unfold tNext
          try dsimp only [gName]
          try unfold tSeq
          try dsimp only
          try unfold tAsg
          refine testE (fun u H' => ∃ b, u = .bl b ∧ Same H25 H' ∧ (b = true → shH d1 = true)) (fun Q' hQ' => ?_) ?_
          · refine ⟨_, rfl, rfl, _, rfl, ite2 (fun _ => ?_) (fun hno => ?_)⟩
            · exact ⟨_, rfl, p, c, v1, skD d1, rfl, hv1.seen, bB_mono (by decide) _ (bB_sk _ _ hb1), fun H' s => hQ' _ _ ⟨_, rfl, s, fun z => shH_sk z⟩⟩
            · exact hQ' _ _ ⟨_, rfl, Same.refl _, fun z => absurd z (by decide)⟩
          rintro _ H26 ⟨good, rfl, s26, hgood⟩
          have g26 := g25.trans (Gx.same g25.2 s26)
          have hv1 := hv1.to (.same s26)
          try unfold tNext
          try dsimp only [gName]
          try unfold tSeq
          try dsimp only
          try unfold tAsg
          refine testE (fun u H' => ∃ d2, Gx p c H17 H' ∧ Dg p c H' u d2 ∧ bB 51 d2 = true) (fun Q' hQ' => ?_) ?_
          · refine ⟨_, rfl, _, rfl, ?_⟩
            cases good with
            | true => exact iteT ⟨_, rfl, _, rfl, p, c, v1, d1, 25, rfl, g26.2, hv1, hb1, by decide, by decide, hgood rfl, fun v2 d2 H' g' h' b' => hQ' _ _ ⟨d2, g26.trans g', h', b'⟩⟩
            | false => exact iteF ⟨_, rfl, hQ' _ _ ⟨d1, g26, hv1, bB_mono (by decide) _ hb1⟩⟩
          rintro v2 H27 ⟨d2, g27, hv2, hb2⟩
          try unfold tNext
          try dsimp only [gName]
          try unfold tSeq
          try dsimp only
          try unfold tAsg
          have hD27 : H27 p ≠ none := by
            obtain ⟨_, _, _, e, _⟩ := g27.2
            rw [e]
            simp
          refine testE (fun u H' => ∃ l v3 d3, u = .ref l ∧ Gx p c H27 H' ∧ At p c H' l (.lst [v2, v3]) ∧ Dg p c H' v3 d3 ∧ bB 52 d3 = true) (fun Q' hQ' => ?_) ?_
          · have bent : ∀ {v : V} {d : PyData}, Dg p c H27 v d → bB 51 d = true → ∀ {k : V → Hp → Prop}, (∀ v3 H', (∃ d3, Gx p c H27 H' ∧ Dg p c H' v3 d3 ∧ bB 52 d3 = true) → k v3 H') → spBent 5 [.ref p, v, .int 4] H27 k E0 := fun {v d} h b {k} q => ⟨p, c, p, _, _, 4, 51, rfl, g27.2, hD27, h.to dgx, b, by decide, by decide, by decide, fun v' d' H' g' h' b' => q v' H' ⟨d', g', h'.to hd_up, b'⟩⟩
            have lst : ∀ v3 H', (∃ d3, Gx p c H27 H' ∧ Dg p c H' v3 d3 ∧ bB 52 d3 = true) → ∀ l, H' l = none → Q' (.ref l) (upd H' l (.lst [v2, v3])) := by
              rintro v3 H' ⟨d3, g', h', b'⟩ l hl
              exact hQ' _ _ ⟨l, v3, d3, rfl, g'.trans (Gx.new g'.2 hl), At.new g'.2 hl, h'.to (.same (same_new hl)), b'⟩
            refine ⟨_, rfl, _, rfl, _, rfl, _, _, rfl, rfl, _, rfl, ite2 (fun _ => ?_) (fun _ => ?_)⟩
            · exact ⟨_, rfl, bent hv2 hb2 fun v3 H' h => ⟨sz (by show 2 ≤ 16000000; decide), fun l hl => lst v3 H' h l hl⟩⟩
            · exact ⟨_, rfl, bent ((hxd.to hd_up).to g27.kp) (bB_mono (by decide) _ hbd) fun v3 H' h => ⟨sz (by show 2 ≤ 16000000; decide), fun l hl => lst v3 H' h l hl⟩⟩
          rintro _ H28 ⟨l, v3, d3, rfl, g28, hl, hv3, hb3⟩
          have hv2 := hv2.to g28.kp
          refine ⟨_, rfl, l, _, _, _, rfl, rfl, SqL.of hl.2.2, atI_nat (j := 0) rfl, toldG hv2 hb2 (by decide) fun H29 s29 => iteF ?_⟩
          refine ⟨_, rfl, l, _, _, _, rfl, rfl, SqL.of (s29 _ _ hl.2.2), atI_nat (j := 1) rfl, toldG (hv3.to (.same s29)) hb3 (by decide) fun H30 s30 => iteF ?_⟩
          exact ⟨_, _, _, _, _, _, _, _, rfl, (g27.trans g28).trans (Gx.same g28.2 (s29.trans s30))⟩
        · rintro σ H24 ⟨x5, x7, x8, x9, x10, x11, x12, x13, rfl, g24⟩
          exact ⟨_, _, _, _, _, _, _, _, _, rfl, g24⟩
      · rintro σ H18 ⟨x5, x6, x7, x8, x9, x10, x11, x12, x13, rfl, g18⟩
        have kx18 := k17.trans g18.kp
        obtain ⟨y0, hy0⟩ : ∃ y0, ws'[0]? = some y0 := ⟨ws'[0], List.getElem?_eq_getElem (by omega)⟩
        obtain ⟨d', hxd', hbd', hsd'⟩ := hws17 0 y0 hy0
        have hyd' : Dg p c H18 y0 d' := (hxd'.to hd_up).to g18.kp
        have hD18 : H18 p ≠ none := by
          obtain ⟨_, _, _, e, _⟩ := g18.2
          rw [e]
          simp
        obtain ⟨a2, x0', x1', x2', x3', b', ys', e0', e1', e2', e3', rs', rfl, ha', hbt', rfl, _, k1, k2, k3, hR', hrs'⟩ := shH_E (hyd'.to dgx) hsd'
        have hb2 := hbd'
        rw [bB_tup, Bool.and_eq_true] at hb2
        simp only [List.all_cons, List.all_nil, Bool.and_true, Bool.and_eq_true] at hb2
        obtain ⟨_, _, b1, b2, b3, b4⟩ := hb2
        refine ⟨_, rfl, _, rfl, _, rfl, sz (by show 1 ≤ 16000000; decide), fun t0 ht0 => ?_⟩
        have s19 := same_new (o := .tup [.ref x]) ht0
        have o0 : Ax p c p _ t0 (.tup [.ref x]) := Ax.new g18.2 hD18 ht0
        have g19 := Gx.same g18.2 s19
        have hD19 := Has.gx g18.2 g19 hD18
        generalize upd H18 t0 (.tup [.ref x]) = H19 at s19 o0 g19 hD19 ⊢
        refine ⟨sz (by show 5 ≤ 16000000; decide), fun t1 ht1 => ?_⟩
        have s20 := same_new (o := .tup [.str (S nm), .int 1, .bl true, .bl false, .ref t0]) ht1
        have o1 : Ax p c p _ t1 (.tup [.str (S nm), .int 1, .bl true, .bl false, .ref t0]) := Ax.new g19.2 hD19 ht1
        have g20 := g19.trans (Gx.same g19.2 s20)
        have hD20 := Has.gx g19.2 (Gx.same g19.2 s20) hD19
        generalize upd H19 t1 (.tup [.str (S nm), .int 1, .bl true, .bl false, .ref t0]) = H20 at s20 o1 g20 hD20 ⊢
        refine ⟨_, rfl, sz (by show 1 ≤ 16000000; decide), fun t2 ht2 => ?_⟩
        have s21 := same_new (o := .tup [.ref x]) ht2
        have o2 : Ax p c p _ t2 (.tup [.ref x]) := Ax.new g20.2 hD20 ht2
        have g21 := g20.trans (Gx.same g20.2 s21)
        have hD21 := Has.gx g20.2 (Gx.same g20.2 s21) hD20
        generalize upd H20 t2 (.tup [.ref x]) = H21 at s21 o2 g21 hD21 ⊢
        refine ⟨_, rfl, L, ws', _, _, rfl, rfl, SqL.of ((oL17.gx g18).gx g21).2.2, atI_nat (j := 0) hy0, _, rfl, ?_⟩
        dsimp only [tNoPart]
        refine sl_x g21.2 hD21 (ha'.kx (hd_kp g21.kp)) fun a3 H22 s22 o3 => ?_
        have o3 : Ax p c p H22 a3 (.tup (List.drop 1 [x0', x1', x2', x3', .ref b'])) := by rw [← cutV_from _ (by show 1 ≤ 5; decide)]; exact o3
        have g22 := g21.trans (Gx.same g21.2 s22)
        have hD22 := Has.gx g21.2 (Gx.same g21.2 s22) hD21
        refine cat_x g22.2 hD22 (o2.kx (hd_kp (.same s22))) o3 (by show 1 + 4 ≤ 1000000; decide) fun a4 H23 s23 o4 => ?_
        have g23 := g22.trans (Gx.same g22.2 s23)
        refine ⟨sz (by show 4 ≤ 16000000; decide), fun lt hlt => ?_⟩
        have s24 := same_new (o := .lst [.ref x, .ref t1, .ref a4, .non]) hlt
        have olt := At.new (o := .lst [.ref x, .ref t1, .ref a4, .non]) g23.2 hlt
        have g24 := g23.trans (Gx.same g23.2 s24)
        generalize upd H23 lt (.lst [.ref x, .ref t1, .ref a4, .non]) = H24 at s24 olt g24 ⊢
        -- two more, any
        refine ⟨_, rfl, _, rfl, p, c, 3, rfl, g24.2, by decide, fun v5 d5 H25 g25 hv5 hb5 => ?_⟩
        have hv5 : Dg p c H25 v5 d5 := hv5.to fun b o _ _ e => (nw_some e).2
        refine ⟨_, rfl, p, c, 2, rfl, g25.2, by decide, fun v6 d6 H26 g26 hv6 hb6 => ?_⟩
        have hv6 : Dg p c H26 v6 d6 := hv6.to fun b o _ _ e => (nw_some e).2
        refine ⟨sz (by show 2 ≤ 16000000; decide), fun l2 hl2 => ?_⟩
        have s27 := same_new (o := .lst [v5, v6]) hl2
        have ol2 : upd H26 l2 (.lst [v5, v6]) l2 = _ := upd_same
        have g2426 := g25.trans g26
        have olt := olt.gx g2426
        have olt := s27 _ _ olt.2.2
        have g27 := g26.trans (Gx.same g26.2 s27)
        generalize upd H26 l2 (.lst [v5, v6]) = H27 at s27 ol2 olt g27 ⊢
        refine ⟨lt, l2, _, _, rfl, rfl, olt, ol2, sz (by show 4 + 2 ≤ 16000000; decide), fun W hW => ⟨W, rfl, ⟨_, SqL.of upd_same⟩, ?_⟩⟩
        have s28 := same_new (o := .lst ([.ref x, .ref t1, .ref a4, .non] ++ [v5, v6])) hW
        have oW := At.new (o := .lst ([.ref x, .ref t1, .ref a4, .non] ++ [v5, v6])) g27.2 hW
        have g28' := g27.trans (Gx.same g27.2 s28)
        have g28 := g28'
        generalize upd H27 W (.lst ([.ref x, .ref t1, .ref a4, .non] ++ [v5, v6])) = HW at s28 oW g28 g28' ⊢
        have k2428 : Kp p c H24 HW := (g25.trans g28).kp
        have k18W : Kp p c H18 HW := g24.kp.trans k2428
        have q0 : At p c HW t0 (.tup [.ref x]) := (o0.at_.kp (.same ((((s20.trans s21).trans s22).trans s23).trans s24))).kp k2428
        have q1 : At p c HW t1 (.tup [.str (S nm), .int 1, .bl true, .bl false, .ref t0]) := (o1.at_.kp (.same (((s21.trans s22).trans s23).trans s24))).kp k2428
        have q4 : At p c HW a4 (.tup [.ref x, x1', x2', x3', .ref b']) := (Ax.at_ o4).kp ((Kp.same s24).trans k2428)
        have bx : Do K p c HW (.ref x) (.dict []) := box (kx18.trans k18W)
        have i1 := (k1.to hd_up).to k18W
        have i2 := (k2.to hd_up).to k18W
        have i3 := (k3.to hd_up).to k18W
        have i4 : Dg p c HW (.ref b') (.tuple rs') := .tup (hbt'.at_.kp k18W) ((hR'.to hd_up).to k18W)
        have hrow : RsD K p c HW (.ref t0) (.tuple [.dict []]) := ⟨.tup q0 (.cons bx .nil), fun ds e => by
          cases e
          exact ⟨t0, _, rfl, q0, rfl, fun i x hx => match i, hx with
            | 0, hx => by cases hx; exact ⟨_, rfl, bx, fun z => by cases z⟩
            | i + 1, hx => by cases hx⟩⟩
        have all : ∀ (j : Nat) y, ([.ref x, .ref t1, .ref a4, .non] ++ [v5, v6] : List V)[j]? = some y → ∃ d, HsD K p c HW y d ∧ bB 52 d = true := by
          intro j y hy
          match j, hy with
          | 0, hy =>
            cases hy
            exact ⟨_, ⟨bx, fun ds e => by cases e⟩, rfl⟩
          | 1, hy =>
            cases hy
            have hA : DoA K p c HW [.str (S nm), .int 1, .bl true, .bl false, .ref t0] [.str (S nm), .int 1, .bool true, .bool false, .tuple [.dict []]] := .cons (.str _) (.cons (.int _) (.cons (.bl _) (.cons (.bl _) (.cons hrow.1 .nil))))
            refine ⟨.tuple [.str (S nm), .int 1, .bool true, .bool false, .tuple [.dict []]], ⟨.tup q1 hA, fun ds e => ?_⟩, ?_⟩
            · cases e
              exact ⟨t1, _, rfl, q1, hA, fun x e hx he => by cases hx; cases he; exact hrow⟩
            · rw [bB_tup]
              simp only [List.all_cons, List.all_nil, Bool.and_true]
              rw [bB_mono (by decide) _ (word_bB hnm)]
              rfl
          | 2, hy =>
            cases hy
            have hA : DoA K p c HW [.ref x, x1', x2', x3', .ref b'] [.dict [], skD e1', skD e2', skD e3', skD (.tuple rs')] := .cons bx (.cons i1.seen (.cons i2.seen (.cons i3.seen (.cons i4.seen .nil))))
            refine ⟨.tuple [.dict [], skD e1', skD e2', skD e3', skD (.tuple rs')], ⟨.tup q4 hA, fun ds e => ?_⟩, ?_⟩
            · cases e
              exact ⟨a4, _, rfl, q4, hA, fun x e hx he => by cases hx; cases he; exact RsD.of i4⟩
            · rw [bB_tup]
              simp only [List.all_cons, List.all_nil, Bool.and_true]
              rw [bB_mono (m := 12) (by decide) _ (bB_sk _ _ b1), bB_mono (m := 12) (by decide) _ (bB_sk _ _ b2), bB_mono (m := 12) (by decide) _ (bB_sk _ _ b3), bB_mono (m := 12) (by decide) _ (bB_sk _ _ b4)]
              rfl
          | 3, hy =>
            cases hy
            exact ⟨_, HsD.of .non, by simp only [skD]; rfl⟩
          | 4, hy =>
            cases hy
            exact ⟨_, HsD.of (hv5.to g28'.kp), bB_mono (m := 12) (by decide) _ (bB_sk _ _ hb5)⟩
          | 5, hy =>
            cases hy
            exact ⟨_, HsD.of (hv6.to (.same (s27.trans s28))), bB_mono (m := 12) (by decide) _ (bB_sk _ _ hb6)⟩
          | j + 6, hy => cases hy
        refine for_it2 (walk_list (K := K) (a := W) (xs := [.ref x, .ref t1, .ref a4, .non] ++ [v5, v6])) (fun j σ H' => ∃ (x5 x6 x7 x8 x9 x10 x11 x12 x13 : Option V), σ = [some (.ref a0), some (.ref p), some (.ref x), some (.str (S nm)), some (.ref L), x5, x6, x7, x8, x9, x10, x11, x12, x13] ∧ Same HW H') ⟨_, _, _, _, _, _, _, _, _, rfl, Same.refl _⟩ ?_ ?_ ?_
        · rintro j σ H' _ ⟨_, _, _, _, _, _, _, _, _, _, s⟩
          exact SqL.of (s _ _ oW.2.2)
        · rintro j y σ Ha Hb hj ⟨x5, x6, x7, x8, x9, x10, x11, x12, x13, rfl, s⟩ ⟨rfl, hy⟩
          obtain ⟨d, hd, hb⟩ := all j y hy
          exact ⟨_, rfl, told (hd.to (.same s)) hb fun H2 s2 => iteF ⟨_, _, _, _, _, _, _, _, _, rfl, s.trans s2⟩⟩
        · rintro σ H' ⟨x5, x6, x7, x8, x9, x10, x11, x12, x13, rfl, s⟩
          exact q _
end
end Ag

end
/-! ## End0 -/
section
set_option linter.all false
set_option maxRecDepth 100000
namespace Ag
open PySem PySem.Spec PyProof.Rows L2
/-! ### the end of a law's row, over FnG -/
/-- the heap at the law's entry: the script alone is known -/
def hScr (K : PySem.W.Frag) (a : Addr) (o : Obj) (xs : List V) : Hp := fun b => if b = a ∧ K.lookup a = none then some (.frz o (.lst xs)) else none
theorem hScr_at {K : PySem.W.Frag} {a b : Addr} {o : Obj} {xs : List V} {u : HO} (h : hScr K a o xs b = some u) : b = a ∧ K.lookup a = none ∧ u = .frz o (.lst xs) := by
  unfold hScr at h
  split at h
  · rename_i c
    exact ⟨c.1, c.2, (Option.some.inj h).symm⟩
  · cases h
theorem hScr_only {K : PySem.W.Frag} {a b : Addr} {o : Obj} {xs : List V} : hScr K a o xs b = none ∨ hScr K a o xs b = some (.frz o (.lst xs)) := by
  cases h : hScr K a o xs b with
  | none => exact .inl rfl
  | some u => exact .inr (by rw [(hScr_at h).2.2])
theorem lawG {P : Program} {w : World} {K : PySem.W.Frag} {mg mb : Str → Option Value} {k : Nat} {fa a : Addr} {fd : FuncData} {x : Str} {sp : Sp} {s₁ : Shared} {vs : List Value} {ns : List Int}
    (KX : K.In s₁.heap) (hns : s₁.heap.Ns mainGlobals mg) (hb : s₁.heap.Ns builtinsNs mb) (hbb : ∀ x : Str, x ≠ "__name__" → mb x = bootBuiltins x) (hlim : s₁.heap.NoLimit) (gens : s₁.gens = #[])
    (ha : s₁.heap.get? a = some { cls := .type "list", data := .seq vs.toArray }) (hi : IntsAre vs ns) (hl : ns.length ≤ sizeLine) (hr : Room k callerA)
    (F : ∀ base : Heap, K.In base → base.Ns mainGlobals mg → FnG P w K mg base k fa fd [x] sp) (hbind : ∀ (s : Shared) (u : Value), BindsTo s fd ⟨[u], []⟩ [(x, u)])
    (hsp : ∀ H : Hp, SqL K H a (ns.map V.int) → sp [.ref a] H (fun v _ => v = .bl true) E0) :
    codeAny (model P w) callerA (.call (.ref fa) ⟨[.ref a], []⟩) (fun r s' => r = .ok (.ret (.bool true)) ∧ OldK s₁.heap s'.heap ∧ s'.os = s₁.os ∧ AllBare s'.gens) s₁ := by
  generalize hH : hScr K a { cls := .type "list", data := .seq vs.toArray } (ns.map V.int) = H
  have at_ : ∀ {b u}, H b = some u → b = a ∧ K.lookup a = none ∧ u = .frz { cls := .type "list", data := .seq vs.toArray } (.lst (ns.map V.int)) := fun h => hScr_at (by rw [hH]; exact h)
  have rv : Vals (ns.map V.int) vs := vals_ints hi
  have hok : HOk P w H s₁.heap := fun b u e => by
    obtain ⟨rfl, _, rfl⟩ := at_ e
    exact ⟨ha, by rw [List.length_map]; exact hl, vs, _, rv, ha⟩
  have sq : SqL K H a (ns.map V.int) := by
    cases hk : K.lookup a with
    | some o =>
      have e := KX a o hk
      rw [ha] at e
      cases e
      exact .inr ⟨_, vs.toArray, _, hk, rfl, rfl, rfl, by rw [List.size_toArray, hi.length]; exact hl, by simpa using rv⟩
    | none => exact .inl (.inr ⟨_, by rw [← hH]; exact if_pos ⟨rfl, hk⟩⟩)
  have keepB : ∀ {b : Addr} {o : Obj}, s₁.heap.get? b = some o → H b = none → (hidT s₁.heap H).get? b = some o := fun e n => hidT_get e n
  have dicts : ∀ {b : Addr} {o : Obj} {es : Array DictEntry} {ep : Nat}, s₁.heap.get? b = some o → o.data = .dict es ep → H b = none := by
    intro b o es ep e d
    cases q : H b with
    | none => rfl
    | some u =>
      obtain ⟨rfl, _, _⟩ := at_ q
      rw [ha] at e
      cases e
      cases d
  have nsB : ∀ {b : Addr} {m : Str → Option Value}, s₁.heap.Ns b m → (hidT s₁.heap H).Ns b m := by
    rintro b m ⟨o, es, ep, e, d, r⟩
    exact ⟨o, es, ep, keepB e (dicts e d), d, r⟩
  have kinB : K.In (hidT s₁.heap H) := by
    intro b o e
    refine keepB (KX b o e) ?_
    cases q : H b with
    | none => rfl
    | some u =>
      obtain ⟨rfl, n, _⟩ := at_ q
      rw [n] at e
      cases e
  have modB : Mod K mg (hidT s₁.heap H) := ⟨kinB, nsB hns, ⟨mb, nsB hb, hbb⟩, hlim.elim fun mc z => ⟨mc, nsB z.1, z.2⟩⟩
  have env : Env0 P w K mg (hidT s₁.heap H) callerA [] s₁ H :=
    ⟨rfl, modB, fun _ _ e => of_hidT e, Nat.le_of_eq (hidT_size s₁.heap H), trivial, (fun b z => by cases z), hok, .of_eq gens⟩
  refine codeAny_mono ((F _ kinB (nsB hns)).run callerA [] s₁ H ⟨[.ref a], []⟩ [.ref a] [.ref a] _ _ hr rfl env (hbind s₁ (.ref a)) (.cons rfl .nil) (hsp H sq)) ?_
  intro r s' h
  match r, h with
  | .error e, h => exact h.elim
  | .ok (.ret u), h =>
    obtain ⟨v, H', os, bare, un, hok', r', rfl⟩ := h
    obtain rfl : u = Value.bool true := r'
    refine ⟨rfl, OldK.of_keep fun b o e => ?_, os, bare⟩
    cases q : H b with
    | none => exact un.keep b o e q (fun z => by cases z) (fun z => by cases z)
    | some u =>
      obtain ⟨rfl, _, rfl⟩ := at_ q
      have e1 := (hok b _ q).1
      have e2 := (hok' b _ (un.frzs b _ _ q)).1
      rw [e] at e1
      rw [Option.some.inj e1]
      exact e2
theorem walkG {l : PySem.W.OpenLaw} {n k : Nat} {q : Program} {loose : List Str} {XP : (Str → Option Value) → Heap → Prop} {YP : World → Heap → Prop} {d : DefRec} {K : Params → PySem.W.Frag} {sp : PySem.W.Frag → Sp} {x : Str}
    (hn : l.most = some n) (hn2 : n ≤ sizeLine) (hdf : d.params.defaults = []) (hr : Room k callerA) (hY : ∀ (w : World) (h : Heap), YP w h → (K w.params).In h)
    (F : ∀ (w : World) (mg : Str → Option Value) (fa : Addr) (h : Heap), (K w.params).In h → h.Ns mainGlobals mg → mg d.name = some (.ref fa) →
      ∃ fd : FuncData, (∀ (s : Shared) (u : Value), BindsTo s fd ⟨[u], []⟩ [(x, u)]) ∧ ∀ base : Heap, (K w.params).In base → base.Ns mainGlobals mg → FnG l.prog w (K w.params) mg base k fa fd [x] (sp (K w.params)))
    (hsp : ∀ (K : PySem.W.Frag) (H : Hp) (a : Addr) (ns : List Int), ns.length ≤ n → SqL K H a (ns.map V.int) → sp K [.ref a] H (fun v _ => v = .bl true) E0) :
    PySem.W.WalkO q loose XP YP l.row.toRowW d [] (fun f vs => PySem.call f vs) := by
  refine Att.attach_call hn hdf ?_
  intro w s₀ s₁ mg mb fa o pm cd doc a vs ns G Y ho hd hcd hmg hobj hints hlen hg
  obtain ⟨fd, hb, hF⟩ := F w mg fa _ (hY w _ Y) G.T.g hmg
  exact lawG (hY w _ Y) G.T.g G.T.b G.T.builtins G.T.nolimit hg hobj hints (Nat.le_trans hlen hn2) hr hF hb (fun H sq => hsp _ H a ns hlen sq)
end Ag

end
/-! ## E -/
section
set_option linter.all false
set_option maxRecDepth 100000
namespace Ag
open PySem PySem.Spec PyProof.Rows L2
theorem vals_app : ∀ {a : List V} {b : List Value} {c : List V} {d : List Value}, Vals a b → Vals c d → Vals (a ++ c) (b ++ d)
  | [], [], _, _, _, h => h
  | _ :: _, _ :: _, _, _, .cons h t, k => .cons h (vals_app t k)
theorem vals_rev : ∀ {a : List V} {b : List Value}, Vals a b → Vals a.reverse b.reverse
  | [], [], _ => .nil
  | _ :: _, _ :: _, .cons h t => by
    rw [List.reverse_cons, List.reverse_cons]
    exact vals_app (vals_rev t) (.cons h .nil)
open SX (S S_len S_cat S_inj)
theorem sqT_lit {K : PySem.W.Frag} {a n : Nat} {d : Option Addr} {its : Array Value} {sl : Array (Option Value)} {xs : List V} (h : K.lookup a = some ⟨.type "tuple", d, .seq its n, sl⟩) (hv : its.size ≤ sizeLine ∧ Vals xs its.toList) (H : Hp) : SqT K H a xs :=
  .inr ⟨_, its, n, h, rfl, rfl, hv.1, hv.2⟩
/-- a written dict's entries, text to place -/
def entS (e : DictEntry) : Option (Str × Addr) := match e.key, e.val with
  | .str x _, .ref a => some (x, a)
  | _, _ => none
theorem ent_find (z : Str) : ∀ (l : List DictEntry) (ps : List (Str × Addr)), l.map entS = ps.map some → (l.find? (·.key.isStr z)).map (·.val) = (ps.lookup z).map Value.ref ∧ l.any (·.refKey) = false
  | [], [], _ => ⟨rfl, rfl⟩
  | [], p :: ps, h => by simp at h
  | e :: l, [], h => by simp at h
  | e :: l, p :: ps, h => by
    rw [List.map_cons, List.map_cons, List.cons.injEq] at h
    obtain ⟨i1, i2⟩ := ent_find z l ps h.2
    obtain ⟨hs, k, v⟩ := e
    have h1 := h.1
    unfold entS at h1
    simp only at h1
    split at h1
    · rename_i x t a
      injection h1 with h1
      subst h1
      have hk : (DictEntry.key ⟨hs, .str x t, .ref a⟩).isStr z = (x == z) := by
        rw [PySem.W.isStr_of]
        rfl
      have hrk : DictEntry.refKey ⟨hs, .str x t, .ref a⟩ = false := rfl
      refine ⟨?_, by rw [List.any_cons, hrk, i2]; rfl⟩
      rw [List.find?_cons, hk]
      by_cases hx : x = z
      · subst hx
        simp [List.lookup]
      · have e1 : (x == z) = false := beq_eq_false_iff_ne.mpr hx
        have e2 : (z == x) = false := beq_eq_false_iff_ne.mpr fun y => hx y.symm
        rw [e1]
        simp only [List.lookup, e2]
        exact i1
    · cases h1
theorem ns_ent {K : PySem.W.Frag} {d : Addr} {es : Array DictEntry} {n : Nat} (h : K.lookup d = some ⟨.type "dict", none, .dict es n, #[]⟩) {ps : List (Str × Addr)} (he : es.toList.map entS = ps.map some) (z : Str) :
    PySem.W.nsIn K d z = some ((ps.lookup z).map Value.ref) := by
  obtain ⟨i1, i2⟩ := ent_find z _ _ he
  unfold PySem.W.nsIn
  rw [h]
  simp only
  cases hf : es.toList.find? (·.key.isStr z) with
  | none =>
    rw [hf] at i1
    simp only
    rw [i2, ← i1]
    rfl
  | some e =>
    rw [hf] at i1
    simp only
    rw [← i1]
    rfl

set_option maxHeartbeats 4000000 in
theorem all_mk {l : PySem.W.OpenLaw} {w : World} {K : PySem.W.Frag} {h : Heap} {mg : Str → Option Value} {fa f0 f1 f2 f3 f4 f5 f6 f7 f8 f9 f10 f11 f12 f13 f14 f15 f16 f17 f18 f19 f20 f21 f22 f23 f24 f25 f26 f27 f28 f29 f30 f31 f32 f33 f34 f35 f36 f37 f38 f39 : Addr} (X : K.In h) (G : h.Ns mainGlobals mg) (hfa : mg "law" = some (.ref fa))
    {od0 an0 od1 an1 od2 an2 od3 an3 od4 an4 od5 an5 od6 an6 od7 an7 od8 an8 od9 an9 od10 an10 od11 an11 od12 an12 od13 an13 od14 an14 od15 an15 od16 an16 od17 an17 od18 an18 od19 an19 od20 an20 od21 an21 od22 an22 od23 an23 od24 an24 od25 an25 od26 an26 od27 an27 od28 an28 od29 an29 od30 an30 od31 an31 od32 an32 od33 an33 od34 an34 od35 an35 od36 an36 od37 an37 od38 an38 od39 an39 : Option Addr} {sl0 sl1 sl2 sl3 sl4 sl5 sl6 sl7 sl8 sl9 sl10 sl11 sl12 sl13 sl14 sl15 sl16 sl17 sl18 sl19 sl20 sl21 sl22 sl23 sl24 sl25 sl26 sl27 sl28 sl29 sl30 sl31 sl32 sl33 sl34 sl35 sl36 sl37 sl38 sl39 : Array (Option Value)} {oc0 kV0 dc0 pm0 ct0 cd0 oc1 kV1 dc1 pm1 ct1 cd1 oc2 kV2 dc2 pm2 ct2 cd2 oc3 kV3 dc3 pm3 ct3 cd3 oc4 kV4 dc4 pm4 ct4 cd4 oc5 kV5 dc5 pm5 ct5 cd5 oc6 kV6 dc6 pm6 ct6 cd6 oc7 kV7 dc7 pm7 ct7 cd7 oc8 kV8 dc8 pm8 ct8 cd8 oc9 kV9 dc9 pm9 ct9 cd9 oc10 kV10 dc10 pm10 ct10 cd10 oc11 kV11 dc11 pm11 ct11 cd11 oc12 kV12 dc12 pm12 ct12 cd12 oc13 kV13 dc13 pm13 ct13 cd13 oc14 kV14 dc14 pm14 ct14 cd14 oc15 kV15 dc15 pm15 ct15 cd15 oc16 kV16 dc16 pm16 ct16 cd16 oc17 kV17 dc17 pm17 ct17 cd17 oc18 kV18 dc18 pm18 ct18 cd18 oc19 kV19 dc19 pm19 ct19 cd19 oc20 kV20 dc20 pm20 ct20 cd20 oc21 kV21 dc21 pm21 ct21 cd21 oc22 kV22 dc22 pm22 ct22 cd22 oc23 kV23 dc23 pm23 ct23 cd23 oc24 kV24 dc24 pm24 ct24 cd24 oc25 kV25 dc25 pm25 ct25 cd25 oc26 kV26 dc26 pm26 ct26 cd26 oc27 kV27 dc27 pm27 ct27 cd27 oc28 kV28 dc28 pm28 ct28 cd28 oc29 kV29 dc29 pm29 ct29 cd29 oc30 kV30 dc30 pm30 ct30 cd30 oc31 kV31 dc31 pm31 ct31 cd31 oc32 kV32 dc32 pm32 ct32 cd32 oc33 kV33 dc33 pm33 ct33 cd33 oc34 kV34 dc34 pm34 ct34 cd34 oc35 kV35 dc35 pm35 ct35 cd35 oc36 kV36 dc36 pm36 ct36 cd36 oc37 kV37 dc37 pm37 ct37 cd37 oc38 kV38 dc38 pm38 ct38 cd38 oc39 kV39 dc39 pm39 ct39 cd39 : Value} {tk0 tk1 tk2 tk3 tk4 tk5 tk6 : Tok}
    (a0 : PySem.W.nsIn K mainGlobals "is_integer" = some (some (.ref f0))) (l0 : K.lookup f0 = some ⟨oc0, od0, .func (PySem.W.fnOf "is_integer" "is_integer" (defArgs s_is_integer) (defBody s_is_integer) (defScope s_is_integer) .none kV0 dc0 pm0 an0 cd0 ct0), sl0⟩) (c0 : PySem.W.codeIn K cd0 "is_integer" = true) (k0 : PySem.W.keepIn K (.ref f0) = true)
    (a1 : PySem.W.nsIn K mainGlobals "is_between" = some (some (.ref f1))) (l1 : K.lookup f1 = some ⟨oc1, od1, .func (PySem.W.fnOf "is_between" "is_between" (defArgs s_is_between) (defBody s_is_between) (defScope s_is_between) .none kV1 dc1 pm1 an1 cd1 ct1), sl1⟩) (c1 : PySem.W.codeIn K cd1 "is_between" = true) (k1 : PySem.W.keepIn K (.ref f1) = true)
    (a2 : PySem.W.nsIn K mainGlobals "is_number" = some (some (.ref f2))) (l2 : K.lookup f2 = some ⟨oc2, od2, .func (PySem.W.fnOf "is_number" "is_number" (defArgs s_is_number) (defBody s_is_number) (defScope s_is_number) .none kV2 dc2 pm2 an2 cd2 ct2), sl2⟩) (c2 : PySem.W.codeIn K cd2 "is_number" = true) (k2 : PySem.W.keepIn K (.ref f2) = true)
    (a3 : PySem.W.nsIn K mainGlobals "is_plain" = some (some (.ref f3))) (l3 : K.lookup f3 = some ⟨oc3, od3, .func (PySem.W.fnOf "is_plain" "is_plain" (defArgs s_is_plain) (defBody s_is_plain) (defScope s_is_plain) .none kV3 dc3 pm3 an3 cd3 ct3), sl3⟩) (c3 : PySem.W.codeIn K cd3 "is_plain" = true) (k3 : PySem.W.keepIn K (.ref f3) = true)
    (a4 : PySem.W.nsIn K mainGlobals "is_decimal" = some (some (.ref f4))) (l4 : K.lookup f4 = some ⟨oc4, od4, .func (PySem.W.fnOf "is_decimal" "is_decimal" (defArgs s_is_decimal) (defBody s_is_decimal) (defScope s_is_decimal) .none kV4 dc4 pm4 an4 cd4 ct4), sl4⟩) (c4 : PySem.W.codeIn K cd4 "is_decimal" = true) (k4 : PySem.W.keepIn K (.ref f4) = true)
    (a5 : PySem.W.nsIn K mainGlobals "is_word" = some (some (.ref f5))) (l5 : K.lookup f5 = some ⟨oc5, od5, .func (PySem.W.fnOf "is_word" "is_word" (defArgs s_is_word) (defBody s_is_word) (defScope s_is_word) .none kV5 dc5 pm5 an5 cd5 ct5), sl5⟩) (c5 : PySem.W.codeIn K cd5 "is_word" = true) (k5 : PySem.W.keepIn K (.ref f5) = true)
    (a6 : PySem.W.nsIn K mainGlobals "are_counted" = some (some (.ref f6))) (l6 : K.lookup f6 = some ⟨oc6, od6, .func (PySem.W.fnOf "are_counted" "are_counted" (defArgs s_are_counted) (defBody s_are_counted) (defScope s_are_counted) .none kV6 dc6 pm6 an6 cd6 ct6), sl6⟩) (c6 : PySem.W.codeIn K cd6 "are_counted" = true) (k6 : PySem.W.keepIn K (.ref f6) = true)
    (a7 : PySem.W.nsIn K mainGlobals "is_rest" = some (some (.ref f7))) (l7 : K.lookup f7 = some ⟨oc7, od7, .func (PySem.W.fnOf "is_rest" "is_rest" (defArgs s_is_rest) (defBody s_is_rest) (defScope s_is_rest) .none kV7 dc7 pm7 an7 cd7 ct7), sl7⟩) (c7 : PySem.W.codeIn K cd7 "is_rest" = true) (k7 : PySem.W.keepIn K (.ref f7) = true)
    (a8 : PySem.W.nsIn K mainGlobals "is_body" = some (some (.ref f8))) (l8 : K.lookup f8 = some ⟨oc8, od8, .func (PySem.W.fnOf "is_body" "is_body" (defArgs s_is_body) (defBody s_is_body) (defScope s_is_body) .none kV8 dc8 pm8 an8 cd8 ct8), sl8⟩) (c8 : PySem.W.codeIn K cd8 "is_body" = true) (k8 : PySem.W.keepIn K (.ref f8) = true)
    (a9 : PySem.W.nsIn K mainGlobals "is_row" = some (some (.ref f9))) (l9 : K.lookup f9 = some ⟨oc9, od9, .func (PySem.W.fnOf "is_row" "is_row" (defArgs s_is_row) (defBody s_is_row) (defScope s_is_row) .none kV9 dc9 pm9 an9 cd9 ct9), sl9⟩) (c9 : PySem.W.codeIn K cd9 "is_row" = true) (k9 : PySem.W.keepIn K (.ref f9) = true)
    (a10 : PySem.W.nsIn K mainGlobals "is_house" = some (some (.ref f10))) (l10 : K.lookup f10 = some ⟨oc10, od10, .func (PySem.W.fnOf "is_house" "is_house" (defArgs s_is_house) (defBody s_is_house) (defScope s_is_house) .none kV10 dc10 pm10 an10 cd10 ct10), sl10⟩) (c10 : PySem.W.codeIn K cd10 "is_house" = true) (k10 : PySem.W.keepIn K (.ref f10) = true)
    (a11 : PySem.W.nsIn K mainGlobals "house_new" = some (some (.ref f11))) (l11 : K.lookup f11 = some ⟨oc11, od11, .func (PySem.W.fnOf "house_new" "house_new" (defArgs s_house_new) (defBody s_house_new) (defScope s_house_new) .none kV11 dc11 pm11 an11 cd11 ct11), sl11⟩) (c11 : PySem.W.codeIn K cd11 "house_new" = true) (k11 : PySem.W.keepIn K (.ref f11) = true)
    (a12 : PySem.W.nsIn K mainGlobals "is_health_rule" = some (some (.ref f12))) (l12 : K.lookup f12 = some ⟨oc12, od12, .func (PySem.W.fnOf "is_health_rule" "is_health_rule" (defArgs s_is_health_rule) (defBody s_is_health_rule) (defScope s_is_health_rule) .none kV12 dc12 pm12 an12 cd12 ct12), sl12⟩) (c12 : PySem.W.codeIn K cd12 "is_health_rule" = true) (k12 : PySem.W.keepIn K (.ref f12) = true)
    (a13 : PySem.W.nsIn K mainGlobals "new_mark" = some (some (.ref f13))) (l13 : K.lookup f13 = some ⟨oc13, od13, .func (PySem.W.fnOf "new_mark" "new_mark" (defArgs s_new_mark) (defBody s_new_mark) (defScope s_new_mark) .none kV13 dc13 pm13 an13 cd13 ct13), sl13⟩) (c13 : PySem.W.codeIn K cd13 "new_mark" = true) (k13 : PySem.W.keepIn K (.ref f13) = true)
    (a14 : PySem.W.nsIn K mainGlobals "is_pool" = some (some (.ref f14))) (l14 : K.lookup f14 = some ⟨oc14, od14, .func (PySem.W.fnOf "is_pool" "is_pool" (defArgs s_is_pool) (defBody s_is_pool) (defScope s_is_pool) .none kV14 dc14 pm14 an14 cd14 ct14), sl14⟩) (c14 : PySem.W.codeIn K cd14 "is_pool" = true) (k14 : PySem.W.keepIn K (.ref f14) = true)
    (a15 : PySem.W.nsIn K mainGlobals "is_share" = some (some (.ref f15))) (l15 : K.lookup f15 = some ⟨oc15, od15, .func (PySem.W.fnOf "is_share" "is_share" (defArgs s_is_share) (defBody s_is_share) (defScope s_is_share) .none kV15 dc15 pm15 an15 cd15 ct15), sl15⟩) (c15 : PySem.W.codeIn K cd15 "is_share" = true) (k15 : PySem.W.keepIn K (.ref f15) = true)
    (a16 : PySem.W.nsIn K mainGlobals "is_settings" = some (some (.ref f16))) (l16 : K.lookup f16 = some ⟨oc16, od16, .func (PySem.W.fnOf "is_settings" "is_settings" (defArgs s_is_settings) (defBody s_is_settings) (defScope s_is_settings) .none kV16 dc16 pm16 an16 cd16 ct16), sl16⟩) (c16 : PySem.W.codeIn K cd16 "is_settings" = true) (k16 : PySem.W.keepIn K (.ref f16) = true)
    (a17 : PySem.W.nsIn K mainGlobals "new_proxy" = some (some (.ref f17))) (l17 : K.lookup f17 = some ⟨oc17, od17, .func (PySem.W.fnOf "new_proxy" "new_proxy" (defArgs s_new_proxy) (defBody s_new_proxy) (defScope s_new_proxy) .none kV17 dc17 pm17 an17 cd17 ct17), sl17⟩) (c17 : PySem.W.codeIn K cd17 "new_proxy" = true) (k17 : PySem.W.keepIn K (.ref f17) = true)
    (a18 : PySem.W.nsIn K mainGlobals "world_new" = some (some (.ref f18))) (l18 : K.lookup f18 = some ⟨oc18, od18, .func (PySem.W.fnOf "world_new" "world_new" (defArgs s_world_new) (defBody s_world_new) (defScope s_world_new) .none kV18 dc18 pm18 an18 cd18 ct18), sl18⟩) (c18 : PySem.W.codeIn K cd18 "world_new" = true) (k18 : PySem.W.keepIn K (.ref f18) = true)
    (a19 : PySem.W.nsIn K mainGlobals "_law_deck" = some (some (.ref f19))) (l19 : K.lookup f19 = some ⟨oc19, od19, .func (PySem.W.fnOf "_law_deck" "_law_deck" (defArgs s__law_deck) (defBody s__law_deck) (defScope s__law_deck) .none kV19 dc19 pm19 an19 cd19 ct19), sl19⟩) (c19 : PySem.W.codeIn K cd19 "_law_deck" = true) (k19 : PySem.W.keepIn K (.ref f19) = true)
    (a20 : PySem.W.nsIn K mainGlobals "_law_draw" = some (some (.ref f20))) (l20 : K.lookup f20 = some ⟨oc20, od20, .func (PySem.W.fnOf "_law_draw" "_law_draw" (defArgs s__law_draw) (defBody s__law_draw) (defScope s__law_draw) .none kV20 dc20 pm20 an20 cd20 ct20), sl20⟩) (c20 : PySem.W.codeIn K cd20 "_law_draw" = true) (k20 : PySem.W.keepIn K (.ref f20) = true)
    (a21 : PySem.W.nsIn K mainGlobals "_law_pick" = some (some (.ref f21))) (l21 : K.lookup f21 = some ⟨oc21, od21, .func (PySem.W.fnOf "_law_pick" "_law_pick" (defArgs s__law_pick) (defBody s__law_pick) (defScope s__law_pick) .none kV21 dc21 pm21 an21 cd21 ct21), sl21⟩) (c21 : PySem.W.codeIn K cd21 "_law_pick" = true) (k21 : PySem.W.keepIn K (.ref f21) = true)
    (a22 : PySem.W.nsIn K mainGlobals "_law_signs" = some (some (.ref f22))) (l22 : K.lookup f22 = some ⟨oc22, od22, .func (PySem.W.fnOf "_law_signs" "_law_signs" (defArgs s__law_signs) (defBody s__law_signs) (defScope s__law_signs) .none kV22 dc22 pm22 an22 cd22 ct22), sl22⟩) (c22 : PySem.W.codeIn K cd22 "_law_signs" = true) (k22 : PySem.W.keepIn K (.ref f22) = true)
    (a23 : PySem.W.nsIn K mainGlobals "_law_text" = some (some (.ref f23))) (l23 : K.lookup f23 = some ⟨oc23, od23, .func (PySem.W.fnOf "_law_text" "_law_text" (defArgs s__law_text) (defBody s__law_text) (defScope s__law_text) .none kV23 dc23 pm23 an23 cd23 ct23), sl23⟩) (c23 : PySem.W.codeIn K cd23 "_law_text" = true) (k23 : PySem.W.keepIn K (.ref f23) = true)
    (a24 : PySem.W.nsIn K mainGlobals "_law_read" = some (some (.ref f24))) (l24 : K.lookup f24 = some ⟨oc24, od24, .func (PySem.W.fnOf "_law_read" "_law_read" (defArgs s__law_read) (defBody s__law_read) (defScope s__law_read) .none kV24 dc24 pm24 an24 cd24 ct24), sl24⟩) (c24 : PySem.W.codeIn K cd24 "_law_read" = true) (k24 : PySem.W.keepIn K (.ref f24) = true)
    (a25 : PySem.W.nsIn K mainGlobals "_law_is_rest" = some (some (.ref f25))) (l25 : K.lookup f25 = some ⟨oc25, od25, .func (PySem.W.fnOf "_law_is_rest" "_law_is_rest" (defArgs s__law_is_rest) (defBody s__law_is_rest) (defScope s__law_is_rest) .none kV25 dc25 pm25 an25 cd25 ct25), sl25⟩) (c25 : PySem.W.codeIn K cd25 "_law_is_rest" = true) (k25 : PySem.W.keepIn K (.ref f25) = true)
    (a26 : PySem.W.nsIn K mainGlobals "_law_is_number" = some (some (.ref f26))) (l26 : K.lookup f26 = some ⟨oc26, od26, .func (PySem.W.fnOf "_law_is_number" "_law_is_number" (defArgs s__law_is_number) (defBody s__law_is_number) (defScope s__law_is_number) .none kV26 dc26 pm26 an26 cd26 ct26), sl26⟩) (c26 : PySem.W.codeIn K cd26 "_law_is_number" = true) (k26 : PySem.W.keepIn K (.ref f26) = true)
    (a27 : PySem.W.nsIn K mainGlobals "_law_is_body" = some (some (.ref f27))) (l27 : K.lookup f27 = some ⟨oc27, od27, .func (PySem.W.fnOf "_law_is_body" "_law_is_body" (defArgs s__law_is_body) (defBody s__law_is_body) (defScope s__law_is_body) .none kV27 dc27 pm27 an27 cd27 ct27), sl27⟩) (c27 : PySem.W.codeIn K cd27 "_law_is_body" = true) (k27 : PySem.W.keepIn K (.ref f27) = true)
    (a28 : PySem.W.nsIn K mainGlobals "_law_body" = some (some (.ref f28))) (l28 : K.lookup f28 = some ⟨oc28, od28, .func (PySem.W.fnOf "_law_body" "_law_body" (defArgs s__law_body) (defBody s__law_body) (defScope s__law_body) .none kV28 dc28 pm28 an28 cd28 ct28), sl28⟩) (c28 : PySem.W.codeIn K cd28 "_law_body" = true) (k28 : PySem.W.keepIn K (.ref f28) = true)
    (a29 : PySem.W.nsIn K mainGlobals "_law_is_word" = some (some (.ref f29))) (l29 : K.lookup f29 = some ⟨oc29, od29, .func (PySem.W.fnOf "_law_is_word" "_law_is_word" (defArgs s__law_is_word) (defBody s__law_is_word) (defScope s__law_is_word) .none kV29 dc29 pm29 an29 cd29 ct29), sl29⟩) (c29 : PySem.W.codeIn K cd29 "_law_is_word" = true) (k29 : PySem.W.keepIn K (.ref f29) = true)
    (a30 : PySem.W.nsIn K mainGlobals "_law_name" = some (some (.ref f30))) (l30 : K.lookup f30 = some ⟨oc30, od30, .func (PySem.W.fnOf "_law_name" "_law_name" (defArgs s__law_name) (defBody s__law_name) (defScope s__law_name) .none kV30 dc30 pm30 an30 cd30 ct30), sl30⟩) (c30 : PySem.W.codeIn K cd30 "_law_name" = true) (k30 : PySem.W.keepIn K (.ref f30) = true)
    (a31 : PySem.W.nsIn K mainGlobals "_law_is_row" = some (some (.ref f31))) (l31 : K.lookup f31 = some ⟨oc31, od31, .func (PySem.W.fnOf "_law_is_row" "_law_is_row" (defArgs s__law_is_row) (defBody s__law_is_row) (defScope s__law_is_row) .none kV31 dc31 pm31 an31 cd31 ct31), sl31⟩) (c31 : PySem.W.codeIn K cd31 "_law_is_row" = true) (k31 : PySem.W.keepIn K (.ref f31) = true)
    (a32 : PySem.W.nsIn K mainGlobals "_law_is_house" = some (some (.ref f32))) (l32 : K.lookup f32 = some ⟨oc32, od32, .func (PySem.W.fnOf "_law_is_house" "_law_is_house" (defArgs s__law_is_house) (defBody s__law_is_house) (defScope s__law_is_house) .none kV32 dc32 pm32 an32 cd32 ct32), sl32⟩) (c32 : PySem.W.codeIn K cd32 "_law_is_house" = true) (k32 : PySem.W.keepIn K (.ref f32) = true)
    (a33 : PySem.W.nsIn K mainGlobals "_law_row" = some (some (.ref f33))) (l33 : K.lookup f33 = some ⟨oc33, od33, .func (PySem.W.fnOf "_law_row" "_law_row" (defArgs s__law_row) (defBody s__law_row) (defScope s__law_row) .none kV33 dc33 pm33 an33 cd33 ct33), sl33⟩) (c33 : PySem.W.codeIn K cd33 "_law_row" = true) (k33 : PySem.W.keepIn K (.ref f33) = true)
    (a34 : PySem.W.nsIn K mainGlobals "_law_house" = some (some (.ref f34))) (l34 : K.lookup f34 = some ⟨oc34, od34, .func (PySem.W.fnOf "_law_house" "_law_house" (defArgs s__law_house) (defBody s__law_house) (defScope s__law_house) .none kV34 dc34 pm34 an34 cd34 ct34), sl34⟩) (c34 : PySem.W.codeIn K cd34 "_law_house" = true) (k34 : PySem.W.keepIn K (.ref f34) = true)
    (a35 : PySem.W.nsIn K mainGlobals "_law_any" = some (some (.ref f35))) (l35 : K.lookup f35 = some ⟨oc35, od35, .func (PySem.W.fnOf "_law_any" "_law_any" (defArgs s__law_any) (defBody s__law_any) (defScope s__law_any) .none kV35 dc35 pm35 an35 cd35 ct35), sl35⟩) (c35 : PySem.W.codeIn K cd35 "_law_any" = true) (k35 : PySem.W.keepIn K (.ref f35) = true)
    (a36 : PySem.W.nsIn K mainGlobals "_law_bent" = some (some (.ref f36))) (l36 : K.lookup f36 = some ⟨oc36, od36, .func (PySem.W.fnOf "_law_bent" "_law_bent" (defArgs s__law_bent) (defBody s__law_bent) (defScope s__law_bent) .none kV36 dc36 pm36 an36 cd36 ct36), sl36⟩) (c36 : PySem.W.codeIn K cd36 "_law_bent" = true) (k36 : PySem.W.keepIn K (.ref f36) = true)
    (a37 : PySem.W.nsIn K mainGlobals "_law_is_told" = some (some (.ref f37))) (l37 : K.lookup f37 = some ⟨oc37, od37, .func (PySem.W.fnOf "_law_is_told" "_law_is_told" (defArgs s__law_is_told) (defBody s__law_is_told) (defScope s__law_is_told) .none kV37 dc37 pm37 an37 cd37 ct37), sl37⟩) (c37 : PySem.W.codeIn K cd37 "_law_is_told" = true) (k37 : PySem.W.keepIn K (.ref f37) = true)
    (a38 : PySem.W.nsIn K mainGlobals "_law_near" = some (some (.ref f38))) (l38 : K.lookup f38 = some ⟨oc38, od38, .func (PySem.W.fnOf "_law_near" "_law_near" (defArgs s__law_near) (defBody s__law_near) (defScope s__law_near) .none kV38 dc38 pm38 an38 cd38 ct38), sl38⟩) (c38 : PySem.W.codeIn K cd38 "_law_near" = true) (k38 : PySem.W.keepIn K (.ref f38) = true)
    (a39 : PySem.W.nsIn K mainGlobals "law" = some (some (.ref f39))) (l39 : K.lookup f39 = some ⟨oc39, od39, .func (PySem.W.fnOf "law" "law" (defArgs s_law) (defBody s_law) (defScope s_law) .none kV39 dc39 pm39 an39 cd39 ct39), sl39⟩) (c39 : PySem.W.codeIn K cd39 "law" = true) (k39 : PySem.W.keepIn K (.ref f39) = true)
    (z0 : PySem.W.nsIn K mainGlobals "len" = some none)
    (z1 : PySem.W.nsIn K mainGlobals "str" = some none)
    (z2 : PySem.W.nsIn K mainGlobals "int" = some none)
    (z3 : PySem.W.nsIn K mainGlobals "isinstance" = some none)
    (z4 : PySem.W.nsIn K mainGlobals "range" = some none)
    (z5 : PySem.W.nsIn K mainGlobals "enumerate" = some none)
    (z6 : PySem.W.nsIn K mainGlobals "tuple" = some none)
    (z7 : PySem.W.nsIn K mainGlobals "list" = some none)
    (z8 : PySem.W.nsIn K mainGlobals "max" = some none)
    (z9 : PySem.W.nsIn K mainGlobals "min" = some none)
    (z10 : PySem.W.nsIn K mainGlobals "sorted" = some none)
    (z11 : PySem.W.nsIn K mainGlobals "repr" = some none)
    (z12 : PySem.W.nsIn K mainGlobals "bool" = some none)
    (z13 : PySem.W.nsIn K mainGlobals "all" = some none)
    (z14 : PySem.W.nsIn K mainGlobals "zip" = some none)
    (x0 : PySem.W.nsIn K mainGlobals "NUMBER_MOST" = some (some (.int 1000000000 tk0)))
    (x1 : PySem.W.nsIn K mainGlobals "BODY_MOST" = some (some (.int 150 tk1)))
    (x2 : PySem.W.nsIn K mainGlobals "TEXT_MOST" = some (some (.int 200 tk2)))
    (x3 : PySem.W.nsIn K mainGlobals "WORD_MOST" = some (some (.int 10 tk3)))
    (x4 : PySem.W.nsIn K mainGlobals "RULE_MOST" = some (some (.int 99 tk4)))
    (x5 : PySem.W.nsIn K mainGlobals "POOL_MOST" = some (some (.int 8 tk5)))
    (x6 : PySem.W.nsIn K mainGlobals "WEIGHT_MOST" = some (some (.int 100 tk6)))
    {odW : Option Addr} {itW : Array Value} {nW : Nat} {slW : Array (Option Value)} {Wa Cb fB : Addr} {ocB kVB dcB pmB cdB ctB : Value} {odB anB : Option Addr} {slB : Array (Option Value)}
    (zs : PySem.W.nsIn K mainGlobals "set" = some none) (w0 : PySem.W.nsIn K mainGlobals "WAYS" = some (some (.ref Wa))) (w1 : K.lookup Wa = some ⟨.type "tuple", odW, .seq itW nW, slW⟩) (w2 : itW.size ≤ sizeLine ∧ Vals [.str "turns", .str "busy", .str "key"] itW.toList)
    (nb0 : PySem.W.nsIn K mainGlobals "Bench" = some (some (.ref Cb))) (nb1 : PySem.W.plainGet K Cb Str.empty = true) (nb2 : PySem.W.hasDictIn K Cb = true) (nb3 : PySem.W.plainOver K Cb = true) (nb4 : PySem.W.findIn K (.ref Cb) "__setattr__" = some (some (.builtin "object.__setattr__")))
    (nb5 : PySem.W.makesIn K Cb = true) (nb6 : PySem.W.findIn K (.ref Cb) "__init__" = some (some (.ref fB))) (nb7 : PySem.W.isFn K (.ref fB) = true) (nb8 : PySem.W.keepIn K (.ref Cb) = true)
    (nb9 : PySem.W.findIn K (.ref Cb) "_worlds" = some none) (nb10 : PySem.W.findIn K (.ref Cb) "_settings" = some none) (nb11 : PySem.W.findIn K (.ref Cb) "_steps" = some none) (nb12 : PySem.W.findIn K (.ref Cb) "_undone" = some none)
    (nb13 : K.lookup fB = some ⟨ocB, odB, .func (PySem.W.fnOf "__init__" "Bench.__init__" (defArgs s_BI) (defBody s_BI) (defScope s_BI) .none kVB dcB pmB anB cdB ctB), slB⟩) (nb14 : PySem.W.codeIn K cdB "Bench.__init__" = true) (nb15 : PySem.W.keepIn K (.ref fB) = true)
    (nb16 : PySem.W.findIn K (.ref Cb) "__class__" = some (some (.builtin "object.__class__"))) (nb17 : PySem.W.specialIn K (.builtin "object.__class__") "__get__" = some (some (.builtin "getset_descriptor.__get__"))) (nb18 : PySem.W.takesIn K (.builtin "object.__class__") = some true) (nb19 : PySem.W.mroIn K Cb (.type "object") = some true)
    (nb20 : PySem.W.subIn K (.ref Cb) (.type "int") = some false) (nb21 : PySem.W.subIn K (.ref Cb) (.type "bool") = some false) (nb22 : PySem.W.subIn K (.ref Cb) (.type "str") = some false) (nb23 : PySem.W.subIn K (.ref Cb) (.type "tuple") = some false)
    :
    ∃ fd : FuncData, (∀ (s : Shared) (v : Value), BindsTo s fd ⟨[v], []⟩ [("_law_script", v)]) ∧ ∀ base : Heap, K.In base → base.Ns mainGlobals mg → FnG l.prog w K mg base 12 fa fd ["_law_script"] (spLaw K) := by
  have e := hfa.symm.trans (PySem.W.mg_of X G a39)
  cases e
  have B : Blt mg := ⟨PySem.W.mg_none_of X G z0, PySem.W.mg_none_of X G z1, PySem.W.mg_none_of X G z2, PySem.W.mg_none_of X G z3, PySem.W.mg_none_of X G z4, PySem.W.mg_none_of X G z5, PySem.W.mg_none_of X G z6, PySem.W.mg_none_of X G z7, PySem.W.mg_none_of X G z8, PySem.W.mg_none_of X G z9, PySem.W.mg_none_of X G z10, PySem.W.mg_none_of X G z11, PySem.W.mg_none_of X G z12, PySem.W.mg_none_of X G z13, PySem.W.mg_none_of X G z14⟩
  have Cn : Con mg tk2 tk0 tk1 := ⟨B, PySem.W.mg_of X G x0, PySem.W.mg_of X G x1, PySem.W.mg_of X G x2⟩
  have U0 := fun_mk (st := s_is_integer) l0 c0 k0
  have b0 := U0.binds (ps := ["thing"]) fun _ _ _ _ _ _ us hl => match us, hl with | [_], _ => rfl
  have F0 : Fn K mg "is_integer" s_is_integer ["thing"] _ _ := ⟨U0, b0, PySem.W.mg_of X G a0⟩
  have U1 := fun_mk (st := s_is_between) l1 c1 k1
  have b1 := U1.binds (ps := ["thing", "least", "most"]) fun _ _ _ _ _ _ us hl => match us, hl with | [_, _, _], _ => rfl
  have F1 : Fn K mg "is_between" s_is_between ["thing", "least", "most"] _ _ := ⟨U1, b1, PySem.W.mg_of X G a1⟩
  have U2 := fun_mk (st := s_is_number) l2 c2 k2
  have b2 := U2.binds (ps := ["thing"]) fun _ _ _ _ _ _ us hl => match us, hl with | [_], _ => rfl
  have F2 : Fn K mg "is_number" s_is_number ["thing"] _ _ := ⟨U2, b2, PySem.W.mg_of X G a2⟩
  have U3 := fun_mk (st := s_is_plain) l3 c3 k3
  have b3 := U3.binds (ps := ["string"]) fun _ _ _ _ _ _ us hl => match us, hl with | [_], _ => rfl
  have F3 : Fn K mg "is_plain" s_is_plain ["string"] _ _ := ⟨U3, b3, PySem.W.mg_of X G a3⟩
  have U4 := fun_mk (st := s_is_decimal) l4 c4 k4
  have b4 := U4.binds (ps := ["string", "most"]) fun _ _ _ _ _ _ us hl => match us, hl with | [_, _], _ => rfl
  have F4 : Fn K mg "is_decimal" s_is_decimal ["string", "most"] _ _ := ⟨U4, b4, PySem.W.mg_of X G a4⟩
  have U5 := fun_mk (st := s_is_word) l5 c5 k5
  have b5 := U5.binds (ps := ["thing"]) fun _ _ _ _ _ _ us hl => match us, hl with | [_], _ => rfl
  have F5 : Fn K mg "is_word" s_is_word ["thing"] _ _ := ⟨U5, b5, PySem.W.mg_of X G a5⟩
  have U6 := fun_mk (st := s_are_counted) l6 c6 k6
  have b6 := U6.binds (ps := ["thing", "most"]) fun _ _ _ _ _ _ us hl => match us, hl with | [_, _], _ => rfl
  have F6 : Fn K mg "are_counted" s_are_counted ["thing", "most"] _ _ := ⟨U6, b6, PySem.W.mg_of X G a6⟩
  have U7 := fun_mk (st := s_is_rest) l7 c7 k7
  have b7 := U7.binds (ps := ["thing"]) fun _ _ _ _ _ _ us hl => match us, hl with | [_], _ => rfl
  have F7 : Fn K mg "is_rest" s_is_rest ["thing"] _ _ := ⟨U7, b7, PySem.W.mg_of X G a7⟩
  have U8 := fun_mk (st := s_is_body) l8 c8 k8
  have b8 := U8.binds (ps := ["thing"]) fun _ _ _ _ _ _ us hl => match us, hl with | [_], _ => rfl
  have F8 : Fn K mg "is_body" s_is_body ["thing"] _ _ := ⟨U8, b8, PySem.W.mg_of X G a8⟩
  have U9 := fun_mk (st := s_is_row) l9 c9 k9
  have b9 := U9.binds (ps := ["thing"]) fun _ _ _ _ _ _ us hl => match us, hl with | [_], _ => rfl
  have F9 : Fn K mg "is_row" s_is_row ["thing"] _ _ := ⟨U9, b9, PySem.W.mg_of X G a9⟩
  have U10 := fun_mk (st := s_is_house) l10 c10 k10
  have b10 := U10.binds (ps := ["thing"]) fun _ _ _ _ _ _ us hl => match us, hl with | [_], _ => rfl
  have F10 : Fn K mg "is_house" s_is_house ["thing"] _ _ := ⟨U10, b10, PySem.W.mg_of X G a10⟩
  have U11 := fun_mk (st := s_house_new) l11 c11 k11
  have b11 := U11.binds (ps := ["name"]) fun _ _ _ _ _ _ us hl => match us, hl with | [_], _ => rfl
  have F11 : Fn K mg "house_new" s_house_new ["name"] _ _ := ⟨U11, b11, PySem.W.mg_of X G a11⟩
  have U12 := fun_mk (st := s_is_health_rule) l12 c12 k12
  have b12 := U12.binds (ps := ["thing"]) fun _ _ _ _ _ _ us hl => match us, hl with | [_], _ => rfl
  have F12 : Fn K mg "is_health_rule" s_is_health_rule ["thing"] _ _ := ⟨U12, b12, PySem.W.mg_of X G a12⟩
  have U13 := fun_mk (st := s_new_mark) l13 c13 k13
  have b13 := U13.binds (ps := ["rule"]) fun _ _ _ _ _ _ us hl => match us, hl with | [_], _ => rfl
  have F13 : Fn K mg "new_mark" s_new_mark ["rule"] _ _ := ⟨U13, b13, PySem.W.mg_of X G a13⟩
  have U14 := fun_mk (st := s_is_pool) l14 c14 k14
  have b14 := U14.binds (ps := ["thing"]) fun _ _ _ _ _ _ us hl => match us, hl with | [_], _ => rfl
  have F14 : Fn K mg "is_pool" s_is_pool ["thing"] _ _ := ⟨U14, b14, PySem.W.mg_of X G a14⟩
  have U15 := fun_mk (st := s_is_share) l15 c15 k15
  have b15 := U15.binds (ps := ["thing"]) fun _ _ _ _ _ _ us hl => match us, hl with | [_], _ => rfl
  have F15 : Fn K mg "is_share" s_is_share ["thing"] _ _ := ⟨U15, b15, PySem.W.mg_of X G a15⟩
  have U16 := fun_mk (st := s_is_settings) l16 c16 k16
  have b16 := U16.binds (ps := ["thing"]) fun _ _ _ _ _ _ us hl => match us, hl with | [_], _ => rfl
  have F16 : Fn K mg "is_settings" s_is_settings ["thing"] _ _ := ⟨U16, b16, PySem.W.mg_of X G a16⟩
  have U17 := fun_mk (st := s_new_proxy) l17 c17 k17
  have b17 := U17.binds (ps := ["settings"]) fun _ _ _ _ _ _ us hl => match us, hl with | [_], _ => rfl
  have F17 : Fn K mg "new_proxy" s_new_proxy ["settings"] _ _ := ⟨U17, b17, PySem.W.mg_of X G a17⟩
  have U18 := fun_mk (st := s_world_new) l18 c18 k18
  have b18 := U18.binds (ps := ["settings"]) fun _ _ _ _ _ _ us hl => match us, hl with | [_], _ => rfl
  have F18 : Fn K mg "world_new" s_world_new ["settings"] _ _ := ⟨U18, b18, PySem.W.mg_of X G a18⟩
  have U19 := fun_mk (st := s__law_deck) l19 c19 k19
  have b19 := U19.binds (ps := ["_law_script"]) fun _ _ _ _ _ _ us hl => match us, hl with | [_], _ => rfl
  have F19 : Fn K mg "_law_deck" s__law_deck ["_law_script"] _ _ := ⟨U19, b19, PySem.W.mg_of X G a19⟩
  have U20 := fun_mk (st := s__law_draw) l20 c20 k20
  have b20 := U20.binds (ps := ["_law_deck_here", "_law_below"]) fun _ _ _ _ _ _ us hl => match us, hl with | [_, _], _ => rfl
  have F20 : Fn K mg "_law_draw" s__law_draw ["_law_deck_here", "_law_below"] _ _ := ⟨U20, b20, PySem.W.mg_of X G a20⟩
  have U21 := fun_mk (st := s__law_pick) l21 c21 k21
  have b21 := U21.binds (ps := ["_law_deck_here", "_law_some"]) fun _ _ _ _ _ _ us hl => match us, hl with | [_, _], _ => rfl
  have F21 : Fn K mg "_law_pick" s__law_pick ["_law_deck_here", "_law_some"] _ _ := ⟨U21, b21, PySem.W.mg_of X G a21⟩
  have U22 := fun_mk (st := s__law_signs) l22 c22 k22
  have b22 := U22.binds (ps := []) fun _ _ _ _ _ _ us hl => match us, hl with | [], _ => rfl
  have F22 : Fn K mg "_law_signs" s__law_signs [] _ _ := ⟨U22, b22, PySem.W.mg_of X G a22⟩
  have U23 := fun_mk (st := s__law_text) l23 c23 k23
  have b23 := U23.binds (ps := ["_law_deck_here", "_law_size"]) fun _ _ _ _ _ _ us hl => match us, hl with | [_, _], _ => rfl
  have F23 : Fn K mg "_law_text" s__law_text ["_law_deck_here", "_law_size"] _ _ := ⟨U23, b23, PySem.W.mg_of X G a23⟩
  have U24 := fun_mk (st := s__law_read) l24 c24 k24
  have b24 := U24.binds (ps := ["_law_rest", "_law_piece"]) fun _ _ _ _ _ _ us hl => match us, hl with | [_, _], _ => rfl
  have F24 : Fn K mg "_law_read" s__law_read ["_law_rest", "_law_piece"] _ _ := ⟨U24, b24, PySem.W.mg_of X G a24⟩
  have U25 := fun_mk (st := s__law_is_rest) l25 c25 k25
  have b25 := U25.binds (ps := ["_law_thing"]) fun _ _ _ _ _ _ us hl => match us, hl with | [_], _ => rfl
  have F25 : Fn K mg "_law_is_rest" s__law_is_rest ["_law_thing"] _ _ := ⟨U25, b25, PySem.W.mg_of X G a25⟩
  have U26 := fun_mk (st := s__law_is_number) l26 c26 k26
  have b26 := U26.binds (ps := ["_law_thing", "_law_low"]) fun _ _ _ _ _ _ us hl => match us, hl with | [_, _], _ => rfl
  have F26 : Fn K mg "_law_is_number" s__law_is_number ["_law_thing", "_law_low"] _ _ := ⟨U26, b26, PySem.W.mg_of X G a26⟩
  have U27 := fun_mk (st := s__law_is_body) l27 c27 k27
  have b27 := U27.binds (ps := ["_law_thing"]) fun _ _ _ _ _ _ us hl => match us, hl with | [_], _ => rfl
  have F27 : Fn K mg "_law_is_body" s__law_is_body ["_law_thing"] _ _ := ⟨U27, b27, PySem.W.mg_of X G a27⟩
  have U28 := fun_mk (st := s__law_body) l28 c28 k28
  have b28 := U28.binds (ps := ["_law_deck_here"]) fun _ _ _ _ _ _ us hl => match us, hl with | [_], _ => rfl
  have F28 : Fn K mg "_law_body" s__law_body ["_law_deck_here"] _ _ := ⟨U28, b28, PySem.W.mg_of X G a28⟩
  have U29 := fun_mk (st := s__law_is_word) l29 c29 k29
  have b29 := U29.binds (ps := ["_law_thing"]) fun _ _ _ _ _ _ us hl => match us, hl with | [_], _ => rfl
  have F29 : Fn K mg "_law_is_word" s__law_is_word ["_law_thing"] _ _ := ⟨U29, b29, PySem.W.mg_of X G a29⟩
  have U30 := fun_mk (st := s__law_name) l30 c30 k30
  have b30 := U30.binds (ps := ["_law_deck_here"]) fun _ _ _ _ _ _ us hl => match us, hl with | [_], _ => rfl
  have F30 : Fn K mg "_law_name" s__law_name ["_law_deck_here"] _ _ := ⟨U30, b30, PySem.W.mg_of X G a30⟩
  have U31 := fun_mk (st := s__law_is_row) l31 c31 k31
  have b31 := U31.binds (ps := ["_law_row_here"]) fun _ _ _ _ _ _ us hl => match us, hl with | [_], _ => rfl
  have F31 : Fn K mg "_law_is_row" s__law_is_row ["_law_row_here"] _ _ := ⟨U31, b31, PySem.W.mg_of X G a31⟩
  have U32 := fun_mk (st := s__law_is_house) l32 c32 k32
  have b32 := U32.binds (ps := ["_law_thing"]) fun _ _ _ _ _ _ us hl => match us, hl with | [_], _ => rfl
  have F32 : Fn K mg "_law_is_house" s__law_is_house ["_law_thing"] _ _ := ⟨U32, b32, PySem.W.mg_of X G a32⟩
  have U33 := fun_mk (st := s__law_row) l33 c33 k33
  have b33 := U33.binds (ps := ["_law_deck_here", "_law_label", "_law_state"]) fun _ _ _ _ _ _ us hl => match us, hl with | [_, _, _], _ => rfl
  have F33 : Fn K mg "_law_row" s__law_row ["_law_deck_here", "_law_label", "_law_state"] _ _ := ⟨U33, b33, PySem.W.mg_of X G a33⟩
  have U34 := fun_mk (st := s__law_house) l34 c34 k34
  have b34 := U34.binds (ps := ["_law_deck_here"]) fun _ _ _ _ _ _ us hl => match us, hl with | [_], _ => rfl
  have F34 : Fn K mg "_law_house" s__law_house ["_law_deck_here"] _ _ := ⟨U34, b34, PySem.W.mg_of X G a34⟩
  have U35 := fun_mk (st := s__law_any) l35 c35 k35
  have b35 := U35.binds (ps := ["_law_deck_here", "_law_deep"]) fun _ _ _ _ _ _ us hl => match us, hl with | [_, _], _ => rfl
  have F35 : Fn K mg "_law_any" s__law_any ["_law_deck_here", "_law_deep"] _ _ := ⟨U35, b35, PySem.W.mg_of X G a35⟩
  have U36 := fun_mk (st := s__law_bent) l36 c36 k36
  have b36 := U36.binds (ps := ["_law_deck_here", "_law_value", "_law_deep"]) fun _ _ _ _ _ _ us hl => match us, hl with | [_, _, _], _ => rfl
  have F36 : Fn K mg "_law_bent" s__law_bent ["_law_deck_here", "_law_value", "_law_deep"] _ _ := ⟨U36, b36, PySem.W.mg_of X G a36⟩
  have U37 := fun_mk (st := s__law_is_told) l37 c37 k37
  have b37 := U37.binds (ps := ["_law_thing"]) fun _ _ _ _ _ _ us hl => match us, hl with | [_], _ => rfl
  have F37 : Fn K mg "_law_is_told" s__law_is_told ["_law_thing"] _ _ := ⟨U37, b37, PySem.W.mg_of X G a37⟩
  have U38 := fun_mk (st := s__law_near) l38 c38 k38
  have b38 := U38.binds (ps := ["_law_deck_here", "_law_house_here"]) fun _ _ _ _ _ _ us hl => match us, hl with | [_, _], _ => rfl
  have F38 : Fn K mg "_law_near" s__law_near ["_law_deck_here", "_law_house_here"] _ _ := ⟨U38, b38, PySem.W.mg_of X G a38⟩
  have U39 := fun_mk (st := s_law) l39 c39 k39
  have b39 := U39.binds (ps := ["_law_script"]) fun _ _ _ _ _ _ us hl => match us, hl with | [_], _ => rfl
  have F39 : Fn K mg "law" s_law ["_law_script"] _ _ := ⟨U39, b39, PySem.W.mg_of X G a39⟩
  have Kh : KwB K (PySem.W.fnOf "is_house" "is_house" (defArgs s_is_house) (defBody s_is_house) (defScope s_is_house) .none kV10 dc10 pm10 an10 cd10 ct10) ["thing"] ["thing"] (fun u => u) (fun u => u) := ⟨fun s ws hl => match ws, hl with | [y0], _ => .of_eq rfl, fun _ r => r⟩
  have Kn : KwB K (PySem.W.fnOf "house_new" "house_new" (defArgs s_house_new) (defBody s_house_new) (defScope s_house_new) .none kV11 dc11 pm11 an11 cd11 ct11) ["name"] ["name"] (fun u => u) (fun u => u) := ⟨fun s ws hl => match ws, hl with | [y0], _ => .of_eq rfl, fun _ r => r⟩
  refine ⟨PySem.W.fnOf "law" "law" (defArgs s_law) (defBody s_law) (defScope s_law) .none kV39 dc39 pm39 an39 cd39 ct39, fun s v => .of_eq rfl, fun base _ _ => ?_⟩
  have C2 : Con2 K mg tk3 tk4 tk5 tk6 Wa := ⟨B, PySem.W.mg_none_of X G zs, PySem.W.mg_of X G x3, PySem.W.mg_of X G x4, PySem.W.mg_of X G x5, PySem.W.mg_of X G x6, PySem.W.mg_of X G w0, sqT_lit w1 w2⟩
  have UB := fun_mk (st := s_BI) nb13 nb14 nb15
  have bB := UB.binds (ps := ["self", "settings"]) fun _ _ _ _ _ _ us hl => match us, hl with | [_, _], _ => rfl
  have TB : BenC K mg Cb fB _ := ⟨PySem.W.mg_of X G nb0, ⟨nb1, nb2, nb3, nb4⟩, ⟨nb5, nb6, nb7, nb8⟩, nb9, nb10, nb11, nb12, UB, bB, fun H x dx fs e => .base (.ins e ⟨nb1, nb2, nb3, nb4⟩ nb16 nb17 nb18 nb19), kit_ref nb20 (by decide +kernel), kit_ref nb21 (by decide +kernel), kit_ref nb22 (by decide +kernel), kit_ref nb23 (by decide +kernel)⟩
  have hset : mg "set" = none := PySem.W.mg_none_of X G zs
  have hwm := PySem.W.mg_of X G x3
  have Gbtw : FnOk l.prog w K mg base CX0 _ _ _ _ _ := ok_btw_D F1 Cn F0
  have Gnum : FnOk l.prog w K mg base CX0 _ _ _ _ _ := ok_num_D F2 Cn F0 F1
  have Gbody : FnOk l.prog w K mg base CX0 _ _ _ _ _ := ok_body_D F8 Cn F3
  have Grest : FnOk l.prog w K mg base CX0 _ _ _ _ _ := ok_rest_D F7 Cn F3 F4
  have Gwd : FnOk l.prog w K mg base CX0 _ _ _ _ _ := ok_word_D F5 Cn hwm
  have Gcnt : FnOk l.prog w K mg base CX0 _ _ _ _ _ := ok_cnt_D hset F6 Cn F1 Gbtw
  have Grow : FnOk l.prog w K mg base CX0 _ _ _ _ _ := ok_row_D F9 Cn F2 Gnum F7 Grest F8 Gbody F6 Gcnt
  have Ghouse : FnOk l.prog w K mg base CX0 _ _ _ _ _ := ok_house_D hset F10 Cn F5 Gwd F2 Gnum F9 Grow
  have Glword : FnOk l.prog w K mg base CX0 _ _ _ _ _ := ok_lword_D F29 Cn
  have Glnum : FnOk l.prog w K mg base CX0 _ _ _ _ _ := ok_lnum_D F26 Cn
  have Glrest : FnOk l.prog w K mg base CX0 _ _ _ _ _ := ok_lrest_D F25 Cn F24
  have Glbody : FnOk l.prog w K mg base CX0 _ _ _ _ _ := ok_lbody_D F27 Cn
  have Glrow : FnOk l.prog w K mg base CX0 _ _ _ _ _ := ok_lrow_D hset F31 Cn F26 Glnum F25 Glrest F27 Glbody
  have Glhouse : FnOk l.prog w K mg base CX0 _ _ _ _ _ := ok_lhouse_D hset F32 Cn F29 Glword F26 Glnum F31 Glrow
  have Gdeck : FnOk l.prog w K mg base CX0 _ _ _ _ _ := ok_deck F19 B
  have Gdraw : FnOk l.prog w K mg base CX0 _ _ _ _ _ := ok_draw F20 B
  have Gpick : FnOk l.prog w K mg base CX0 _ _ _ _ _ := ok_pick F21 B F20
  have Gtext : FnOk l.prog w K mg base CX0 _ _ _ _ _ := ok_text F23 B F20 Gdraw F21 Gpick F22
  have Gmkb : FnOk l.prog w K mg base CX0 _ _ _ _ _ := ok_mkbody F28 F23 Gtext F21 Gpick F20 Gdraw
  have Gname : FnOk l.prog w K mg base CX0 _ _ _ _ _ := ok_name F30 Cn F20 F21
  have GrowM : FnOk l.prog w K mg base CX0 _ _ _ _ _ := ok_rowM F33 Cn F20 F21 F23 Gtext F28 Gmkb
  have GhouseM : FnOk l.prog w K mg base CX0 _ _ _ _ _ := ok_houseM hset F34 Cn F20 F21 F30 F33 GrowM
  have Gany : FnOk l.prog w K mg base CX0 7 _ _ _ _ := ok_any F35 Cn F20 F21 4
  have Gbent : FnOk l.prog w K mg base CX0 10 _ _ _ _ := ok_bent F36 Cn F20 F21 F35 5
  have Gnear : FnOk l.prog w K mg base CX0 _ _ _ _ _ := ok_near F38 Cn F20 F21 F36 Gbent
  have Gtold : FnG l.prog w K mg base _ _ _ _ _ := ok_told F37 Cn F10 Ghouse Kh F32 Glhouse
  have Gword : FnOk l.prog w K mg base CX0 _ _ _ _ _ := ok_is_word F5 C2
  have Gshare : FnOk l.prog w K mg base CX0 _ _ _ _ _ := ok_is_share F15 C2 F5 F0
  have Gpool : FnOk l.prog w K mg base CX0 _ _ _ _ _ := ok_is_pool F14 C2 F15 Gshare
  have Grule : FnOk l.prog w K mg base CX0 _ _ _ _ _ := ok_rule F12 C2 F0
  have Gmark : FnOk l.prog w K mg base CX0 _ _ _ _ _ := ok_newmark F13 F12 Grule
  have Gsett : FnOk l.prog w K mg base CX0 _ _ _ _ _ := ok_settings F16 C2 F14 Gpool F12 Grule F1 Gbtw
  have Gproxy : FnOk l.prog w K mg base CX0 _ _ _ _ _ := ok_newproxy F17 C2 F16 Gsett F13 Gmark
  have Ghn : FnOk l.prog w K mg base CX0 _ _ _ _ _ := ok_housenew F11 C2 F5 Gword
  have Gworld : FnOk l.prog w K mg base CX0 _ _ _ _ _ := ok_worldnew F18 C2 F17 Gproxy F11 Ghn
  have Gbench : FnOk l.prog w K mg base CX0 _ _ _ _ _ := ok_bini TB F18 Gworld
  exact ok_law F39 Cn F19 Gdeck F20 Gdraw F21 Gpick F30 Gname F11 Ghn Kn F34 GhouseM F33 GrowM F37 Gtold F38 Gnear F32 Glhouse F36 Gbent F35 Gany TB Gbench
end Ag

end
/-! ## Tail -/
open PySem PySem.W PyProof.Rows
set_option maxRecDepth 100000 in
set_option maxHeartbeats 0 in
theorem PySem.Challenge.cw_answergate_k06_any_values_as_houses_holds : PySem.Challenge.rw_answergate_k06_any_values_as_houses.Holds := by
  w_on; o_law; k_head; (case hw => w_witness2)
  k_fill
  refine Ag.walkG (l := PySem.Challenge.rw_answergate_k06_any_values_as_houses) (n := 63) (k := 12) (x := "_law_script") (sp := Ag.spLaw) rfl (by decide) rfl ⟨rfl, by decide, by decide⟩ (fun w h Y => PySem.W.kIn_of Y) ?F (fun K H a ns hl hS => ⟨a, ns, rfl, hS, hl, fun _ => rfl⟩)
  case F =>
    intro w mg fa h KX G hmg
    refine' Ag.all_mk KX G hmg ?ya0 ?yl0 ?yc0 ?yk0 ?ya1 ?yl1 ?yc1 ?yk1 ?ya2 ?yl2 ?yc2 ?yk2 ?ya3 ?yl3 ?yc3 ?yk3 ?ya4 ?yl4 ?yc4 ?yk4 ?ya5 ?yl5 ?yc5 ?yk5 ?ya6 ?yl6 ?yc6 ?yk6 ?ya7 ?yl7 ?yc7 ?yk7 ?ya8 ?yl8 ?yc8 ?yk8 ?ya9 ?yl9 ?yc9 ?yk9 ?ya10 ?yl10 ?yc10 ?yk10 ?ya11 ?yl11 ?yc11 ?yk11 ?ya12 ?yl12 ?yc12 ?yk12 ?ya13 ?yl13 ?yc13 ?yk13 ?ya14 ?yl14 ?yc14 ?yk14 ?ya15 ?yl15 ?yc15 ?yk15 ?ya16 ?yl16 ?yc16 ?yk16 ?ya17 ?yl17 ?yc17 ?yk17 ?ya18 ?yl18 ?yc18 ?yk18 ?ya19 ?yl19 ?yc19 ?yk19 ?ya20 ?yl20 ?yc20 ?yk20 ?ya21 ?yl21 ?yc21 ?yk21 ?ya22 ?yl22 ?yc22 ?yk22 ?ya23 ?yl23 ?yc23 ?yk23 ?ya24 ?yl24 ?yc24 ?yk24 ?ya25 ?yl25 ?yc25 ?yk25 ?ya26 ?yl26 ?yc26 ?yk26 ?ya27 ?yl27 ?yc27 ?yk27 ?ya28 ?yl28 ?yc28 ?yk28 ?ya29 ?yl29 ?yc29 ?yk29 ?ya30 ?yl30 ?yc30 ?yk30 ?ya31 ?yl31 ?yc31 ?yk31 ?ya32 ?yl32 ?yc32 ?yk32 ?ya33 ?yl33 ?yc33 ?yk33 ?ya34 ?yl34 ?yc34 ?yk34 ?ya35 ?yl35 ?yc35 ?yk35 ?ya36 ?yl36 ?yc36 ?yk36 ?ya37 ?yl37 ?yc37 ?yk37 ?ya38 ?yl38 ?yc38 ?yk38 ?ya39 ?yl39 ?yc39 ?yk39 ?yz0 ?yz1 ?yz2 ?yz3 ?yz4 ?yz5 ?yz6 ?yz7 ?yz8 ?yz9 ?yz10 ?yz11 ?yz12 ?yz13 ?yz14 ?yx0 ?yx1 ?yx2 ?yx3 ?yx4 ?yx5 ?yx6 ?yzs ?yw0 ?yw1 ?yw2 ?ynb0 ?ynb1 ?ynb2 ?ynb3 ?ynb4 ?ynb5 ?ynb6 ?ynb7 ?ynb8 ?ynb9 ?ynb10 ?ynb11 ?ynb12 ?ynb13 ?ynb14 ?ynb15 ?ynb16 ?ynb17 ?ynb18 ?ynb19 ?ynb20 ?ynb21 ?ynb22 ?ynb23
    (case ya0 => k_is); (case yl0 => k_is); (case yc0 => k_is); (case yk0 => k_is)
    (case ya1 => k_is); (case yl1 => k_is); (case yc1 => k_is); (case yk1 => k_is)
    (case ya2 => k_is); (case yl2 => k_is); (case yc2 => k_is); (case yk2 => k_is)
    (case ya3 => k_is); (case yl3 => k_is); (case yc3 => k_is); (case yk3 => k_is)
    (case ya4 => k_is); (case yl4 => k_is); (case yc4 => k_is); (case yk4 => k_is)
    (case ya5 => k_is); (case yl5 => k_is); (case yc5 => k_is); (case yk5 => k_is)
    (case ya6 => k_is); (case yl6 => k_is); (case yc6 => k_is); (case yk6 => k_is)
    (case ya7 => k_is); (case yl7 => k_is); (case yc7 => k_is); (case yk7 => k_is)
    (case ya8 => k_is); (case yl8 => k_is); (case yc8 => k_is); (case yk8 => k_is)
    (case ya9 => k_is); (case yl9 => k_is); (case yc9 => k_is); (case yk9 => k_is)
    (case ya10 => k_is); (case yl10 => k_is); (case yc10 => k_is); (case yk10 => k_is)
    (case ya11 => k_is); (case yl11 => k_is); (case yc11 => k_is); (case yk11 => k_is)
    (case ya12 => k_is); (case yl12 => k_is); (case yc12 => k_is); (case yk12 => k_is)
    (case ya13 => k_is); (case yl13 => k_is); (case yc13 => k_is); (case yk13 => k_is)
    (case ya14 => k_is); (case yl14 => k_is); (case yc14 => k_is); (case yk14 => k_is)
    (case ya15 => k_is); (case yl15 => k_is); (case yc15 => k_is); (case yk15 => k_is)
    (case ya16 => k_is); (case yl16 => k_is); (case yc16 => k_is); (case yk16 => k_is)
    (case ya17 => k_is); (case yl17 => k_is); (case yc17 => k_is); (case yk17 => k_is)
    (case ya18 => k_is); (case yl18 => k_is); (case yc18 => k_is); (case yk18 => k_is)
    (case ya19 => k_is); (case yl19 => k_is); (case yc19 => k_is); (case yk19 => k_is)
    (case ya20 => k_is); (case yl20 => k_is); (case yc20 => k_is); (case yk20 => k_is)
    (case ya21 => k_is); (case yl21 => k_is); (case yc21 => k_is); (case yk21 => k_is)
    (case ya22 => k_is); (case yl22 => k_is); (case yc22 => k_is); (case yk22 => k_is)
    (case ya23 => k_is); (case yl23 => k_is); (case yc23 => k_is); (case yk23 => k_is)
    (case ya24 => k_is); (case yl24 => k_is); (case yc24 => k_is); (case yk24 => k_is)
    (case ya25 => k_is); (case yl25 => k_is); (case yc25 => k_is); (case yk25 => k_is)
    (case ya26 => k_is); (case yl26 => k_is); (case yc26 => k_is); (case yk26 => k_is)
    (case ya27 => k_is); (case yl27 => k_is); (case yc27 => k_is); (case yk27 => k_is)
    (case ya28 => k_is); (case yl28 => k_is); (case yc28 => k_is); (case yk28 => k_is)
    (case ya29 => k_is); (case yl29 => k_is); (case yc29 => k_is); (case yk29 => k_is)
    (case ya30 => k_is); (case yl30 => k_is); (case yc30 => k_is); (case yk30 => k_is)
    (case ya31 => k_is); (case yl31 => k_is); (case yc31 => k_is); (case yk31 => k_is)
    (case ya32 => k_is); (case yl32 => k_is); (case yc32 => k_is); (case yk32 => k_is)
    (case ya33 => k_is); (case yl33 => k_is); (case yc33 => k_is); (case yk33 => k_is)
    (case ya34 => k_is); (case yl34 => k_is); (case yc34 => k_is); (case yk34 => k_is)
    (case ya35 => k_is); (case yl35 => k_is); (case yc35 => k_is); (case yk35 => k_is)
    (case ya36 => k_is); (case yl36 => k_is); (case yc36 => k_is); (case yk36 => k_is)
    (case ya37 => k_is); (case yl37 => k_is); (case yc37 => k_is); (case yk37 => k_is)
    (case ya38 => k_is); (case yl38 => k_is); (case yc38 => k_is); (case yk38 => k_is)
    (case ya39 => k_is); (case yl39 => k_is); (case yc39 => k_is); (case yk39 => k_is)
    (case yz0 => k_is); (case yz1 => k_is); (case yz2 => k_is); (case yz3 => k_is); (case yz4 => k_is); (case yz5 => k_is); (case yz6 => k_is); (case yz7 => k_is); (case yz8 => k_is); (case yz9 => k_is); (case yz10 => k_is); (case yz11 => k_is); (case yz12 => k_is); (case yz13 => k_is); (case yz14 => k_is)
    (case yx0 => k_is); (case yx1 => k_is); (case yx2 => k_is); (case yx3 => k_is); (case yx4 => k_is); (case yx5 => k_is); (case yx6 => k_is)
    (case yzs => k_is)
    (case yw0 => k_is)
    (case yw1 => k_is)
    (case yw2 => exact ⟨by decide, .cons ⟨_, rfl⟩ (.cons ⟨_, rfl⟩ (.cons ⟨_, rfl⟩ .nil))⟩)
    (case ynb0 => k_is)
    (case ynb1 => k_is)
    (case ynb2 => k_is)
    (case ynb3 => k_is)
    (case ynb4 => k_is)
    (case ynb5 => k_is)
    (case ynb6 => k_is)
    (case ynb7 => k_is)
    (case ynb8 => k_is)
    (case ynb9 => k_is)
    (case ynb10 => k_is)
    (case ynb11 => k_is)
    (case ynb12 => k_is)
    (case ynb13 => k_is)
    (case ynb14 => k_is)
    (case ynb15 => k_is)
    (case ynb16 => k_is)
    (case ynb17 => k_is)
    (case ynb18 => k_is)
    (case ynb19 => k_is)
    (case ynb20 => k_is)
    (case ynb21 => k_is)
    (case ynb22 => k_is)
    (case ynb23 => k_is)

