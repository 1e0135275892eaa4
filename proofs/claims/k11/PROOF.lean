import PyProof.Rows.All
import Wide.All
import OpenK.AllK
import Wide.FinOn
import HandS.ForMost
import HandS.IsInst
import HandS.FStr
import HandS.StrMore
import HandS.Style
import HandS.SortInts
import HandS.Wide
import HandS.TupAny
import HandS.TupMul
import PyProof.StrBlock2
import PyProof.ReprRoads
import PyProof.ReprText
import HandS.Codes
import HandS.Walk
import PyProof.Draws
import PyProof.EnumFor
import PyProof.EnumMake
import PyProof.ListStr
import HandS.Conv
import KE.KExcInit
import HandS.ExcInit
import HandS.ExcField
import PyProof.P3In
import PyProof.ReprBulk
import PyProof.EqAt
import PyProof.EqKinds
import PyProof.FactsAll.subtypes_3
import PyProof.FactsAll.subtypes_4
import PyProof.FactsAll.dict_1
import HandS.Strs
import HandS.SetFor
import PyProof.SetRoads
import HandS.Star
import HandS.WordsExc
import HandS.ExcOwn
import PySem.Challenge.RW_answergate_k11_any_value_as_a_view
set_option Elab.async false
/-! ## Base0 -/
section
set_option linter.all false
set_option maxRecDepth 100000
namespace Ag
open PySem PySem.Spec PyProof.Rows L2
/-! ### a def's promise where it is known that no repr runs around the call -/
structure FnG (P : Program) (w : World) (K : PySem.W.Frag) (mg : Str → Option Value) (base : Heap) (k : Nat) (f : Addr) (fd : FuncData) (ps : List Str) (sp : Sp) : Prop where
  len : ∀ vs H Q E, sp vs H Q E → vs.length = ps.length
  run : ∀ (A : Around) (outer : List Env) (s : Shared) (H : Hp) (args : Args) (us : List Value) (vs : List V) (Q : VK) (E : XK), Room k A → A.guards = some [] →
    Env0 P w K mg base A outer s H → BindsTo s fd args (ps.zip us) → Vals vs us → sp vs H Q E → codeAny (model P w) A (.call (.ref f) args) (CR CX0 outer P w H s Q E) s
theorem FnG.of {P : Program} {w : World} {K : PySem.W.Frag} {mg : Str → Option Value} {base : Heap} {k : Nat} {f : Addr} {fd : FuncData} {ps : List Str} {sp : Sp} (F : FnOk P w K mg base CX0 k f fd ps sp) :
    FnG P w K mg base k f fd ps sp := ⟨F.len, fun A outer s H args us vs Q E hr _ => F.run A outer s H args us vs Q E hr⟩
theorem g_deeper {A : Around} {env : Env} (h : A.guards = some []) : (A.deeper env).guards = some [] := by
  first | exact h | (simp [Around.deeper, h])
section
variable {P : Program} {w : World} {K : PySem.W.Frag} {mg : Str → Option Value} {base : Heap}
theorem okG {x qual : Str} {st : Stmt} {f : Addr} {fd : FuncData} {N ps : List Str} {k : Nat} {sp : Sp} (F : Fun K x qual st f fd) (S : FnScope N ps (defScope st))
    (len : ∀ vs H Q E, sp vs H Q E → vs.length = ps.length)
    (hbody : ∀ (cdv : Value) (A : Around) (outer : List Env) (s : Shared) (H : Hp) (vs : List V) (Q : VK) (E : XK), Room k (A.deeper (envOfC qual (defScope st) s.heap.objs.size f cdv)) →
      (A.deeper (envOfC qual (defScope st) s.heap.objs.size f cdv)).guards = some [] → sp vs H Q E →
      ∃ t, PSs (cxOf CX0 P w K mg base N qual (defScope st) f cdv A outer s H E).nox (defBody st) t ∧ t { nx := fun _ H' => Q .non H', rt := Q } (start N vs) H) :
    FnG P w K mg base (k + 1) f fd ps sp := by
  obtain ⟨oc, od, kV, doc, pm, an, cdv, ct, osl, rfl, lk, hcd⟩ := F.ex
  refine ⟨len, ?_⟩
  intro A outer s H args us vs Q E hr hg env0 hb rel hsp
  have hlen := len vs H Q E hsp
  have below : ∀ b o, base.get? b = some o → s.heap.get? b = some o := fun b o e => (env0.bs b o e).1
  have KX : K.In s.heap := env0.mod.kin.keeps below
  have noLim : s.heap.NoLimit := env0.mod.nolimit.keeps below
  have kinds : ∀ y ∈ ps.zip us, (defScope st).names.lookup y.1 = some .local ∨ ((defScope st).names.lookup y.1 = some .cell ∧ ((cellsFrom (s.heap.objs.size + 1) (defScope st).names []).lookup y.1).isSome = true) := by
    rintro ⟨n, v⟩ hy
    exact (S.par n (List.of_mem_zip hy).1).imp id fun q => ⟨q, PySem.W.cellsFrom_some _ _ _ (.inl q)⟩
  refine codeAny_call_function hr.depth (KX f _ lk) rfl S.co S.gen rfl (PySem.W.codeRec_of KX hcd) (hb _ _ _ _ (wpAny_newFunctionEnv_cells S.kind kinds ?_))
  intro env he s1 x
  subst he
  refine ⟨noLim.keeps x.toInCall.keep, codeAny_func ?_⟩
  obtain ⟨t, ht, hq⟩ := hbody cdv A outer s H vs Q E (hr.deeper _) (g_deeper hg) hsp
  have I := inv_start (CX := CX0) (E := E) S hr.hd env0 hlen rel x
  refine wpAny_mono (ht.nox.run [] s1 (start N vs) H _ I hq) (fun fl s' hs => ?_) (fun e s' hs => hs)
  cases fl with
  | brk => exact hs.elim fun _ z => z.elim fun _ z => z.2.elim
  | cont => exact hs.elim fun _ z => z.elim fun _ z => z.2.elim
  | next =>
    obtain ⟨σ', H', J, q⟩ := hs
    exact ⟨.non, H', J.os, J.bare, J.base, J.hok, rfl, q⟩
  | ret u =>
    obtain ⟨v, σ', H', J, rv, q⟩ := hs
    exact ⟨v, H', J.os, J.bare, J.base, J.hok, rv, q⟩
end
section
variable {X : Cx} {k : Nat} {f : Addr} {fd : FuncData} {ps : List Str} {sp : Sp} {x : Str} {p pos : Pos} {e : Expr} {es : List Expr} {t : TA}
theorem run_G {pins : List (Addr × Obj)} {σ : L2.St} {H : Hp} {s : Shared} {Q : VK} {us : List Value} {vs : List V} {args : Args} (F : FnG X.prog X.w X.K X.mg X.base k f fd ps sp) (hr : Room k X.A) (hG : X.A.guards = some [])
    (I : Inv X pins σ H s) (hb : BindsTo s fd args (ps.zip us)) (r : Vals vs us) (h : sp vs H Q E0) : codeAny (model X.prog X.w) X.A (.call (.ref f) args) (fun r s' => ∃ u, r = .ok (.ret u) ∧ EP X pins σ Q u s') s := by
  refine codeAny_mono (F.run X.A X.stack s H args us vs Q E0 hr hG I.env0 hb r h) ?_
  intro r s' hq
  match r, hq with
  | .error e, hq => exact hq.elim
  | .ok (.ret u), hq => exact ⟨u, rfl, I.after hq⟩
/-- f(e, ..) -/
theorem pe_callG (F : FnG X.prog X.w X.K X.mg X.base k f fd ps sp) (hr : Room k X.A) (hG : X.A.guards = some []) (hg : Gl X x) (hm : X.mg x = some (.ref f)) (hk : PySem.W.keepIn X.K (.ref f) = true) (hb : Binds X.K fd ps [])
    (ha : PA X (e :: es) t) (hdb : (x == ("__debug__" : Str)) = false := by decide) (he : starEach (e :: es) X.env = (false, eval e X.env) :: starEach es X.env := by rfl) (hpl : (backTo pos (starEach es X.env)).any (·.1) = false := by rfl) :
    PE X (.Call (.Name x p) (e :: es) [] pos) (tCall sp [] E0 t) := by
  constructor
  intro pins s σ H Q I h
  refine wpAny_Call_Name_kw (ld_glob I hg hm (PySem.W.callWith_K (h₀ := X.base) I.ok.mod.kin hk (thn (ha.run pos pins s σ H _ I h) ?_) he hpl) hdb)
  rintro us s1 ⟨vs, H1, I1, r, q⟩
  rw [List.append_nil] at q
  have hl : us.length = ps.length := by rw [← r.length]; exact F.len _ _ _ _ q
  have z := hb s1 us I1.kIn (by rw [List.append_nil]; exact hl)
  rw [List.append_nil] at z
  refine ⟨I1.kIn, ?_⟩
  show wpAny _ _ (call (.ref f) us) _ _ _
  refine wpAny_call (codeAny_mono (run_G F hr hG I1 z r q) ?_)
  rintro r s' ⟨u, rfl, z⟩
  exact z
/-- f(k = e, ..), keywords alone -/
structure KwB (K : PySem.W.Frag) (fd : FuncData) (ps ks : List Str) (gv : List Value → List Value) (gV : List V → List V) : Prop where
  to : ∀ (s : Shared) (ws : List Value), ws.length = ks.length → BindsTo s fd ⟨[], ks.zip ws⟩ (ps.zip (gv ws))
  rel : ∀ {zs : List V} {ws : List Value}, zs.length = ks.length → Vals zs ws → Vals (gV zs) (gv ws)
def tCallKw (sp : Sp) (n : Nat) (gV : List V → List V) (t : TA) : TE := fun σ H Q => t σ H fun zs H2 => zs.length = n ∧ sp (gV zs) H2 Q E0
variable {ks : List Str} {gv : List Value → List Value} {gV : List V → List V} {kws : List Keyword}
theorem pe_callKwG (F : FnG X.prog X.w X.K X.mg X.base k f fd ps sp) (hr : Room k X.A) (hG : X.A.guards = some []) (hg : Gl X x) (hm : X.mg x = some (.ref f)) (hk : PySem.W.keepIn X.K (.ref f) = true) (hb : KwB X.K fd ps ks gv gV)
    (ha : PK X kws t) (hall : (backToKw pos (keywordEach kws X.env)).all (·.1.isSome) = true := by rfl) (hks : (backToKw pos (keywordEach kws X.env)).filterMap (·.1) = ks := by rfl) (hdb : (x == ("__debug__" : Str)) = false := by decide)
    (hpl : ((backTo pos (starEach [] X.env)).any (·.1) || (backToKw pos (keywordEach kws X.env)).any (·.1.isNone)) = false := by rfl) : PE X (.Call (.Name x p) [] kws pos) (tCallKw sp ks.length gV t) := by
  constructor
  intro pins s σ H Q I h
  refine wpAny_Call_Name_kw (ld_glob I hg hm (PySem.W.callWith_KW0 (h₀ := X.base) I.ok.mod.kin hk hall (thn (ha.run pos pins s σ H _ I h) ?_) hpl) hdb)
  rintro ws s2 ⟨zs, H2, I2, rz, l, q⟩
  refine ⟨I2.kIn, ?_⟩
  rw [hks]
  refine wpAny_call (codeAny_mono (run_G (args := ⟨[], ks.zip ws⟩) F hr hG I2 (hb.to s2 ws (by rw [← rz.length]; exact l)) (hb.rel l rz) q) ?_)
  rintro r s' ⟨u, rfl, z⟩
  exact z
/-! ### repr of data -/
theorem call_repr_data (hu : X.A.units + 66 < cLine) (hG : X.A.guards = some []) : CallR X (.builtin "repr") (fun xs H Q => ∃ x d, xs = [x] ∧ Dp X.K H x d ∧ d.showable = true ∧ d.hasDict = false ∧ d.depth ≤ 64 ∧ d.shown.length ≤ sizeLine ∧ Q (.str d.shown) H) := by
  intro pins s σ H vs us Q I r h
  obtain ⟨x, d, rfl, hd, h1, h2, h3, h4, q⟩ := h
  obtain ⟨u, rfl, ru⟩ := vals1 r
  cases x with
  | ref a =>
    obtain ⟨as, rd⟩ := Dp.reads I d (.ref a) u hd ru
    obtain rfl : u = Value.ref a := ru
    refine repr_of_reads' rd h1 (fun z => by rw [h2] at z; cases z) hG (by omega) (fun _ _ e => e) (fun h' u tk kp => ?_) h4
    exact ⟨.str d.shown, H, I.kept kp, ⟨_, rfl⟩, q⟩
  | non =>
    cases hd
    obtain rfl : u = Value.none := ru
    exact PySem.P.repr_of_none ⟨.str _, H, I.tok _, ⟨_, rfl⟩, by rw [PyData.shown_none] at q; exact q⟩
  | bl b =>
    cases hd
    obtain rfl : u = Value.bool b := ru
    exact PySem.P.repr_of_bool ⟨.str _, H, I.tok _, ⟨_, rfl⟩, by rw [PyData.shown_bool] at q; exact q⟩
  | int i =>
    cases hd
    obtain ⟨t, rfl⟩ := ru
    exact PySem.P.repr_of_int (by simpa [PyData.showable] using h1) ⟨.str _, H, I.tok _, ⟨_, rfl⟩, by rw [PyData.shown_int] at q; exact q⟩
  | str z =>
    cases hd
    obtain ⟨t, rfl⟩ := ru
    rw [PyData.shown_str] at q h4
    exact PySem.P.repr_of_str ⟨.str _, H, I.tok _, ⟨_, rfl⟩, q⟩ h4
  | byt b => cases hd
  | flt b => cases hd
  | ty n => cases hd
end
end Ag

end
/-! ## Math1 -/
section
set_option linter.all false
namespace Ag
open PySem
/-! ### decimal texts -/
abbrev numL := TL.numL
abbrev digitsVal := NumText.digitsVal
def plainC (c : Nat) : Bool := decide (32 ≤ c) && decide (c ≤ 126)
def digC (c : Nat) : Bool := decide (48 ≤ c) && decide (c ≤ 57)
def plainL (l : List Nat) : Bool := l.all plainC
def isDec (l : List Nat) (m : Nat) : Bool := decide (numL (digitsVal l) = l) && decide (digitsVal l ≤ m)
theorem dv_snoc (l : List Nat) (c : Nat) : digitsVal (l ++ [c]) = digitsVal l * 10 + (c - 48) := by
  show List.foldl _ 0 (l ++ [c]) = _
  rw [List.foldl_append]
  rfl
theorem isDec_iff {l : List Nat} {m : Nat} : isDec l m = true ↔ ∃ k, k ≤ m ∧ l = numL k := by
  unfold isDec
  rw [Bool.and_eq_true, decide_eq_true_eq, decide_eq_true_eq]
  constructor
  · rintro ⟨a, b⟩
    exact ⟨_, b, a.symm⟩
  · rintro ⟨k, hk, rfl⟩
    have e : digitsVal (numL k) = k := TL.numL_val k
    rw [e]
    exact ⟨rfl, hk⟩
theorem numL_all (k : Nat) : ∀ c ∈ numL k, 48 ≤ c ∧ c ≤ 57 := TL.numL_digits k
theorem numL_ne (k : Nat) : numL k ≠ [] := TL.numL_ne k
theorem numL_val (k : Nat) : digitsVal (numL k) = k := TL.numL_val k
theorem numL_zero_head : ∀ (k : Nat) (l : List Nat), numL k = 48 :: l → k = 0 := by
  intro k
  induction k using Nat.strongRecOn with
  | ind k ih =>
    intro l h
    by_cases hk : k < 10
    · have e : numL k = [48 + k] := TL.numL_lt hk
      rw [e] at h
      injection h with h1 h2
      omega
    · have e : numL k = numL (k / 10) ++ [48 + k % 10] := TL.numL_step (by omega)
      rw [e] at h
      have hne := numL_ne (k / 10)
      cases hq : numL (k / 10) with
      | nil => exact absurd hq hne
      | cons d r =>
        rw [hq] at h
        injection h with h1 h2
        subst h1
        have z := ih (k / 10) (by omega) r hq
        omega
/-- one more digit -/
theorem isDec_snoc {s : List Nat} {c m : Nat} (hs : s = [] ∨ ∃ k, s = numL k) :
    isDec (s ++ [c]) m = (digC c && decide (s ≠ [48]) && decide (digitsVal (s ++ [c]) ≤ m)) := by
  rw [Bool.eq_iff_iff, isDec_iff]
  simp only [Bool.and_eq_true, decide_eq_true_eq, digC]
  constructor
  · rintro ⟨k, hk, e⟩
    have hc : 48 ≤ c ∧ c ≤ 57 := numL_all k c (by rw [← e]; simp)
    refine ⟨⟨hc, ?_⟩, ?_⟩
    · rintro rfl
      have z := numL_zero_head k [c] e.symm
      subst z
      have e2 : numL 0 = [48] := TL.numL_lt (by decide)
      rw [e2] at e
      simp at e
    · rw [e, numL_val]
      exact hk
  · rintro ⟨⟨hc, hne⟩, hv⟩
    refine ⟨digitsVal (s ++ [c]), hv, ?_⟩
    rw [dv_snoc]
    rcases hs with rfl | ⟨k, rfl⟩
    · show [c] = numL (0 * 10 + (c - 48))
      have e : numL (0 * 10 + (c - 48)) = [48 + (0 * 10 + (c - 48))] := TL.numL_lt (by omega)
      rw [e]
      congr 1
      omega
    · rw [numL_val]
      have hk : k ≠ 0 := by
        rintro rfl
        exact hne (TL.numL_lt (by decide))
      have e : numL (k * 10 + (c - 48)) = numL ((k * 10 + (c - 48)) / 10) ++ [48 + (k * 10 + (c - 48)) % 10] := TL.numL_step (by omega)
      rw [e, show (k * 10 + (c - 48)) / 10 = k by omega, show 48 + (k * 10 + (c - 48)) % 10 = c by omega]
theorem isDec_nil (m : Nat) : isDec [] m = false := by
  cases h : isDec [] m with
  | false => rfl
  | true =>
    obtain ⟨k, _, e⟩ := isDec_iff.mp h
    exact absurd e.symm (numL_ne k)
theorem numL_len3 {k : Nat} (h : k ≤ 200) : (numL k).length ≤ 3 := TL.numL_len (by decide) (by omega)
/-! ### reading, sign by sign -/
inductive Out where
  | read (ts : List (List Nat)) (r : List Nat)
  | wrong (ts : List (List Nat)) (k : Nat)
  deriving DecidableEq
def Out.pre (ts : List (List Nat)) (i : Nat) : Out → Out
  | .read us r => .read (ts ++ us) r
  | .wrong us k => .wrong (ts ++ us) (i + k)
theorem Out.pre_pre (ts us : List (List Nat)) (i j : Nat) (o : Out) : (o.pre us j).pre ts i = o.pre (ts ++ us) (i + j) := by
  cases o <;> simp [Out.pre, Nat.add_assoc]
theorem Out.pre_nil (o : Out) : o.pre [] 0 = o := by cases o <;> simp [Out.pre]
def glue (s : List Nat) : Option (List Nat) → List Nat
  | none => s
  | some t => s ++ 58 :: t
/-- one sign: none if it is wrong; else the text that is complete, if there is one, and the next state -/
def stp (s : List Nat) (t : Option (List Nat)) (c : Nat) : Option (Option (List Nat) × List Nat × Option (List Nat)) :=
  match t with
  | none => if c = 58 ∧ s ≠ [] then some (none, s, some []) else if isDec (s ++ [c]) 200 = true then some (none, s ++ [c], none) else none
  | some t => if t.length < digitsVal s then (if plainC c = true then some (none, s, some (t ++ [c])) else none) else if c = 44 then some (some t, [], none) else none
def lr (s : List Nat) (t : Option (List Nat)) : List Nat → Out
  | [] => .read [] (glue s t)
  | c :: cs => match stp s t c with
    | none => .wrong [] 0
    | some (o, s', t') => (lr s' t' cs).pre o.toList 1
/-- states that can be -/
def Vd (s : List Nat) : Option (List Nat) → Prop
  | none => s = [] ∨ ∃ k, k ≤ 200 ∧ s = numL k
  | some t => (∃ k, k ≤ 200 ∧ s = numL k ∧ t.length ≤ k) ∧ plainL t = true
theorem plainL_snoc {t : List Nat} {c : Nat} : plainL (t ++ [c]) = (plainL t && plainC c) := by
  simp [plainL, List.all_append]
theorem Vd.step {s : List Nat} {t : Option (List Nat)} {c : Nat} (v : Vd s t) {o : Option (List Nat)} {s' : List Nat} {t' : Option (List Nat)} (h : stp s t c = some (o, s', t')) : Vd s' t' := by
  cases t with
  | none =>
    simp only [stp] at h
    split at h
    · rename_i q
      cases h
      rcases v with rfl | ⟨k, hk, e⟩
      · exact absurd rfl q.2
      · exact ⟨⟨k, hk, e, Nat.zero_le _⟩, rfl⟩
    · split at h
      · rename_i q
        cases h
        exact .inr (isDec_iff.mp q)
      · cases h
  | some t =>
    simp only [stp] at h
    obtain ⟨⟨k, hk, e, hl⟩, hp⟩ := v
    split at h
    · rename_i q
      split at h
      · rename_i hc
        cases h
        refine ⟨⟨k, hk, e, ?_⟩, by rw [plainL_snoc, hp, hc]; rfl⟩
        rw [e, numL_val] at q
        simp
        omega
      · cases h
    · split at h
      · cases h
        exact .inl rfl
      · cases h
/-- the state of a rest -/
def spS (r : List Nat) : List Nat := match TL.par [58] [] r with | some (p, _) => p | none => r
def spT (r : List Nat) : Option (List Nat) := match TL.par [58] [] r with | some (_, q) => some q | none => none
theorem colon_free {k : Nat} : 58 ∉ numL k := TL.numL_free (.inr (by decide))
theorem Vd.free {s : List Nat} {t : Option (List Nat)} (v : Vd s t) : 58 ∉ s := by
  cases t with
  | none =>
    rcases v with rfl | ⟨k, _, rfl⟩
    · exact List.not_mem_nil
    · exact colon_free
  | some t =>
    obtain ⟨⟨k, _, rfl, _⟩, _⟩ := v
    exact colon_free
theorem par_glue {s : List Nat} {t : Option (List Nat)} (h : 58 ∉ s) : TL.par [58] [] (glue s t) = t.map fun t => (s, t) := by
  cases t with
  | none => exact SX.par_head_none h
  | some t => exact SX.par_head t h
theorem sp_glue {s : List Nat} {t : Option (List Nat)} (v : Vd s t) : spS (glue s t) = s ∧ spT (glue s t) = t := by
  unfold spS spT
  rw [par_glue v.free]
  cases t <;> exact ⟨rfl, rfl⟩
/-- reading leads to a rest -/
theorem lr_rest : ∀ (l : List Nat) {s : List Nat} {t : Option (List Nat)} {ts : List (List Nat)} {r : List Nat}, Vd s t → lr s t l = .read ts r → ∃ s' t', Vd s' t' ∧ r = glue s' t'
  | [], s, t, ts, r, v, h => by
    simp only [lr] at h
    cases h
    exact ⟨s, t, v, rfl⟩
  | c :: cs, s, t, ts, r, v, h => by
    simp only [lr] at h
    cases hs : stp s t c with
    | none => rw [hs] at h; cases h
    | some p =>
      obtain ⟨o, s', t'⟩ := p
      rw [hs] at h
      simp only at h
      cases hl : lr s' t' cs with
      | wrong us k => rw [hl] at h; cases h
      | read us r' =>
        rw [hl] at h
        cases h
        exact lr_rest cs (v.step hs) hl
/-- two strings, one behind the other -/
def Out.thn (n : Nat) (o : Out) (k : List Nat → Out) : Out := match o with
  | .read ts r => (k r).pre ts n
  | .wrong ts i => .wrong ts i
theorem lr_app : ∀ (a b : List Nat) {s : List Nat} {t : Option (List Nat)}, Vd s t → lr s t (a ++ b) = (lr s t a).thn a.length fun r => lr (spS r) (spT r) b
  | [], b, s, t, v => by
    show lr s t b = (lr (spS (glue s t)) (spT (glue s t)) b).pre [] 0
    rw [(sp_glue v).1, (sp_glue v).2, Out.pre_nil]
  | c :: cs, b, s, t, v => by
    show lr s t (c :: (cs ++ b)) = _
    simp only [lr]
    cases hs : stp s t c with
    | none => rfl
    | some p =>
      obtain ⟨o, s', t'⟩ := p
      simp only
      rw [lr_app cs b (v.step hs)]
      cases lr s' t' cs with
      | wrong us k => rfl
      | read us r' =>
        show Out.pre o.toList 1 (Out.pre us cs.length (lr (spS r') (spT r') b)) = Out.pre (o.toList ++ us) (cs.length + 1) (lr (spS r') (spT r') b)
        rw [Out.pre_pre, Nat.add_comm 1]
/-! ### the program's way: one frame after the other -/
/-- how many of the signs are digits of a length -/
def dgs (s : List Nat) : List Nat → Nat
  | [] => 0
  | c :: cs => if isDec (s ++ [c]) 200 = true then dgs (s ++ [c]) cs + 1 else 0
theorem dgs_le : ∀ (l s : List Nat), dgs s l ≤ l.length
  | [], _ => Nat.le_refl _
  | c :: cs, s => by
    unfold dgs
    split
    · have := dgs_le cs (s ++ [c])
      simp
      exact this
    · exact Nat.zero_le _
theorem lr_dgs : ∀ (l : List Nat) {s : List Nat}, Vd s none → lr s none l = (lr (s ++ l.take (dgs s l)) none (l.drop (dgs s l))).pre [] (dgs s l) ∧ Vd (s ++ l.take (dgs s l)) none ∧
    (∀ c cs, l.drop (dgs s l) = c :: cs → isDec (s ++ l.take (dgs s l) ++ [c]) 200 = false)
  | [], s, v => by
    refine ⟨?_, ?_, fun c cs h => ?_⟩
    · simp [dgs, Out.pre_nil]
    · simpa [dgs] using v
    · simp at h
  | c :: cs, s, v => by
    by_cases h : isDec (s ++ [c]) 200 = true
    · have hd : dgs s (c :: cs) = dgs (s ++ [c]) cs + 1 := by
        show (if isDec (s ++ [c]) 200 = true then _ else _) = _
        rw [if_pos h]
      have hc : c ≠ 58 := by
        obtain ⟨k, _, e⟩ := isDec_iff.mp h
        have := numL_all k c (by rw [← e]; simp)
        omega
      have v' : Vd (s ++ [c]) none := .inr (isDec_iff.mp h)
      obtain ⟨i1, i2, i3⟩ := lr_dgs cs v'
      have es : stp s none c = some (none, s ++ [c], none) := by
        show (if c = 58 ∧ s ≠ [] then _ else if isDec (s ++ [c]) 200 = true then _ else _) = _
        rw [if_neg (fun z => hc z.1), if_pos h]
      have el : lr s none (c :: cs) = (lr (s ++ [c]) none cs).pre [] 1 := by
        simp only [lr, es]
        rfl
      have ea : s ++ [c] ++ cs.take (dgs (s ++ [c]) cs) = s ++ (c :: cs).take (dgs (s ++ [c]) cs + 1) := by simp
      rw [hd, el, i1, Out.pre_pre, ea]
      rw [ea] at i2 i3
      refine ⟨?_, i2, fun d ds hq => i3 d ds (by simpa using hq)⟩
      rw [List.drop_succ_cons, Nat.add_comm]
      rfl
    · have hd : dgs s (c :: cs) = 0 := by
        show (if isDec (s ++ [c]) 200 = true then _ else _) = _
        rw [if_neg h]
      rw [hd]
      refine ⟨by simp [Out.pre_nil], by simpa using v, fun d ds hq => ?_⟩
      simp at hq
      obtain ⟨rfl, rfl⟩ := hq
      simpa using h
/-- how many signs ahead of the first one that no text has -/
def pls : List Nat → Nat
  | [] => 0
  | c :: cs => if plainC c = true then pls cs + 1 else 0
theorem pls_le : ∀ l : List Nat, pls l ≤ l.length
  | [] => Nat.le_refl _
  | c :: cs => by
    unfold pls
    split
    · have := pls_le cs
      simp
      exact this
    · exact Nat.zero_le _
theorem pls_all {l : List Nat} (h : plainL l = true) : pls l = l.length := by
  induction l with
  | nil => rfl
  | cons c cs ih =>
    have h' : plainC c = true ∧ plainL cs = true := by simpa [plainL] using h
    show (if plainC c = true then pls cs + 1 else 0) = _
    rw [if_pos h'.1, ih h'.2]
    rfl
theorem pls_lt {l : List Nat} (h : plainL l = false) : pls l < l.length ∧ ∃ c, l[pls l]? = some c ∧ plainC c = false := by
  induction l with
  | nil => cases h
  | cons c cs ih =>
    by_cases hc : plainC c = true
    · have h' : plainL cs = false := by
        have z : (plainC c && plainL cs) = false := h
        rw [hc] at z
        exact z
      obtain ⟨a, d, b1, b2⟩ := ih h'
      have e : pls (c :: cs) = pls cs + 1 := by
        show (if plainC c = true then pls cs + 1 else 0) = _
        rw [if_pos hc]
      rw [e]
      exact ⟨by simp; exact a, d, by simpa using b1, b2⟩
    · have e : pls (c :: cs) = 0 := by
        show (if plainC c = true then pls cs + 1 else 0) = _
        rw [if_neg hc]
      rw [e]
      exact ⟨by simp, c, by simp, by simpa using hc⟩
theorem pls_plain : ∀ l : List Nat, plainL (l.take (pls l)) = true
  | [] => rfl
  | c :: cs => by
    by_cases hc : plainC c = true
    · have e : pls (c :: cs) = pls cs + 1 := by
        show (if plainC c = true then pls cs + 1 else 0) = _
        rw [if_pos hc]
      rw [e, List.take_succ_cons]
      show (plainC c && plainL (cs.take (pls cs))) = true
      rw [hc, pls_plain cs]
      rfl
    · have e : pls (c :: cs) = 0 := by
        show (if plainC c = true then pls cs + 1 else 0) = _
        rw [if_neg hc]
      rw [e]
      rfl
/-- the signs of a text -/
theorem lr_text : ∀ (a : List Nat) (l : List Nat) {s t : List Nat}, plainL a = true → t.length + a.length ≤ digitsVal s → lr s (some t) (a ++ l) = (lr s (some (t ++ a)) l).pre [] a.length
  | [], l, s, t, _, _ => by simp [Out.pre_nil]
  | c :: cs, l, s, t, hp, hl => by
    have hp' : plainC c = true ∧ plainL cs = true := by simpa [plainL] using hp
    simp only [List.length_cons] at hl
    have es : stp s (some t) c = some (none, s, some (t ++ [c])) := by
      show (if t.length < digitsVal s then _ else _) = _
      rw [if_pos (by omega), if_pos hp'.1]
    have el : lr s (some t) (c :: (cs ++ l)) = (lr s (some (t ++ [c])) (cs ++ l)).pre [] 1 := by
      simp only [lr, es]
      rfl
    show lr s (some t) (c :: (cs ++ l)) = _
    rw [el, lr_text cs l hp'.2 (by simp; omega), Out.pre_pre]
    simp [Nat.add_comm]
/-- what next_frame tells of the signs from its start on -/
inductive Nf where
  | part (at_ : Nat) | wrong (at_ : Nat) | whole (t : List Nat) (at_ : Nat)
def nf (l : List Nat) : Nf :=
  let k := dgs [] l
  if k = l.length then .part k else
  if k = 0 ∨ l[k]? ≠ some 58 then .wrong k else
  let n := digitsVal (l.take k)
  let part := (l.drop (k + 1)).take n
  let e := k + 1 + pls part
  if e = l.length then .part e else
  if l[e]? ≠ some 44 then .wrong e else .whole part (k + 1 + n + 1)
theorem nf_lr (l : List Nat) : match nf l with
    | .part _ => ∃ r, lr [] none l = .read [] r ∧ r = l
    | .wrong k => lr [] none l = .wrong [] k ∧ k < l.length
    | .whole t k => lr [] none l = (lr [] none (l.drop k)).pre [t] k ∧ k ≤ l.length ∧ 0 < k := by
  obtain ⟨h1, h2, h3⟩ := lr_dgs l (s := []) (.inl rfl)
  simp only [List.nil_append] at h1 h2 h3
  have hk := dgs_le l []
  generalize hkk : dgs [] l = k at h1 h2 h3 hk
  unfold nf
  rw [hkk]
  by_cases e1 : k = l.length
  · simp only [e1, if_true]
    rw [h1, e1, List.take_length, List.drop_length]
    exact ⟨l, by simp [lr, glue, Out.pre], rfl⟩
  · simp only [if_neg e1]
    have hlt : k < l.length := by omega
    obtain ⟨c, hc⟩ : ∃ c, l[k]? = some c := ⟨l[k], by simp [hlt]⟩
    have hd : l.drop k = c :: l.drop (k + 1) := by
      rw [List.drop_eq_getElem_cons hlt]
      congr 1
      rw [List.getElem?_eq_getElem hlt] at hc
      exact Option.some.inj hc
    have nd := h3 c _ hd
    by_cases e2 : k = 0 ∨ l[k]? ≠ some 58
    · simp only [if_pos e2]
      refine ⟨?_, hlt⟩
      rw [h1, hd]
      have es : stp (l.take k) none c = none := by
        show (if c = 58 ∧ l.take k ≠ [] then _ else if isDec (l.take k ++ [c]) 200 = true then _ else none) = _
        rw [if_neg, if_neg (by rw [nd]; decide)]
        rintro ⟨rfl, hn⟩
        rcases e2 with rfl | e2
        · exact hn rfl
        · exact e2 hc
      simp only [lr, es]
      simp [Out.pre]
    · simp only [if_neg e2]
      have hk0 : k ≠ 0 := fun z => e2 (.inl z)
      have hc58 : c = 58 := by
        by_cases q : c = 58
        · exact q
        · exact absurd (.inr (by rw [hc]; simpa using q)) e2
      subst hc58
      have hne : l.take k ≠ [] := by
        intro z
        have := congrArg List.length z
        rw [List.length_take, List.length_nil] at this
        omega
      have es : stp (l.take k) none 58 = some (none, l.take k, some []) := by
        show (if 58 = 58 ∧ l.take k ≠ [] then _ else _) = _
        rw [if_pos ⟨rfl, hne⟩]
      have h4 : lr [] none l = (lr (l.take k) (some []) (l.drop (k + 1))).pre [] (k + 1) := by
        rw [h1, hd]
        simp only [lr, es]
        rw [Out.pre_pre]
        rfl
      generalize hn : digitsVal (l.take k) = n
      generalize hm : l.drop (k + 1) = m at h4
      have hml : m.length = l.length - (k + 1) := by rw [← hm, List.length_drop]
      generalize hp : m.take n = part
      have hpm : m = part ++ m.drop n := by rw [← hp, List.take_append_drop]
      have hpl : part.length ≤ n := by rw [← hp, List.length_take]; omega
      have hb := pls_le part
      have hsp : m = part.take (pls part) ++ m.drop (pls part) := by
        have e : part.take (pls part) = m.take (pls part) := by
          rw [← hp, List.take_take, Nat.min_eq_left (by rw [hp]; omega)]
        rw [e, List.take_append_drop]
      have h5 : lr [] none l = (lr (l.take k) (some (part.take (pls part))) (m.drop (pls part))).pre [] (k + 1 + pls part) := by
        rw [h4]
        conv => lhs; rw [hsp]
        rw [lr_text _ _ (pls_plain part) (by rw [hn, List.length_take]; simp; omega), Out.pre_pre, List.length_take, Nat.min_eq_left hb]
        simp
      have hpm2 : part.length ≤ m.length := by rw [← hp, List.length_take]; omega
      by_cases e3 : k + 1 + pls part = l.length
      · simp only [if_pos e3]
        refine ⟨l, ?_, rfl⟩
        have hd0 : m.drop (pls part) = [] := List.drop_eq_nil_of_le (by omega)
        have ht0 : part.take (pls part) = m := by
          rw [hd0, List.append_nil] at hsp
          exact hsp.symm
        rw [h5, hd0, ht0]
        simp only [lr, glue, Out.pre, List.append_nil]
        rw [← hm]
        congr 1
        rw [← hd, List.take_append_drop]
      · simp only [if_neg e3]
        have hlt3 : k + 1 + pls part < l.length := by omega
        have hget : l[k + 1 + pls part]? = m[pls part]? := by rw [← hm, List.getElem?_drop]
        obtain ⟨d, hdd⟩ : ∃ d, m[pls part]? = some d := ⟨m[pls part]'(by omega), by rw [List.getElem?_eq_getElem (by omega)]⟩
        have hmd : m.drop (pls part) = d :: m.drop (pls part + 1) := by
          rw [List.drop_eq_getElem_cons (by omega)]
          congr 1
          rw [List.getElem?_eq_getElem (by omega)] at hdd
          exact Option.some.inj hdd
        rw [hget, hdd]
        have hcase : (pls part = n ∧ part.length = n) ∨ (pls part < n ∧ plainC d = false) := by
          cases hpp : plainL part with
          | true =>
            have e := pls_all hpp
            left
            have : part.length = n := by
              rw [e] at hlt3
              rw [← hp, List.length_take] at hlt3 ⊢
              omega
            omega
          | false =>
            obtain ⟨a, c', b1, b2⟩ := pls_lt hpp
            right
            refine ⟨by omega, ?_⟩
            have : part[pls part]? = m[pls part]? := by
              conv => rhs; rw [hpm]
              rw [List.getElem?_append_left a]
            rw [this, hdd] at b1
            rw [Option.some.inj b1]
            exact b2
        have htl : (part.take (pls part)).length = pls part := by rw [List.length_take, Nat.min_eq_left hb]
        by_cases e4 : d = 44
        · subst e4
          rw [if_neg (by simp)]
          rcases hcase with ⟨q1, q2⟩ | ⟨q1, q2⟩
          · refine ⟨?_, by omega, by omega⟩
            have et : part.take (pls part) = part := List.take_of_length_le (by omega)
            have es2 : stp (l.take k) (some part) 44 = some (some part, [], none) := by
              show (if part.length < digitsVal (l.take k) then _ else _) = _
              rw [if_neg (by rw [hn]; omega)]
              rfl
            have ed : m.drop (pls part + 1) = l.drop (k + 1 + n + 1) := by
              rw [← hm, List.drop_drop]
              congr 1
              omega
            rw [h5, et, hmd]
            simp only [lr, es2]
            rw [Out.pre_pre, ed]
            simp only [Option.toList, List.nil_append]
            congr 1
            omega
          · exact absurd q2 (by decide)
        · rw [if_pos (by simpa using e4)]
          refine ⟨?_, hlt3⟩
          have es2 : stp (l.take k) (some (part.take (pls part))) d = none := by
            show (if (part.take (pls part)).length < digitsVal (l.take k) then _ else if d = 44 then _ else none) = _
            rcases hcase with ⟨q1, q2⟩ | ⟨q1, q2⟩
            · rw [if_neg (by rw [hn, htl]; omega), if_neg e4]
            · rw [if_pos (by rw [hn, htl]; omega), if_neg (by rw [q2]; decide)]
          rw [h5, hmd]
          simp only [lr, es2]
          simp [Out.pre]
end Ag

end
/-! ## Kit -/
section
set_option linter.all false
set_option maxRecDepth 100000
namespace Ag
open PySem PySem.Spec PyProof.Rows L2
open SX (S S_len S_cat S_inj)
section
variable {J : It} {n : Nat} {G : Hp → Prop} {Y : Nat → Hp → V → Hp → Prop}
/-- a comprehension without tests: R stays, each item is as v says of its place -/
theorem lc_all (w : Walk J n G Y) {g : TG} {te : TE} {vs : List Nat} {σ : L2.St} {H1 : Hp} {D : Addr} {Qd : Hp → Prop} (R : Hp → Prop) (v : Nat → V → Prop) (hn : n ≤ 16000000) (r0 : R H1) (rD : ∀ H o, R H → R (upd H D o)) (hG : ∀ H, R H → G H)
    (hs : ∀ i x H H' xs (k : VK), i < n → R H → H D = some (.lst xs) → Y i H x H' → (∀ y H4, v i y → R H4 → H4 D = some (.lst xs) → k y H4) → g x (wipe σ vs) H' fun σ2 H2 => wipe σ2 vs = wipe σ vs ∧ te σ2 H2 k)
    (hd : ∀ H xs, xs.length = n → (∀ i y, xs[i]? = some y → v i y) → R H → H D = some (.lst xs) → Qd H) :
    ∃ W : Nat → Nat → Hp → Prop, (∃ m, W 0 m (upd H1 D (.lst []))) ∧ ∀ i m H, W i m H →
      (J.stop i H ∧ Qd H) ∨ (J.go i H ∧ ∃ Nx : Hp → Prop, (∀ H', Nx H' → ∃ m', m' < m ∧ W (i + 1) m' H') ∧ ∀ x H', J.yld i H x H' → g x (wipe σ vs) H' fun σ2 H2 => wipe σ2 vs = wipe σ vs ∧ tYes σ2 H2 fun b H3 =>
        if b = true then te σ2 H3 fun y H4 => ∃ acc, H4 D = some (.lst acc) ∧ acc.length < sizeLine ∧ Nx (upd H4 D (.lst (acc ++ [y]))) else Nx H3) := by
  refine lc_it (g := g) (tt := tYes) (te := te) (vs := vs) (σ := σ) w (fun i H => ∃ xs : List V, xs.length = i ∧ (∀ j y, xs[j]? = some y → v j y) ∧ R H ∧ H D = some (.lst xs)) ⟨[], rfl, fun j y h => by simp at h, rD _ _ r0, upd_same⟩ (fun i H hi p => ?_) (fun i x H H' hi p hy => ?_) (fun H p => ?_)
  · obtain ⟨xs, _, _, r, _⟩ := p
    exact hG H r
  · obtain ⟨xs, hl, hv, r, hD⟩ := p
    refine hs i x H H' xs _ hi r hD hy ?_
    rintro y H4 hvy r4 h4
    refine ⟨xs, h4, ?_, xs ++ [y], by simp [hl], fun j z hz => ?_, rD _ _ r4, upd_same⟩
    · rw [sizeLine_eq]; omega
    · rw [List.getElem?_append] at hz
      split at hz
      · exact hv j z hz
      · rename_i hj
        have e : j - xs.length = 0 := by
          cases hq : j - xs.length with
          | zero => rfl
          | succ k => rw [hq] at hz; simp at hz
        rw [e] at hz
        simp at hz
        subst hz
        have : j = i := by omega
        subst this
        exact hvy
  · obtain ⟨xs, hl, hv, r, hD⟩ := p
    exact hd H xs hl hv r hD
end
/-! ### cuts of texts -/
theorem sIx_at {n d a : Nat} (h : a ≤ n) : HT.sIx n d (some (a : Int)) = a := by rw [HT.sIx_nat, Nat.min_eq_left h]
theorem cut_S {l : List Nat} {a b : Nat} (ha : a ≤ l.length) : cutS (S l) (some (a : Int)) (some (b : Int)) = S ((l.drop a).take (b - a)) := by
  unfold cutS
  rw [S_len, sIx_at ha, HT.sIx_nat]
  congr 1
  congr 1
  by_cases hb : b ≤ l.length
  · rw [Nat.min_eq_left hb]
  · rw [Nat.min_eq_right (by omega), List.take_of_length_le (by rw [List.length_drop]; exact Nat.le_refl _), List.take_of_length_le (by rw [List.length_drop]; omega)]
theorem cut_from {l : List Nat} {a : Nat} (ha : a ≤ l.length) : cutS (S l) (some (a : Int)) none = S (l.drop a) := by
  unfold cutS
  rw [S_len, sIx_at ha, HT.sIx_none]
  congr 1
  congr 1
  rw [List.take_of_length_le (by rw [List.length_drop]; exact Nat.le_refl _)]
theorem cut_to {l : List Nat} {b : Nat} : cutS (S l) none (some (b : Int)) = S (l.take b) := by
  unfold cutS
  rw [S_len, HT.sIx_none, HT.sIx_nat, List.drop_zero, Nat.sub_zero]
  congr 1
  congr 1
  by_cases hb : b ≤ l.length
  · rw [Nat.min_eq_left hb]
  · rw [Nat.min_eq_right (by omega), List.take_of_length_le (Nat.le_refl _), List.take_of_length_le (by omega)]
end Ag

end
/-! ## Kit2 -/
section
set_option linter.all false
set_option maxRecDepth 100000
namespace Ag
open PySem PySem.Spec PyProof.Rows L2
open SX (S S_len S_cat S_inj)
/-! ### str * int -/
theorem foldl_cps (z : List Nat) (n : Nat) : (List.replicate n (S z).cps).foldl (· ++ ·) #[] = (List.replicate n z).flatten.toArray := by
  have key : ∀ (n : Nat) (acc : Array Nat), (List.replicate n (S z).cps).foldl (· ++ ·) acc = acc ++ (List.replicate n z).flatten.toArray := by
    intro n
    induction n with
    | zero => intro acc; simp
    | succ n ih =>
      intro acc
      rw [List.replicate_succ, List.foldl_cons, ih, List.replicate_succ, List.flatten_cons]
      apply Array.ext'
      simp
  rw [key n #[]]
  simp
theorem mul_S (z : List Nat) (n : Nat) : Txt.mul (S z) (n : Int) = S (List.replicate n z).flatten := by
  unfold Txt.mul
  by_cases h0 : n = 0
  · subst h0
    rfl
  · rw [if_neg (by omega)]
    split
    · rename_i h
      simp only [Bool.or_eq_true, beq_iff_eq] at h
      rcases h with h | h
      · have : n = 1 := by omega
        subst this
        simp
      · rw [S_len] at h
        have : z = [] := List.length_eq_zero_iff.mp h
        subst this
        simp
    · rw [show ((n : Int)).toNat = n by simp, foldl_cps]
theorem op_rep_str {X : Cx} : OpR X (binaryOp .Mult) (fun x y H Q => ∃ (z : List Nat) (n : Nat), x = .str (S z) ∧ y = .int (n : Int) ∧ z.length * n ≤ 16000000 ∧ n ≤ 16000000 ∧ z.length ≤ 16000000 ∧ Q (.str (S (List.replicate n z).flatten)) H) := by
  intro pins s σ H x y v u Q I rx ry h
  obtain ⟨z, n, rfl, rfl, h1, h2, h3, q⟩ := h
  obtain ⟨t, rfl⟩ := rx
  obtain ⟨t', rfl⟩ := ry
  refine SB.mul ⟨?_, fun _ _ => ?_, fun _ _ => ?_⟩ (fun a k => ?_)
  · rw [Bool.or_eq_false_iff, decide_eq_false_iff_not, decide_eq_false_iff_not]
    omega
  · rename_i a b
    have hn : (1 : Int) ≤ (n : Int) := by omega
    have : (2 ^ 63 - 1) / (n : Int) ≥ (2 ^ 63 - 1) / 16000000 := by
      rw [ge_iff_le, Int.le_ediv_iff_mul_le (by omega)]
      have e : ((2 ^ 63 - 1 : Int) / 16000000) = 576460752303 := by decide
      rw [e]
      omega
    have e : ((2 ^ 63 - 1 : Int) / 16000000) = 576460752303 := by decide
    rw [S_len]
    omega
  · rw [S_len]
    show decide (z.length * (n : Int).toNat > sizeLine) = false
    rw [decide_eq_false_iff_not, sizeLine_eq, show ((n : Int)).toNat = n by simp]
    omega
  · rw [mul_S]
    exact ⟨.str _, H, I.tok _, ⟨_, rfl⟩, q⟩
/-! ### for i, c in enumerate(text) -/
def Ites (x : Str) : It :=
  ⟨fun i _ => i < x.cps.size, fun i H v H' => ∃ T c, v = .ref T ∧ H T = none ∧ H' = upd H T (.tup [.int (i : Nat), .str ⟨#[c]⟩]) ∧ x.cps[i]? = some c, fun i _ => i = x.cps.size⟩
theorem walk_enumS {x : Str} : Walk (Ites x) x.cps.size (fun _ => True) (fun i H v H' => ∃ T c, v = .ref T ∧ H T = none ∧ H' = upd H T (.tup [.int (i : Nat), .str ⟨#[c]⟩]) ∧ x.cps[i]? = some c) :=
  ⟨fun _ _ h _ => h, fun _ _ => rfl, fun _ _ _ _ _ _ z => z⟩
theorem draws_str {P : Program} {w : World} {A : Around} (hh : A.handled = none) (it : Addr) (x : Str) (t : Tok) {ty : String} (hty : ty = "str_ascii_iterator" ∨ ty = "str_iterator") :
    Draws P w A it [it] x.cps.size (fun i v => ∃ c u, x.cps[i]? = some c ∧ v = .str ⟨#[c]⟩ u) (fun i h => h.IsStrIter it ty x t i) := by
  rcases hty with rfl | rfl
  · exact Draws.strAscii hh it x t
  · exact Draws.strWide hh it x t
theorem turn_enumS {P : Program} {w : World} {K : PySem.W.Frag} {elts : List Expr} {kk : Nat} {tpos : Pos} (x : Str) (t : Tok) (ty : String) (hty : ty = "str_ascii_iterator" ∨ ty = "str_iterator") (e it : Addr) :
    Turn P w K (.Tuple elts kk tpos) (Ites x) [e, it] e (fun i h => (∃ old, IsEnum h e it ((i : Nat) : Int) old) ∧ h.IsStrIter it ty x t i ∧ e ≠ it) where
  mem := List.mem_cons_self
  obj := by
    rintro i h ⟨⟨old, he⟩, ⟨o, ho, hc, hd⟩, _⟩ b hb
    rcases List.mem_cons.mp hb with rfl | hb
    · exact ⟨_, he, fun v q => by cases q⟩
    · obtain rfl := List.mem_singleton.mp hb
      exact ⟨o, ho, fun v q => by rw [hd] at q; cases q⟩
  keep := by
    rintro i h h' ⟨⟨old, he⟩, ⟨o, ho, r⟩, hne⟩ k
    exact ⟨⟨old, k e List.mem_cons_self _ he⟩, ⟨o, k it (List.mem_cons_of_mem _ List.mem_cons_self) o ho, r⟩, hne⟩
  item := by
    intro X hP hw hK hc i pins s σ H E I hf st hg
    subst hP hw hK
    obtain ⟨⟨old, he⟩, hit, hne⟩ := st
    have hel : e < s.heap.objs.size := Heap.lt_size he
    have hil : it < s.heap.objs.size := by obtain ⟨_, q, _⟩ := hit; exact Heap.lt_size q
    have D := draws_str (P := X.prog) (w := X.w) (A := X.A.in1) (I.ok.hd hc) it x t hty
    refine wpAny_pyNext_enum_itemD D he hit hg hne (fun z => hne (List.mem_singleton.mp z)) ?_
    rintro v h' tk ⟨c, u, hcx, rfl⟩ ho hit' hT hsz hk
    refine ⟨_, rfl, wpAny_letOwnedTupleGo_enum (s := { s with heap := h', toks := tk + 1 }) ho ?_⟩
    intro h'' he' sb
    have hT2 : h''.get? s.heap.objs.size = some { cls := .type "tuple", data := .seq #[.int i tk, .str ⟨#[c]⟩ u] } := (sb.2 _ (Nat.ne_of_gt hel)).trans hT
    have ok : ObjOk X.prog X.w (upd H s.heap.objs.size (.tup [.int (i : Nat), .str ⟨#[c]⟩])) h'' s.heap.objs.size (.tup [.int (i : Nat), .str ⟨#[c]⟩]) :=
      ⟨by show 2 ≤ sizeLine; decide, [.int i tk, .str ⟨#[c]⟩ u], .cons ⟨_, rfl⟩ (.cons ⟨_, rfl⟩ .nil), ⟨_, hT2, rfl, _, rfl⟩⟩
    have I1 : Inv X pins σ (upd H s.heap.objs.size (.tup [.int (i : Nat), .str ⟨#[c]⟩])) { s with heap := h'', toks := tk + 1 } :=
      I.turnedNew (ch := [e, it]) (fun b ob hb q => (sb.2 b (fun z => hb (by rw [z]; exact List.mem_cons_self))).trans (hk b ob (fun z => hb (by rw [z]; exact List.mem_cons_self)) (fun z => hb (by rw [z]; exact List.mem_cons_of_mem _ List.mem_cons_self)) q)) hf (Nat.le_refl _) ok
    have e1 : ((i + 1 : Nat) : Int) = (i : Int) + 1 := by omega
    have hit2 : h''.IsStrIter it ty x t (i + 1) := by
      obtain ⟨o, q1, q2⟩ := hit'
      exact ⟨o, (sb.2 it hne.symm).trans q1, q2⟩
    refine ⟨.ref s.heap.objs.size, _, I1, rfl, ⟨_, c, rfl, I.hok.fresh (Nat.le_refl _), rfl, hcx⟩, ⟨⟨_, by rw [e1]; exact he'⟩, hit2, hne⟩, fun b hb => ?_⟩
    have hb' : b < s.heap.objs.size := by
      rcases List.mem_cons.mp hb with rfl | z
      · exact hel
      · rw [List.mem_singleton.mp z]
        exact hil
    rw [upd_ne (Nat.ne_of_lt hb')]
    exact (hf b hb).1
  done := by
    intro X hP hw hK hc i pins s σ H E I hf st hg
    subst hP hw hK
    obtain ⟨⟨old, he⟩, hit, hne⟩ := st
    obtain ⟨f0, f1, f2, f3, f4, f5⟩ := hf it (List.mem_cons_of_mem _ List.mem_cons_self)
    obtain rfl : i = x.cps.size := hg
    have D := draws_str (P := X.prog) (w := X.w) (A := X.A.in1) (I.ok.hd hc) it x t hty
    exact wpAny_pyNext_enum_endD D he hit fun h' eb => ⟨rfl, I.turned (t' := s.toks) (fun b o hb q => eb b o hb q) f0 f1 f3 f4 f5⟩
  self := fun A i s Q E st h => st.1.elim fun _ z => wpAny_pyIter_enum z h
def iEnumS (ta : TA) : TI := fun σ H R => ta σ H fun vs H1 => ∃ x, vs = [.str x] ∧ R (Ites x) H1
theorem pi_enumS {X : Cx} {e : Expr} {ta : TA} {p pos tpos : Pos} {elts : List Expr} {kk : Nat} (hg : Gl X "enumerate") (hm : X.mg "enumerate" = none) (ha : PA X [e] ta) (hs : starEach [e] X.env = [(false, eval e X.env)] := by rfl) :
    PI X (.Tuple elts kk tpos) (.Call (.Name "enumerate" p) [e] [] pos) (iEnumS ta) := by
  constructor
  intro pins s σ H R I h
  refine Call_ (ld_blt I hg hm boot_enumerate (PyProof.Rows.callWith_type1 (thn (ha.run pos pins s σ H _ I h) ?_) hs rfl))
  rintro us s1 ⟨vs, H1, I1, r1, x, rfl, q⟩
  obtain ⟨u, rfl, t, rfl⟩ := vals1 r1
  refine call_enumerate_str fun h' he hit hsz hk => wpAny_pyIter_enum he ?_
  have I2 : Inv X pins σ H1 { s1 with heap := h' } := I1.kept (t' := s1.toks) hk
  have hty : strIterType x = "str_ascii_iterator" ∨ strIterType x = "str_iterator" := by
    unfold strIterType
    split
    · exact .inl rfl
    · exact .inr rfl
  refine ⟨s1.heap.objs.size + 1, [s1.heap.objs.size + 1, s1.heap.objs.size], _, _, H1, rfl, I2, turn_enumS x t _ hty (s1.heap.objs.size + 1) s1.heap.objs.size, ⟨⟨.none, he⟩, hit, Nat.succ_ne_self _⟩, ?_, q⟩
  intro b hb
  have hle : s1.heap.objs.size ≤ b := by
    rcases List.mem_cons.mp hb with rfl | z
    · exact Nat.le_succ _
    · rw [List.mem_singleton.mp z]
      exact Nat.le_refl _
  exact I1.fpOk hle (I1.hok.fresh hle)
/-- a target of two names, where a comprehension's block runs -/
theorem pg_two {X : Cx} (K : PySem.W.Frag) {i j : Nat} {x y : Str} {px py pt : Pos} {k : Nat} (hc : X.calm = true) (hN : X.N.Nodup) (hi : X.N[i]? = some x) (hj : X.N[j]? = some y) (hx : X.env.scope.names.lookup x = some .local) (hy : X.env.scope.names.lookup y = some .local) (hK : X.K = K) :
    PG X (.Tuple [.Name x px, .Name y py] k pt) (gTup K 2 (gCons (gName i) (gCons (gName j) gNil))) := by
  subst hK
  exact pg_tup hc (pgs_cons (pg_name hN hi (.inl hx) (.inr hx)) (pgs_cons (pg_name hN hj (.inl hy) (.inr hy)) pgs_nil))
end Ag

end
/-! ## Kit3 -/
section
set_option linter.all false
set_option maxRecDepth 100000
namespace Ag
open PySem PySem.Spec PyProof.Rows L2
open SX (S S_len S_cat S_inj)
def chars (z : List Nat) : List V := z.map fun c => V.str (S [c])
theorem call_list_S {X : Cx} (hc : X.calm = true) : CallR X (.type "list") (fun xs H Q => ∃ z : List Nat, xs = [.str (S z)] ∧ z.length ≤ 16000000 ∧ ∀ l, H l = none → Q (.ref l) (upd H l (.lst (chars z)))) := by
  intro pins s σ H xs us Q I r h
  obtain ⟨z, rfl, hz, q⟩ := h
  obtain ⟨u, rfl, t, rfl⟩ := vals1 r
  have hsz : (S z).cps.size = z.length := by simp
  refine PySem.call_list_str (I.ok.hd hc) (S z) t (fun h' tk acc c' kp e ha => ?_) (by rw [hsz, sizeLine_eq]; omega)
  have rv : Vals (chars z) acc.toList := by
    refine L2.vals_of_at ?_ ?_
    · have e1 := ha.1
      rw [hsz] at e1
      unfold chars
      rw [List.length_map, Array.length_toList]
      exact e1.symm
    · intro j x u hx hu
      obtain ⟨c, tk', hc', rfl⟩ := ha.2 j u (by simpa using hu)
      unfold chars at hx
      rw [List.getElem?_map] at hx
      have : z[j]? = some c := by simpa using hc'
      rw [this] at hx
      cases hx
      exact ⟨_, rfl⟩
  refine ⟨.ref s.heap.objs.size, upd H s.heap.objs.size (.lst (chars z)), I.laid kp (Nat.le_refl _) ⟨?_, acc.toList, c', rv, ?_⟩, rfl, q _ (I.hok.fresh (Nat.le_refl _))⟩
  · unfold chars
    rw [List.length_map, sizeLine_eq]
    omega
  · simpa using e
end Ag

end
/-! ## Exc1 -/
section
set_option linter.all false
set_option maxRecDepth 100000
namespace Ag
open PySem PySem.Spec PyProof.Rows L2
/-! ### own exceptions over Exception, whose __init__ stores -/
abbrev exT : List Value := [.type "Exception", .type "BaseException", .type "object"]
structure OexE (K : PySem.W.Frag) (C : Addr) : Prop where
  cl : ∃ (nm q : Str) (N : Addr) (bs bm : List Value) (sn : List Str) (sub : List Value) (ab : Bool) (col : Option Bool) (dd : Option Addr) (k0 k1 k2 k3 k5 : Option Value),
    K.lookup C = some (excClassObj nm q C N bs bm true sn sub ab col dd k0 k1 k2 k3 k5 "Exception.__new__") ∧ PySem.W.excTail exT bm = true
  st : PySem.W.findIn K (.ref C) "__setattr__" = some (some (.builtin "object.__setattr__")) ∧ PySem.W.subIn K (.ref C) (.type "BaseException") = some true ∧ PySem.W.typeIn K (.ref C) = some (.type "type") ∧ PySem.W.keepIn K (.ref C) = true
section
variable {X : Cx} {pins : List (Addr × Obj)} {σ : L2.St} {H : Hp} {s : Shared} {a C : Addr} {f : Str} {y : V} {u : Value} {Q : Unit → Shared → Prop} {E : Value → Shared → Prop} {A : Around}
theorem oexE_over {K : PySem.W.Frag} (T : OexE K C) : PySem.W.excOver K C exT = true ∧ ∃ cd, PySem.W.clsIn K C = some cd ∧ cd.hasDict = true := by
  obtain ⟨nm, q, N, bs, bm, sn, sub, ab, col, dd, k0, k1, k2, k3, k5, hC, hbm⟩ := T.cl
  have e : PySem.W.clsIn K C = some { name := nm, bases := bs, mro := .ref C :: bm, ns := N, qualname := q, hasDict := true, slotNames := sn, subclasses := sub, abstract := ab, collection := col, hasDel := false } := by
    unfold PySem.W.clsIn
    rw [hC] <;> rfl
  refine ⟨?_, _, e, rfl⟩
  unfold PySem.W.excOver
  rw [e]
  show (C == C && PySem.W.excTail exT bm) = true
  rw [hbm]
  simp
/-- self.f = y, the first one -/
theorem stE_new (T : OexE X.K C) (I : Inv X pins σ H s) (e : H a = some (exo a C none)) (hno : PySem.W.findIn X.K (.ref C) f = some none) (ry : RelV y u)
    (h : ∀ dx s', H dx = none → dx ≠ a → Inv X pins σ (upd (upd H dx (exd dx [(f, y)])) a (exo a C (some dx))) s' → Q () s') : wpAny (model X.prog X.w) A (setAttr (.ref a) f u) Q E s := by
  obtain ⟨ho1, cd, hcd, hhd⟩ := oexE_over T
  obtain ⟨t1, ho⟩ := exo_at I.hok e
  obtain ⟨hp, g, d, t, os⟩ := s
  refine PySem.W.set_plain (od := none) I.kIn ⟨ho, rfl, rfl, trivial⟩ T.st.1 (PySem.W.osa_openX (od := none) F.store_Exception I.kIn ⟨ho, rfl, rfl, trivial⟩ ho1 (by unfold PySem.W.takerIn; rw [hno]; rfl) fun b => ?_)
  have hal : a < hp.objs.size := Heap.lt_size ho
  refine wpAny_bind (wpAny_pure (wpAny_bind (PySem.W.instanceDict_exc (t := t1) (c2 := .none) ho (PySem.W.looks_clsIn I.kIn hcd) hhd ?_)))
  have had : a ≠ hp.objs.size := Nat.ne_of_lt hal
  have hpu : (hp.push (PySem.W.dictOf [] 0)).get? a = some (PySem.W.excObj C t1 none .none) := Heap.get?_push_of_some _ ho
  refine HandSPX.store_in_new ⟨_, #[], 0, (Heap.get?_update_other _ _ had).trans (Heap.get?_push_size _ rfl), rfl, fun e he => by simp at he, fun _ => rfl⟩ fun h' tk' hn' hs => ?_
  -- the heap behind, and one between
  have h1 : h'.get? a = some (PySem.W.excObj C t1 (some hp.objs.size) .none) := (hs.2 a had).trans (Heap.get?_update_self _ hpu rfl)
  have kp : ∀ b o, b ≠ a → hp.get? b = some o → h'.get? b = some o := fun b o hb hbo => (hs.2 b (Nat.ne_of_lt (Heap.lt_size hbo))).trans ((Heap.get?_update_other _ _ (Ne.symm hb)).trans (Heap.get?_push_of_some _ hbo))
  have m1 : (h'.update a fun _ => PySem.W.excObj C t1 none .none).get? a = some (PySem.W.excObj C t1 none .none) := Heap.get?_update_self _ h1 rfl
  have m2 : ∀ b, b ≠ a → (h'.update a fun _ => PySem.W.excObj C t1 none .none).get? b = h'.get? b := fun b hb => Heap.get?_update_other _ _ (Ne.symm hb)
  have hn2 : (h'.update a fun _ => PySem.W.excObj C t1 none .none).Ns1 hp.objs.size (fun y => if y = f then some u else none) := hn'.at fun o q => (m2 _ (Ne.symm had)).trans q
  have I1 : Inv X pins σ (upd H hp.objs.size (exd hp.objs.size [(f, y)])) ⟨h'.update a fun _ => PySem.W.excObj C t1 none .none, g, d, tk', os⟩ :=
    I.laid (a := hp.objs.size) (t' := tk') (fun b o hbo => by
      by_cases hb : b = a
      · subst hb
        rw [ho] at hbo
        rw [m1]
        exact hbo
      · rw [m2 b hb]
        exact kp b o hb hbo) (Nat.le_refl _) (exd_ok hn2 (relO_put (fs := []) ry fun _ => True.intro))
  have e1 : upd H hp.objs.size (exd hp.objs.size [(f, y)]) a = some (exo a C none) := by rw [upd_ne had]; exact e
  have I2 := I1.write (h' := h') (x := a) (e := a) (o := exo a C (some hp.objs.size)) (t' := tk') (by rw [e1]; exact True.intro) (.inl rfl) (fun b o hb q => by rw [← m2 b hb]; exact q) ⟨_, h1⟩ (exo_ok h1)
  exact h _ _ (I.hok.fresh (Nat.le_refl _)) (Ne.symm had) I2
end
end Ag

end
/-! ## Exc2 -/
section
set_option linter.all false
set_option maxRecDepth 100000
namespace Ag
open PySem PySem.Spec PyProof.Rows L2
/-- self.f = e in an own __init__ -/
def tStE (K : PySem.W.Frag) (f : Str) (to te : TE) : TS := fun D σ H => te σ H fun y H1 => to σ H1 fun x H2 => ∃ a C : Addr, x = .ref a ∧ OexE K C ∧ PySem.W.findIn K (.ref C) f = some none ∧ H2 a = some (exo a C none) ∧
  ∀ dx, H2 dx = none → dx ≠ a → D.nx σ (upd (upd H2 dx (exd dx [(f, y)])) a (exo a C (some dx)))
section
variable {X : Cx} {o e : Expr} {es : List Expr} {to te : TE} {ta : TA} {f x : Str} {p p' pos : Pos}
theorem psE_ost (ho : PE X o to) (he : PE X e te) (hs : swapsWith e (some (.Attribute o f p')) pos.line X.env = pure false := by rfl) : PS X (.Assign [.Attribute o f p'] e pos) (tStE X.K f to te) := by
  constructor
  intro pins s σ H D I h
  refine plainObj_wpAny_Assign_Attribute (thn (he.run pins s σ H _ I h) ?_) hs
  rintro v s1 ⟨y, H1, I1, r1, q1⟩
  refine thn (ho.run pins s1 σ H1 _ I1 q1) ?_
  rintro u s2 ⟨x, H2, I2, r2, a, C, rfl, T, hno, ea, q⟩
  cases (show u = Value.ref a from r2)
  exact stE_new T I2 ea hno r1 fun dx s' n ne J => ⟨σ, _, J, q dx n ne⟩
/-- C(e, ..) of such a class -/
theorem pmkE {CX : CXT} {C fI : Addr} {k : Nat} {fd : FuncData} {ps : List Str} {sp : Sp} (T : OexE X.K C) (iC : PySem.W.findIn X.K (.ref C) "__init__" = some (some (.ref fI)) ∧ PySem.W.typeIn X.K (.ref fI) = some (.type "function"))
    (F1 : FnOk X.prog X.w X.K X.mg X.base CX k fI fd ps sp) (hr : Room (k + 1) X.A) (hb : Binds X.K fd ps []) (hx : Passes CX X E0) (hg : Gl X x) (hm : X.mg x = some (.ref C)) (ha : PA X (e :: es) ta) (hdb : (x == ("__debug__" : Str)) = false := by decide)
    (he : starEach (e :: es) X.env = (false, eval e X.env) :: starEach es X.env := by rfl) (hpl : (backTo pos (starEach es X.env)).any (·.1) = false := by rfl) : PMk X (.Call (.Name x p) (e :: es) [] pos) (tMkO C sp [] ta) := by
  intro pins s σ H Q I h
  refine wpAny_Call_Name_kw (ld_glob I hg hm (PySem.W.callWith_K (h₀ := X.base) I.ok.mod.kin T.st.2.2.2 (thn (ha.run pos pins s σ H _ I h) ?_) he hpl) hdb)
  rintro us ⟨hp, g, dr, tk, os⟩ ⟨vs, H1, I1, r1, hz, q1⟩
  refine ⟨I1.kIn, ?_⟩
  show wpAny _ _ (call (.ref C) us) _ _ _
  obtain ⟨nm, q, N, bs, bm, sn, sub, ab, col, dd, k0, k1, k2, k3, k5, hC, hbm⟩ := T.cl
  have hq := q1 (hp.objs.size + 1) (I1.hok.fresh (Nat.le_succ _))
  rw [List.append_nil] at hq
  generalize hP : hp.push (PySem.W.kdv_tup us) = hp1
  have z1 : hp1.objs.size = hp.objs.size + 1 := by rw [← hP, Heap.size_push]
  have kk : ∀ b o, hp.get? b = some o → (hp1.push (HandSPX.excO C hp.objs.size)).get? b = some o := fun b o w => Heap.get?_push_of_some _ (by rw [← hP]; exact Heap.get?_push_of_some _ w)
  have gt : (hp1.push (HandSPX.excO C hp.objs.size)).get? (hp.objs.size + 1) = some (HandSPX.excO C hp.objs.size) := by rw [← z1]; exact Heap.get?_push_size _ rfl
  have I2 : Inv X pins σ (upd H1 (hp.objs.size + 1) (exo (hp.objs.size + 1) C none)) ⟨hp1.push (HandSPX.excO C hp.objs.size), g, dr, tk, os⟩ := I1.laid (t' := tk) kk (Nat.le_succ _) (exo_ok gt)
  have r2 : Vals (V.ref (hp.objs.size + 1) :: vs) (Value.ref (hp.objs.size + 1) :: us) := .cons rfl r1
  have hus : us.length ≤ 1000 := by rw [← Paired.length r1]; exact hz
  have hlen : (Value.ref (hp.objs.size + 1) :: us).length = ps.length := r2.length.symm.trans (F1.len _ _ _ _ hq)
  have bb := hb ⟨hp1.push (HandSPX.excO C hp.objs.size), g, dr, tk, os⟩ (Value.ref (hp.objs.size + 1) :: us) I2.kIn (by rw [List.append_nil]; exact hlen)
  rw [List.append_nil] at bb
  have run := F1.run _ X.stack _ _ ⟨Value.ref (hp.objs.size + 1) :: us, []⟩ _ _ _ E0 (hr.make C us []) (I2.env0.make C us []) bb r2 hq
  refine wpAny_call (HandSPX.call_own F.excBase_Exception (fun Y => PySem.W.excTail_contains Y bm hbm) (I1.kIn _ _ hC) (PySem.W.looks_findIn I1.kIn iC.1) (fun self => PySem.W.bind_fn I1.kIn self iC.2) (Nat.le_trans hus (by rw [sizeLine_eq]; omega)) ?_)
  rw [hP]
  refine codeAny_mono run ?_
  rintro (er | fl) s' hq'
  · exact hx pins σ _ _ er s' I2 hq'
  cases fl with
  | ret u =>
    obtain ⟨v, H2, os2, bare2, un2, hok2, rv, rfl, d, fs, ea, ed, hd1, q2⟩ := hq'
    obtain ⟨h2, g2, d2, t2, os'⟩ := s'
    exact ⟨rv, mk_end (raises_own T.st.2.1 T.st.2.2.1) I1 (Nat.le_succ _) kk un2 hok2 os2 bare2 ea ed hd1 q2⟩
  | next => exact hq'.elim
  | brk => exact hq'.elim
  | cont => exact hq'.elim
end
end Ag

end
/-! ## End0 -/
section
set_option linter.all false
set_option maxRecDepth 100000
namespace Ag
open PySem PySem.Spec PyProof.Rows L2
/-! ### the end of a law's row, over FnG -/
/-- the heap at the law's entry: the script alone is known -/
def hScr (K : PySem.W.Frag) (a : Addr) (o : Obj) (xs : List V) : Hp := fun b => if b = a ∧ K.lookup a = none then some (.frz o (.lst xs)) else none
theorem hScr_at {K : PySem.W.Frag} {a b : Addr} {o : Obj} {xs : List V} {u : HO} (h : hScr K a o xs b = some u) : b = a ∧ K.lookup a = none ∧ u = .frz o (.lst xs) := by
  unfold hScr at h
  split at h
  · rename_i c
    exact ⟨c.1, c.2, (Option.some.inj h).symm⟩
  · cases h
theorem hScr_only {K : PySem.W.Frag} {a b : Addr} {o : Obj} {xs : List V} : hScr K a o xs b = none ∨ hScr K a o xs b = some (.frz o (.lst xs)) := by
  cases h : hScr K a o xs b with
  | none => exact .inl rfl
  | some u => exact .inr (by rw [(hScr_at h).2.2])
theorem lawG {P : Program} {w : World} {K : PySem.W.Frag} {mg mb : Str → Option Value} {k : Nat} {fa a : Addr} {fd : FuncData} {x : Str} {sp : Sp} {s₁ : Shared} {vs : List Value} {ns : List Int}
    (KX : K.In s₁.heap) (hns : s₁.heap.Ns mainGlobals mg) (hb : s₁.heap.Ns builtinsNs mb) (hbb : ∀ x : Str, x ≠ "__name__" → mb x = bootBuiltins x) (hlim : s₁.heap.NoLimit) (gens : s₁.gens = #[])
    (ha : s₁.heap.get? a = some { cls := .type "list", data := .seq vs.toArray }) (hi : IntsAre vs ns) (hl : ns.length ≤ sizeLine) (hr : Room k callerA)
    (F : ∀ base : Heap, K.In base → base.Ns mainGlobals mg → FnG P w K mg base k fa fd [x] sp) (hbind : ∀ (s : Shared) (u : Value), BindsTo s fd ⟨[u], []⟩ [(x, u)])
    (hsp : ∀ H : Hp, SqL K H a (ns.map V.int) → sp [.ref a] H (fun v _ => v = .bl true) E0) :
    codeAny (model P w) callerA (.call (.ref fa) ⟨[.ref a], []⟩) (fun r s' => r = .ok (.ret (.bool true)) ∧ OldK s₁.heap s'.heap ∧ s'.os = s₁.os ∧ AllBare s'.gens) s₁ := by
  generalize hH : hScr K a { cls := .type "list", data := .seq vs.toArray } (ns.map V.int) = H
  have at_ : ∀ {b u}, H b = some u → b = a ∧ K.lookup a = none ∧ u = .frz { cls := .type "list", data := .seq vs.toArray } (.lst (ns.map V.int)) := fun h => hScr_at (by rw [hH]; exact h)
  have rv : Vals (ns.map V.int) vs := vals_ints hi
  have hok : HOk P w H s₁.heap := fun b u e => by
    obtain ⟨rfl, _, rfl⟩ := at_ e
    exact ⟨ha, by rw [List.length_map]; exact hl, vs, _, rv, ha⟩
  have sq : SqL K H a (ns.map V.int) := by
    cases hk : K.lookup a with
    | some o =>
      have e := KX a o hk
      rw [ha] at e
      cases e
      exact .inr ⟨_, vs.toArray, _, hk, rfl, rfl, rfl, by rw [List.size_toArray, hi.length]; exact hl, by simpa using rv⟩
    | none => exact .inl (.inr ⟨_, by rw [← hH]; exact if_pos ⟨rfl, hk⟩⟩)
  have keepB : ∀ {b : Addr} {o : Obj}, s₁.heap.get? b = some o → H b = none → (hidT s₁.heap H).get? b = some o := fun e n => hidT_get e n
  have dicts : ∀ {b : Addr} {o : Obj} {es : Array DictEntry} {ep : Nat}, s₁.heap.get? b = some o → o.data = .dict es ep → H b = none := by
    intro b o es ep e d
    cases q : H b with
    | none => rfl
    | some u =>
      obtain ⟨rfl, _, _⟩ := at_ q
      rw [ha] at e
      cases e
      cases d
  have nsB : ∀ {b : Addr} {m : Str → Option Value}, s₁.heap.Ns b m → (hidT s₁.heap H).Ns b m := by
    rintro b m ⟨o, es, ep, e, d, r⟩
    exact ⟨o, es, ep, keepB e (dicts e d), d, r⟩
  have kinB : K.In (hidT s₁.heap H) := by
    intro b o e
    refine keepB (KX b o e) ?_
    cases q : H b with
    | none => rfl
    | some u =>
      obtain ⟨rfl, n, _⟩ := at_ q
      rw [n] at e
      cases e
  have modB : Mod K mg (hidT s₁.heap H) := ⟨kinB, nsB hns, ⟨mb, nsB hb, hbb⟩, hlim.elim fun mc z => ⟨mc, nsB z.1, z.2⟩⟩
  have env : Env0 P w K mg (hidT s₁.heap H) callerA [] s₁ H :=
    ⟨rfl, modB, fun _ _ e => of_hidT e, Nat.le_of_eq (hidT_size s₁.heap H), trivial, (fun b z => by cases z), hok, .of_eq gens⟩
  refine codeAny_mono ((F _ kinB (nsB hns)).run callerA [] s₁ H ⟨[.ref a], []⟩ [.ref a] [.ref a] _ _ hr rfl env (hbind s₁ (.ref a)) (.cons rfl .nil) (hsp H sq)) ?_
  intro r s' h
  match r, h with
  | .error e, h => exact h.elim
  | .ok (.ret u), h =>
    obtain ⟨v, H', os, bare, un, hok', r', rfl⟩ := h
    obtain rfl : u = Value.bool true := r'
    refine ⟨rfl, OldK.of_keep fun b o e => ?_, os, bare⟩
    cases q : H b with
    | none => exact un.keep b o e q (fun z => by cases z) (fun z => by cases z)
    | some u =>
      obtain ⟨rfl, _, rfl⟩ := at_ q
      have e1 := (hok b _ q).1
      have e2 := (hok' b _ (un.frzs b _ _ q)).1
      rw [e] at e1
      rw [Option.some.inj e1]
      exact e2
theorem walkG {l : PySem.W.OpenLaw} {n k : Nat} {q : Program} {loose : List Str} {XP : (Str → Option Value) → Heap → Prop} {YP : World → Heap → Prop} {d : DefRec} {K : Params → PySem.W.Frag} {sp : PySem.W.Frag → Sp} {x : Str}
    (hn : l.most = some n) (hn2 : n ≤ sizeLine) (hdf : d.params.defaults = []) (hr : Room k callerA) (hY : ∀ (w : World) (h : Heap), YP w h → (K w.params).In h)
    (F : ∀ (w : World) (mg : Str → Option Value) (fa : Addr) (h : Heap), (K w.params).In h → h.Ns mainGlobals mg → mg d.name = some (.ref fa) →
      ∃ fd : FuncData, (∀ (s : Shared) (u : Value), BindsTo s fd ⟨[u], []⟩ [(x, u)]) ∧ ∀ base : Heap, (K w.params).In base → base.Ns mainGlobals mg → FnG l.prog w (K w.params) mg base k fa fd [x] (sp (K w.params)))
    (hsp : ∀ (K : PySem.W.Frag) (H : Hp) (a : Addr) (ns : List Int), ns.length ≤ n → SqL K H a (ns.map V.int) → sp K [.ref a] H (fun v _ => v = .bl true) E0) :
    PySem.W.WalkO q loose XP YP l.row.toRowW d [] (fun f vs => PySem.call f vs) := by
  refine Att.attach_call hn hdf ?_
  intro w s₀ s₁ mg mb fa o pm cd doc a vs ns G Y ho hd hcd hmg hobj hints hlen hg
  obtain ⟨fd, hb, hF⟩ := F w mg fa _ (hY w _ Y) G.T.g hmg
  exact lawG (hY w _ Y) G.T.g G.T.b G.T.builtins G.T.nolimit hg hobj hints (Nat.le_trans hlen hn2) hr hF hb (fun H sq => hsp _ H a ns hlen sq)
end Ag

end
/-! ## D0 -/
section
set_option linter.all false
set_option maxRecDepth 100000
namespace Ag
open PySem PySem.Spec PyProof.Rows L2
open SX (S S_len S_cat S_inj)
/-! ### data of any depth, dicts too, away from the deck -/
def At (p c : Addr) (H : Hp) (a : Addr) (o : HO) : Prop := a ≠ p ∧ a ≠ c ∧ H a = some o
def kD : Key → PyData
  | .inl i => .int i
  | .inr x => .str x
mutual
inductive Dg (p c : Addr) (H : Hp) : V → PyData → Prop
  | non : Dg p c H .non .none
  | bl (b : Bool) : Dg p c H (.bl b) (.bool b)
  | int (i : Int) : Dg p c H (.int i) (.int i)
  | str (x : Str) : Dg p c H (.str x) (.str x)
  | lst {a : Addr} {xs : List V} {ds : List PyData} : At p c H a (.lst xs) → DgA p c H xs ds → Dg p c H (.ref a) (.list ds)
  | tup {a : Addr} {xs : List V} {ds : List PyData} : At p c H a (.tup xs) → DgA p c H xs ds → Dg p c H (.ref a) (.tuple ds)
  | dic {a : Addr} {kvs : List (Key × V)} {ds : List (PyData × PyData)} : At p c H a (.dK kvs) → DgK p c H kvs ds → Dg p c H (.ref a) (.dict ds)
inductive DgA (p c : Addr) (H : Hp) : List V → List PyData → Prop
  | nil : DgA p c H [] []
  | cons {v : V} {vs : List V} {d : PyData} {ds : List PyData} : Dg p c H v d → DgA p c H vs ds → DgA p c H (v :: vs) (d :: ds)
inductive DgK (p c : Addr) (H : Hp) : List (Key × V) → List (PyData × PyData) → Prop
  | nil : DgK p c H [] []
  | cons {k : Key} {v : V} {kvs : List (Key × V)} {d : PyData} {ds : List (PyData × PyData)} : Dg p c H v d → DgK p c H kvs ds → DgK p c H ((k, v) :: kvs) ((kD k, d) :: ds)
end
/-- what data leans on stays -/
def Kp (p c : Addr) (H H' : Hp) : Prop := ∀ b o, b ≠ p → b ≠ c → H b = some o → H' b = some o
theorem Kp.refl {p c : Addr} {H : Hp} : Kp p c H H := fun _ _ _ _ e => e
theorem Kp.trans {p c : Addr} {H H1 H2 : Hp} (a : Kp p c H H1) (b : Kp p c H1 H2) : Kp p c H H2 := fun x o h1 h2 e => b x o h1 h2 (a x o h1 h2 e)
theorem Kp.same {p c : Addr} {H H' : Hp} (s : Same H H') : Kp p c H H' := fun b o _ _ e => s b o e
theorem At.kp {p c a : Addr} {H H' : Hp} {o : HO} (h : At p c H a o) (g : Kp p c H H') : At p c H' a o := ⟨h.1, h.2.1, g a o h.1 h.2.1 h.2.2⟩
mutual
theorem Dg.kp {p c : Addr} {H H' : Hp} (g : Kp p c H H') : ∀ (d : PyData) (v : V), Dg p c H v d → Dg p c H' v d
  | .none, _, h => by cases h; exact .non
  | .bool _, _, h => by cases h; exact .bl _
  | .int _, _, h => by cases h; exact .int _
  | .str _, _, h => by cases h; exact .str _
  | .list ds, _, h => by
    cases h with
    | lst a b => exact .lst (a.kp g) (DgA.kp g ds _ b)
  | .tuple ds, _, h => by
    cases h with
    | tup a b => exact .tup (a.kp g) (DgA.kp g ds _ b)
  | .dict ds, _, h => by
    cases h with
    | dic a b => exact .dic (a.kp g) (DgK.kp g ds _ b)
theorem DgA.kp {p c : Addr} {H H' : Hp} (g : Kp p c H H') : ∀ (ds : List PyData) (vs : List V), DgA p c H vs ds → DgA p c H' vs ds
  | [], _, h => by cases h; exact .nil
  | d :: ds, _, h => by
    cases h with
    | cons a b => exact .cons (Dg.kp g d _ a) (DgA.kp g ds _ b)
theorem DgK.kp {p c : Addr} {H H' : Hp} (g : Kp p c H H') : ∀ (ds : List (PyData × PyData)) (vs : List (Key × V)), DgK p c H vs ds → DgK p c H' vs ds
  | [], _, h => by cases h; exact .nil
  | (_, d) :: ds, _, h => by
    cases h with
    | cons a b => exact .cons (Dg.kp g d _ a) (DgK.kp g ds _ b)
end
theorem Dg.to {p c : Addr} {H H' : Hp} {v : V} {d : PyData} (h : Dg p c H v d) (g : Kp p c H H') : Dg p c H' v d := Dg.kp g d v h
theorem DgA.to {p c : Addr} {H H' : Hp} {v : List V} {d : List PyData} (h : DgA p c H v d) (g : Kp p c H H') : DgA p c H' v d := DgA.kp g d v h
theorem DgA.len {p c : Addr} {H : Hp} : ∀ {vs : List V} {ds : List PyData}, DgA p c H vs ds → vs.length = ds.length
  | [], [], _ => rfl
  | _ :: _, _ :: _, .cons _ t => by rw [List.length_cons, List.length_cons, DgA.len t]
theorem DgA.at_ {p c : Addr} {H : Hp} : ∀ {vs : List V} {ds : List PyData} {i : Nat} {v : V}, DgA p c H vs ds → vs[i]? = some v → ∃ d, ds[i]? = some d ∧ Dg p c H v d
  | _ :: _, _ :: _, 0, _, .cons h _, e => by
    simp at e
    subst e
    exact ⟨_, rfl, h⟩
  | _ :: _, _ :: _, i + 1, _, .cons _ t, e => DgA.at_ (i := i) t (by simpa using e)
  | [], [], _, _, _, e => by simp at e
theorem DgA.app {p c : Addr} {H : Hp} : ∀ {vs ws : List V} {ds es : List PyData}, DgA p c H vs ds → DgA p c H ws es → DgA p c H (vs ++ ws) (ds ++ es)
  | [], _, [], _, _, h => h
  | _ :: _, _, _ :: _, _, .cons a b, h => .cons a (DgA.app b h)
theorem DgA.take {p c : Addr} {H : Hp} : ∀ {vs : List V} {ds : List PyData} (n : Nat), DgA p c H vs ds → DgA p c H (vs.take n) (ds.take n)
  | [], [], _, _ => by simpa using DgA.nil
  | _ :: _, _ :: _, 0, _ => by simpa using DgA.nil
  | _ :: _, _ :: _, n + 1, .cons a b => .cons a (DgA.take n b)
theorem DgA.drop {p c : Addr} {H : Hp} : ∀ {vs : List V} {ds : List PyData} (n : Nat), DgA p c H vs ds → DgA p c H (vs.drop n) (ds.drop n)
  | [], [], _, _ => by simpa using DgA.nil
  | _ :: _, _ :: _, 0, h => h
  | _ :: _, _ :: _, n + 1, .cons _ b => DgA.drop n b
theorem DgA.rev {p c : Addr} {H : Hp} : ∀ {vs : List V} {ds : List PyData}, DgA p c H vs ds → DgA p c H vs.reverse ds.reverse
  | [], [], _ => .nil
  | _ :: _, _ :: _, .cons a b => by
    rw [List.reverse_cons, List.reverse_cons]
    exact (DgA.rev b).app (.cons a .nil)
/-! ### the machine reads it -/
mutual
/-- no list at any depth -/
def noL : PyData → Bool
  | .none => true
  | .bool _ => true
  | .int _ => true
  | .str _ => true
  | .list _ => false
  | .tuple xs => noLA xs
  | .dict kvs => noLK kvs
def noLA : List PyData → Bool
  | [] => true
  | x :: xs => noL x && noLA xs
def noLK : List (PyData × PyData) → Bool
  | [] => true
  | (_, v) :: r => noL v && noLK r
end
section
variable {X : Cx} {pins : List (Addr × Obj)} {σ : L2.St} {H : Hp} {s : Shared} {p c : Addr}
theorem key_reads {P : Program} {w : World} {h : Heap} {k : Key} {v : Value} (e : (mixKind P w).is k v = true) : Reads h v (kD k) [] := by
  rcases keyIs_shape e with ⟨i, t, rfl, rfl⟩ | ⟨x, t, rfl, rfl⟩
  · exact .int i t
  · exact .str x t
mutual
theorem Dg.reads (I : Inv X pins σ H s) : ∀ (d : PyData) (v : V) (u : Value), Dg p c H v d → RelV v u → ∃ as, Reads s.heap u d as ∧ (noL d = true → sysModules ∉ as)
  | .none, _, _, h, r => by
    cases h
    cases r
    exact ⟨_, .none, by simp⟩
  | .bool b, _, _, h, r => by
    cases h
    cases r
    exact ⟨_, .bool b, by simp⟩
  | .int i, _, _, h, r => by
    cases h
    obtain ⟨t, rfl⟩ := r
    exact ⟨_, .int i t, by simp⟩
  | .str x, _, _, h, r => by
    cases h
    obtain ⟨t, rfl⟩ := r
    exact ⟨_, .str x t, by simp⟩
  | .list ds, _, _, h, r => by
    cases h with
    | lst ha hd =>
      cases r
      obtain ⟨its, rv, ⟨o, n, ho, hc, _, hdt⟩, _⟩ := I.list (SqL.of ha.2.2)
      obtain ⟨as, hr, hn⟩ := DgA.reads I ds _ its hd rv
      exact ⟨_, .list ho hc hdt hr, fun z => by simp [noL] at z⟩
  | .tuple ds, _, _, h, r => by
    cases h with
    | tup ha hd =>
      cases r
      obtain ⟨its, rv, ⟨o, ho, hc, n, hdt⟩, _⟩ := I.tuple (SqT.of ha.2.2)
      obtain ⟨as, hr, hn⟩ := DgA.reads I ds _ its hd rv
      exact ⟨_, .tuple ho hc hdt hr, fun z => hn (by simpa [noL] using z)⟩
  | .dict ds, _, _, h, r => by
    cases h with
    | dic ha hd =>
      cases r
      obtain ⟨_, hsys, vs, kv, o, es, ep, ho, hex, hdt, _, hps, _⟩ := I.hok _ _ ha.2.2
      obtain ⟨as, bs, r1, r2, n1, n2⟩ := DgK.reads I ds _ vs es.toList hd kv hps
      refine ⟨_, .dict ho hex.1 hdt r1 r2, ?_⟩
      intro hl z
      rcases List.mem_append.mp z with z | z
      · rcases List.mem_cons.mp z with z | z
        · rw [← z] at hsys
          simp at hsys
        · exact n1 z
      · exact n2 (by simpa [noL] using hl) z
theorem DgA.reads (I : Inv X pins σ H s) : ∀ (ds : List PyData) (vs : List V) (us : List Value), DgA p c H vs ds → Vals vs us → ∃ as, ReadsAll s.heap us ds as ∧ (noLA ds = true → sysModules ∉ as)
  | [], _, _, h, r => by
    cases h
    cases r
    exact ⟨_, .nil, by simp⟩
  | d :: ds, _, _, h, r => by
    cases h with
    | cons h1 h2 =>
      cases r with
      | cons r1 r2 =>
        obtain ⟨as, q1, n1⟩ := Dg.reads I d _ _ h1 r1
        obtain ⟨bs, q2, n2⟩ := DgA.reads I ds _ _ h2 r2
        have hh : ∀ z : noLA (d :: ds) = true, noL d = true ∧ noLA ds = true := fun z => by simpa [noLA] using z
        exact ⟨_, .cons q1 q2, fun z y => (List.mem_append.mp y).elim (n1 (hh z).1) (n2 (hh z).2)⟩
theorem DgK.reads (I : Inv X pins σ H s) : ∀ (ds : List (PyData × PyData)) (kvs : List (Key × V)) (vs : List (Key × Value)) (es : List DictEntry), DgK p c H kvs ds → KV kvs vs → Pairs (mixKind X.prog X.w) es vs →
    ∃ as bs, ReadsAll s.heap (es.map (·.key)) (ds.map (·.1)) as ∧ ReadsAll s.heap (es.map (·.val)) (ds.map (·.2)) bs ∧ sysModules ∉ as ∧ (noLK ds = true → sysModules ∉ bs)
  | [], _, _, _, h, r, q => by
    cases h
    cases r
    cases q
    exact ⟨_, _, .nil, .nil, by simp, by simp⟩
  | (k, d) :: ds, _, _, _, h, r, q => by
    cases h with
    | cons h1 h2 =>
      cases r with
      | cons r1 r2 =>
        cases q with
        | cons q1 q2 q3 =>
          obtain ⟨e1, e2⟩ := r1
          obtain ⟨as, bs, a1, a2, n1, n2⟩ := DgK.reads I ds _ _ _ h2 r2 q3
          obtain ⟨cs, b1, n3⟩ := Dg.reads I d _ _ h1 e2
          rw [← e1] at q1
          rw [← q2] at b1
          exact ⟨_, _, .cons (key_reads q1) a1, .cons b1 a2, by simpa using n1, fun z y => (List.mem_append.mp y).elim (n3 (by simp [noLK] at z; exact z.1)) (n2 (by simp [noLK] at z; exact z.2))⟩
end
/-- repr of data -/
theorem call_repr_any (hu : X.A.units + 66 < cLine) (hG : X.A.guards = some []) : CallR X (.builtin "repr") (fun xs H Q => ∃ x d p c, xs = [x] ∧ Dg p c H x d ∧ d.showable = true ∧ (d.hasDict = true → noL d = true) ∧ d.depth ≤ 64 ∧ d.shown.length ≤ sizeLine ∧ Q (.str d.shown) H) := by
  intro pins s σ H vs us Q I r h
  obtain ⟨x, d, p, c, rfl, hd, h1, hk, h3, h4, q⟩ := h
  obtain ⟨u, rfl, ru⟩ := vals1 r
  cases x with
  | ref a =>
    obtain ⟨as, rd, na⟩ := Dg.reads I d (.ref a) u hd ru
    obtain rfl : u = Value.ref a := ru
    exact repr_of_reads' rd h1 (fun z => na (hk z)) hG (by omega) (fun _ _ e => e) (fun h' u tk kp => ⟨.str d.shown, H, I.kept kp, ⟨_, rfl⟩, q⟩) h4
  | non =>
    cases hd
    obtain rfl : u = Value.none := ru
    exact PySem.P.repr_of_none ⟨.str _, H, I.tok _, ⟨_, rfl⟩, by rw [PyData.shown_none] at q; exact q⟩
  | bl b =>
    cases hd
    obtain rfl : u = Value.bool b := ru
    exact PySem.P.repr_of_bool ⟨.str _, H, I.tok _, ⟨_, rfl⟩, by rw [PyData.shown_bool] at q; exact q⟩
  | int i =>
    cases hd
    obtain ⟨t, rfl⟩ := ru
    exact PySem.P.repr_of_int (by simpa [PyData.showable] using h1) ⟨.str _, H, I.tok _, ⟨_, rfl⟩, by rw [PyData.shown_int] at q; exact q⟩
  | str z =>
    cases hd
    obtain ⟨t, rfl⟩ := ru
    rw [PyData.shown_str] at q h4
    exact PySem.P.repr_of_str ⟨.str _, H, I.tok _, ⟨_, rfl⟩, q⟩ h4
  | byt b => cases hd
  | flt b => cases hd
  | ty n => cases hd
/-- the type of data -/
def tyD : PyData → String
  | .none => "NoneType"
  | .bool _ => "bool"
  | .int _ => "int"
  | .str _ => "str"
  | .list _ => "list"
  | .tuple _ => "tuple"
  | .dict _ => "dict"
theorem Dg.tyx {K : PySem.W.Frag} {v : V} {d : PyData} (h : Dg p c H v d) : TyX K H v (.type (tyD d)) := by
  cases h with
  | non => exact .base .non
  | bl b => exact .base (.bl b)
  | int i => exact .base (.int i)
  | str x => exact .base (.str x)
  | lst a _ => exact .base (.lst a.2.2)
  | tup a _ => exact .base (.tup a.2.2)
  | dic a _ => exact .base (.dK a.2.2)
def isI : PyData → Bool
  | .int _ => true
  | .bool _ => true
  | _ => false
def isB : PyData → Bool
  | .bool _ => true
  | _ => false
def isS : PyData → Bool
  | .str _ => true
  | _ => false
def isT : PyData → Bool
  | .tuple _ => true
  | _ => false
section
variable {K : PySem.W.Frag}
theorem isi_I (d : PyData) : PySem.W.kitOne K (.type (tyD d)) (.type "int") = some (isI d) := by
  cases d <;> exact kit_ty (by simp only [tyD, isI]; decide +kernel)
theorem isi_B (d : PyData) : PySem.W.kitOne K (.type (tyD d)) (.type "bool") = some (isB d) := by
  cases d <;> exact kit_ty (by simp only [tyD, isB]; decide +kernel)
theorem isi_S (d : PyData) : PySem.W.kitOne K (.type (tyD d)) (.type "str") = some (isS d) := by
  cases d <;> exact kit_ty (by simp only [tyD, isS]; decide +kernel)
theorem isi_T (d : PyData) : PySem.W.kitOne K (.type (tyD d)) (.type "tuple") = some (isT d) := by
  cases d <;> exact kit_ty (by simp only [tyD, isT]; decide +kernel)
end
end
end Ag

end
/-! ## D1 -/
section
set_option linter.all false
set_option maxRecDepth 100000
namespace Ag
open PySem PySem.Spec PyProof.Rows L2
open AutoSeq1 (wpAny_loadPart')
open MeetsSeq SeqAt
/-! ### a dict is no text and no tuple -/
theorem dctS (z : Addr) (es : Array DictEntry) (e1 : Nat) (q : Option Addr) (sl : Array (Option Value)) (b : Str) (k : Tok) :
    Meets (Builtin.«dict.__eq__» ⟨[.ref z, .str b k], []⟩) (fun _ R s => s.heap.get? z = some { cls := .type "dict", dict := q, data := .dict es e1, slots := sl } ∧ R (.ok (.ret .notImplemented)) s) :=
  .of_wp fun pr w A R s y => by
    obtain ⟨hp, g, dr, tk, os⟩ := s
    obtain ⟨hz, y⟩ := y
    have f1 := F.sub_str_dict
    wp_walk using wpAny_loadPart' hz, wpAny_load hz
    exact ⟨_, rfl, y⟩
theorem strD (b : Str) (k : Tok) (z : Addr) (es : Array DictEntry) (e1 : Nat) (q : Option Addr) (sl : Array (Option Value)) :
    Meets (Builtin.«str.__eq__» ⟨[.str b k, .ref z], []⟩) (fun _ R s => s.heap.get? z = some { cls := .type "dict", dict := q, data := .dict es e1, slots := sl } ∧ R (.ok (.ret .notImplemented)) s) :=
  .of_wp fun pr w A R s y => by
    obtain ⟨hp, g, dr, tk, os⟩ := s
    obtain ⟨hz, y⟩ := y
    wp_walk using wpAny_loadPart' hz, wpAny_load hz
    exact ⟨_, rfl, y⟩
theorem dctT (z t : Addr) (es : Array DictEntry) (e1 : Nat) (q q2 : Option Addr) (sl sl2 : Array (Option Value)) (its : Array Value) (n : Nat) :
    Meets (Builtin.«dict.__eq__» ⟨[.ref z, .ref t], []⟩) (fun _ R s => s.heap.get? z = some { cls := .type "dict", dict := q, data := .dict es e1, slots := sl } ∧ s.heap.get? t = some { cls := .type "tuple", dict := q2, data := .seq its n, slots := sl2 } ∧ R (.ok (.ret .notImplemented)) s) :=
  .of_wp fun pr w A R s y => by
    obtain ⟨hp, g, dr, tk, os⟩ := s
    obtain ⟨hz, ht, y⟩ := y
    have f1 := F.sub_tuple_dict
    wp_walk using wpAny_loadPart' hz, wpAny_load hz, wpAny_loadPart' ht, wpAny_load ht
    exact ⟨_, rfl, y⟩
theorem tupD (t z : Addr) (es : Array DictEntry) (e1 : Nat) (q q2 : Option Addr) (sl sl2 : Array (Option Value)) (its : Array Value) (n : Nat) :
    Meets (Builtin.«tuple.__eq__» ⟨[.ref t, .ref z], []⟩) (fun _ R s => s.heap.get? z = some { cls := .type "dict", dict := q, data := .dict es e1, slots := sl } ∧ s.heap.get? t = some { cls := .type "tuple", dict := q2, data := .seq its n, slots := sl2 } ∧ R (.ok (.ret .notImplemented)) s) :=
  .of_wp fun pr w A R s y => by
    obtain ⟨hp, g, dr, tk, os⟩ := s
    obtain ⟨hz, ht, y⟩ := y
    have f1 := F.sub_dict_tuple
    wp_walk using wpAny_loadPart' hz, wpAny_load hz, wpAny_loadPart' ht, wpAny_load ht
    exact ⟨_, rfl, y⟩
section
variable {A : Around} {s : Shared}
theorem eq_strD {z : Addr} {o : Obj} {es : Array DictEntry} {e1 : Nat} (b : Str) (k : Tok) (ho : s.heap.get? z = some o) (hc : o.cls = .type "dict") (hd : o.data = .dict es e1) (hu : A.units < cLine) : EqAt A s (.str b k) (.ref z) false := by
  intro pr w E Q y
  obtain ⟨cls, q, data, sl⟩ := o
  simp only at hc hd
  subst hc hd
  unfold eqBool
  refine wpAny_holding (wpAny_ite_split (fun hab => absurd (eq_of_beq hab) nofun) fun _ => ?_)
  refine wpAny_bind ?_
  refine rc_eq_decline_or (k := false) (typeIs_str s b k) ⟨_, ho, rfl⟩ (by decide) F.sub_dict_str F.slot_str_eq F.slot_dict_eq_refl ?_ ?_ ?_ (.inr hu) (wpAny_truthy_bool y)
  · exact fun _ hq => call_meets F.slot_str_eq (typeIs_str s b k) F.entry_str_eq (F.args_str_eq_2 _ _) (strD b k z es e1 q sl) ⟨ho, hq⟩
  · exact fun _ hq => call_meets F.slot_dict_eq_refl ⟨_, ho, rfl⟩ F.entry_dict_eq (F.args_dict_eq_2 _ _) (dctS z es e1 q sl b k) ⟨ho, hq⟩
  · exact fun _ hq => wpAny_of_eq (rfl : isSame (.str b k) (.ref z) = pure false) hq
theorem ne_dt {z t : Addr} {o u : Obj} (ho : s.heap.get? z = some o) (hc : o.cls = .type "dict") (hu : s.heap.get? t = some u) (hc2 : u.cls = .type "tuple") : z ≠ t := by
  rintro rfl
  rw [ho] at hu
  cases hu
  rw [hc] at hc2
  exact absurd (Value.type.inj hc2) (by decide)
theorem rc_dictT {z t : Addr} {o : Obj} {es : Array DictEntry} {e1 : Nat} {its : Array Value} (ho : s.heap.get? z = some o) (hc : o.cls = .type "dict") (hd : o.data = .dict es e1) (ht : s.heap.IsTuple t its) (hu : A.units < cLine) :
    RcAt A s (.ref z) (.ref t) false := by
  intro pr w E Q y
  obtain ⟨u, hu1, hc2, n, hd2⟩ := ht
  have ne := ne_dt ho hc hu1 hc2
  obtain ⟨cls, q, data, sl⟩ := o
  obtain ⟨cls2, q2, data2, sl2⟩ := u
  simp only at hc hd hc2 hd2
  subst hc hd hc2 hd2
  refine rc_eq_decline_or (k := false) ⟨_, ho, rfl⟩ ⟨_, hu1, rfl⟩ (by decide) F.sub_tuple_dict F.slot_dict_eq F.slot_tuple_eq_refl ?_ ?_ ?_ (.inr hu) y
  · exact fun _ hq => call_meets F.slot_dict_eq ⟨_, ho, rfl⟩ F.entry_dict_eq (F.args_dict_eq_2 _ _) (dctT z t es e1 q q2 sl sl2 its n) ⟨ho, hu1, hq⟩
  · exact fun _ hq => call_meets F.slot_tuple_eq_refl ⟨_, hu1, rfl⟩ F.entry_tuple_eq (F.args_tuple_eq_2 _ _) (tupD t z es e1 q q2 sl sl2 its n) ⟨ho, hu1, hq⟩
  · intro Q' hq
    show wpAny _ _ (if (z == t) = true then pure true else _) _ _ _
    rw [if_neg (by simpa using ne)]
    refine wpAny_bind (wpAny_load ho (wpAny_bind (wpAny_load hu1 ?_)))
    split
    · rename_i h1 h2 _ _
      simp at h1
    · exact wpAny_pure hq
end
end Ag

end
/-! ## D2 -/
section
set_option linter.all false
set_option maxRecDepth 100000
namespace Ag
open PySem PySem.Spec PyProof.Rows L2
open SX (S S_len S_cat S_inj)
open SeqAt
/-! ### comparisons of data -/
section
variable {X : Cx}
def rEqG : R2 := fun x y H Q => ∃ p c d e, Dg p c H x d ∧ Dg p c H y e ∧ SeqAt.shaped d = true ∧ SeqAt.shaped e = true ∧ Q (.bl (PyData.eqv d e)) H
def rNeG : R2 := fun x y H Q => ∃ p c d e, Dg p c H x d ∧ Dg p c H y e ∧ SeqAt.shaped d = true ∧ SeqAt.shaped e = true ∧ Q (.bl (!PyData.eqv d e)) H
theorem op_eqG (hu : X.A.units + 64 < cLine) : OpR X (compareOp .Eq) rEqG := by
  intro pins s σ H x y v u Q I rx ry h
  obtain ⟨p, c, d, e, hd, he, sd, se, q⟩ := h
  obtain ⟨as, r1, _⟩ := Dg.reads I d x v hd rx
  obtain ⟨bs, r2, _⟩ := Dg.reads I e y u he ry
  exact SeqAt.compareEq_shaped r1 r2 sd se hu ⟨.bl _, H, I, rfl, q⟩
theorem op_neG (hu : X.A.units + 64 < cLine) : OpR X (compareOp .NotEq) rNeG := by
  intro pins s σ H x y v u Q I rx ry h
  obtain ⟨p, c, d, e, hd, he, sd, se, q⟩ := h
  obtain ⟨as, r1, _⟩ := Dg.reads I d x v hd rx
  obtain ⟨bs, r2, _⟩ := Dg.reads I e y u he ry
  exact SeqAt.compareNe_shaped r1 r2 sd se hu ⟨.bl _, H, I, rfl, q⟩
/-- any data against the empty tuple -/
def isT0 : PyData → Bool
  | .tuple [] => true
  | _ => false
def ascS : PyData → Bool
  | .str x => PyData.strOk x
  | _ => true
def rEqT0 : R2 := fun x y H Q => ∃ p c d t, Dg p c H x d ∧ ascS d = true ∧ y = .ref t ∧ H t = some (.tup []) ∧ Q (.bl (isT0 d)) H
theorem op_eqT0 (hu : X.A.units + 64 < cLine) : OpR X (compareOp .Eq) rEqT0 := by
  intro pins s σ H x y v u Q I rx ry h
  obtain ⟨p, c, d, t, hd, ha, rfl, ht, q⟩ := h
  cases ry
  obtain ⟨its, rv, hT, _⟩ := I.tuple (SqT.of ht)
  cases rv
  have hz : Reads s.heap (.ref t) (.tuple []) [] := by
    obtain ⟨o, ho, hc, n, hdt⟩ := hT
    exact .tuple ho hc hdt .nil
  have flat : ∀ (d : PyData), Dg p c H x d → d.canLay0 = true → d.depth = 0 → PyData.eqv d (.tuple []) = false → Q (.bl false) H → wpAny (model X.prog X.w) X.A (compareOp .Eq v (.ref t)) (EP X pins σ Q) X.xe s := by
    intro d hd hl h0 he q
    obtain ⟨as, r1, _⟩ := Dg.reads I d x v hd rx
    refine SeqAt.compareEq_reads r1 hz hl rfl (by rw [h0, Nat.zero_min]; omega) ?_
    rw [he]
    exact ⟨.bl _, H, I, rfl, q⟩
  have hu0 : X.A.units < cLine := by omega
  cases d with
  | none => exact flat _ hd rfl rfl rfl q
  | bool b => exact flat _ hd rfl rfl rfl q
  | int i => exact flat _ hd rfl rfl rfl q
  | str z => exact flat _ hd ha rfl rfl q
  | list ds =>
    cases hd with
    | lst a b =>
      cases rx
      obtain ⟨its2, rv2, hL, _⟩ := I.list (SqL.of a.2.2)
      exact RcAt.list_tuple hL.isList hT hu0 _ _ _ _ ⟨.bl _, H, I, rfl, q⟩
  | dict ds =>
    cases hd with
    | dic a b =>
      cases rx
      obtain ⟨_, _, vs, _, o, es, ep, ho, hex, hdt, _⟩ := I.hok _ _ a.2.2
      exact rc_dictT ho hex.1 hdt hT hu0 _ _ _ _ ⟨.bl _, H, I, rfl, q⟩
  | tuple ds =>
    cases hd with
    | tup a b =>
      cases rx
      obtain ⟨its2, rv2, hT2, _⟩ := I.tuple (SqT.of a.2.2)
      refine RcAt.tuples (e := fun _ => false) hT2 hT hu0 (fun j _ h2 => by simp at h2) _ _ _ _ ?_
      have hl : its2.length = ds.length := by rw [← rv2.length]; exact b.len
      have e : (((List.range (min its2.toArray.size (#[] : Array Value).size)).all fun _ => false) && its2.toArray.size == (#[] : Array Value).size) = isT0 (.tuple ds) := by
        cases ds with
        | nil =>
          cases its2 with
          | nil => rfl
          | cons _ _ => simp at hl
        | cons _ _ =>
          cases its2 with
          | nil => simp at hl
          | cons _ _ => simp [isT0]
      refine ⟨.bl _, H, I, rfl, ?_⟩
      rw [e]
      exact q
/-- any data in a tuple of two texts -/
def eqSD (a : Str) : PyData → Bool
  | .str x => a == x
  | _ => false
def is2 (a b : Str) (d : PyData) : Bool := eqSD a d || eqSD b d
def eqVD (d : PyData) : Value → Bool
  | .str a _ => eqSD a d
  | _ => false
def rNotIn2 : R2 := fun x y H Q => ∃ p c d t a b, Dg p c H x d ∧ y = .ref t ∧ H t = some (.tup [.str a, .str b]) ∧ Q (.bl (!is2 a b d)) H
theorem eq_str_any {pins : List (Addr × Obj)} {σ : L2.St} {H : Hp} {s : Shared} {p c : Addr} (hu : X.A.units + 64 < cLine) (I : Inv X pins σ H s) {x : V} {v : Value} {d : PyData} (hd : Dg p c H x d) (rx : RelV x v) (a : Str) (k : Tok) :
    EqAt X.A.in1 s (.str a k) v (eqSD a d) := by
  have hu0 : X.A.in1.units < cLine := by show X.A.units + 1 < cLine; omega
  cases hd with
  | non => cases rx; exact EqAt.str_none a k
  | bl b => cases rx; exact EqAt.str_bool a k b
  | int i => obtain ⟨t, rfl⟩ := rx; exact EqAt.str_int a k i t
  | str z => obtain ⟨t, rfl⟩ := rx; exact EqAt.str_str a k z t
  | lst e _ =>
    cases rx
    obtain ⟨its2, rv2, hL, _⟩ := I.list (SqL.of e.2.2)
    exact EqAt.str_list a k hL.isList hu0
  | tup e _ =>
    cases rx
    obtain ⟨its2, rv2, hL, _⟩ := I.tuple (SqT.of e.2.2)
    exact EqAt.str_tuple a k hL hu0
  | dic e _ =>
    cases rx
    obtain ⟨_, _, vs, _, o, es, ep, ho, hex, hdt, _⟩ := I.hok _ _ e.2.2
    exact eq_strD a k ho hex.1 hdt hu0
theorem op_notIn2 (hu : X.A.units + 64 < cLine) : OpR X (compareOp .NotIn) rNotIn2 := by
  intro pins s σ H x y v u Q I rx ry h
  obtain ⟨p, c, d, t, a, b, hd, rfl, ht, q⟩ := h
  cases ry
  obtain ⟨its, rv, hT, _⟩ := I.tuple (SqT.of ht)
  cases rv with
  | cons ra rt =>
    cases rt with
    | cons rb rt =>
      cases rt
      obtain ⟨ta, rfl⟩ := ra
      obtain ⟨tb, rfl⟩ := rb
      refine notIn_tupleAt (eqVD d) hT (fun y hy => ?_) ⟨.bl _, H, I, rfl, ?_⟩
      · have hy : y = .str a ta ∨ y = .str b tb := by simpa using hy
        rcases hy with rfl | rfl
        · exact eq_str_any hu I hd rx a ta
        · exact eq_str_any hu I hd rx b tb
      · have e : ([Value.str a ta, Value.str b tb] : List Value).toArray.any (eqVD d) = is2 a b d := by
          rw [← Array.any_toList]
          simp [is2, eqVD]
        show Q (.bl (!Array.any _ _)) H
        rw [e]
        exact q
end
end Ag

end
/-! ## D3 -/
section
set_option linter.all false
set_option maxRecDepth 100000
namespace Ag
open PySem PySem.Spec PyProof.Rows L2
open SX (S S_len S_cat S_inj)
theorem numLen {k n : Nat} (hk : 1 ≤ k) (h : n < 10 ^ k) : (numL n).length ≤ k := TL.numL_len hk h
theorem toStrN (n : Nat) : (Str.ofString (toString ((n : Nat) : Int))) = S (numL n) := SX.num_S n
/-! ### good data: ascii texts, ints from -1 below 10 ** 40, short tuples; q: dicts and no lists, not q: lists and no dicts -/
def intOk (i : Int) : Bool := decide (-1 ≤ i) && decide (i < 10 ^ 40)
def strOkB (x : Str) : Bool := x.cps.toList.all (· < 128) && decide (x.cps.size ≤ 300)
mutual
def okV (q : Bool) : PyData → Bool
  | .none => true
  | .bool _ => true
  | .int i => intOk i
  | .str x => strOkB x
  | .list xs => !q && okVA q xs
  | .tuple xs => decide (xs.length ≤ 60) && okVA q xs
  | .dict kvs => q && okVK q kvs
def okVA (q : Bool) : List PyData → Bool
  | [] => true
  | x :: xs => okV q x && okVA q xs
def okVK (q : Bool) : List (PyData × PyData) → Bool
  | [] => true
  | (k, v) :: r => okV q k && okV q v && okVK q r
end
theorem int_good {i : Int} (h : intOk i = true) : i.natAbs.log2 < 1920 ∧ (PyData.int i).shown.length ≤ 60 := by
  simp only [intOk, Bool.and_eq_true, decide_eq_true_eq] at h
  obtain ⟨h1, h2⟩ := h
  rw [PyData.shown_int]
  by_cases h0 : 0 ≤ i
  · obtain ⟨n, rfl⟩ := Int.eq_ofNat_of_zero_le h0
    have hn : n < 10 ^ 40 := by omega
    refine ⟨?_, ?_⟩
    · rw [Int.natAbs_natCast]
      by_cases z : n = 0
      · subst z; decide
      · exact (Nat.log2_lt z).mpr (Nat.lt_of_lt_of_le hn (by decide +kernel))
    · rw [toStrN, S_len]
      have := numLen (k := 40) (by decide) hn
      omega
  · have : i = -1 := by omega
    subst this
    decide +kernel
theorem str_good {x : Str} (h : strOkB x = true) : PyData.strOk x = true ∧ (PyData.str x).leavesShort 60 = true := by
  simp only [strOkB, Bool.and_eq_true, List.all_eq_true, decide_eq_true_eq] at h
  refine ⟨?_, ?_⟩
  · unfold PyData.strOk
    rw [← Array.all_toList, List.all_eq_true]
    intro c hc
    have := h.1 c hc
    simp
    omega
  · simp only [PyData.leavesShort]
    rw [List.all_eq_true]
    intro c hc
    have := h.1 c hc
    simp
    omega
mutual
theorem okV_show {q : Bool} : ∀ d : PyData, okV q d = true → d.showable = true ∧ d.leavesShort 60 = true ∧ (q = true → noL d = true) ∧ (q = false → d.hasDict = false) ∧ (q = false → d.canLay0 = true)
  | .none, _ => by simp [PyData.showable, PyData.hasDict, noL, PyData.canLay0, PyData.leavesShort]
  | .bool _, _ => by simp [PyData.showable, PyData.hasDict, noL, PyData.canLay0, PyData.leavesShort]
  | .int i, h => by
    have := int_good (by simpa only [okV] using h)
    simp only [PyData.showable, PyData.hasDict, noL, PyData.canLay0, PyData.leavesShort, decide_eq_true_eq]
    exact ⟨this.1, this.2, fun _ => trivial, fun _ => trivial, fun _ => trivial⟩
  | .str x, h => by
    obtain ⟨h1, h2⟩ := str_good (by simpa only [okV] using h)
    exact ⟨by simp only [PyData.showable], h2, fun _ => by simp only [noL], fun _ => by simp only [PyData.hasDict], fun _ => by simp only [PyData.canLay0]; exact h1⟩
  | .list xs, h => by
    simp only [okV, Bool.and_eq_true, Bool.not_eq_true'] at h
    obtain ⟨h0, h⟩ := h
    subst h0
    obtain ⟨a, b, _, c, d⟩ := okVA_show xs h
    refine ⟨by simpa only [PyData.showable] using a, by simpa only [PyData.leavesShort] using b, fun z => absurd z (by decide), fun z => ?_, fun z => ?_⟩
    · simpa only [PyData.hasDict] using c z
    · simpa only [PyData.canLay0] using d z
  | .tuple xs, h => by
    simp only [okV, Bool.and_eq_true] at h
    have := okVA_show xs h.2
    simpa only [PyData.showable, PyData.hasDict, noL, PyData.canLay0, PyData.leavesShort] using this
  | .dict kvs, h => by
    simp only [okV, Bool.and_eq_true] at h
    obtain ⟨h0, h⟩ := h
    subst h0
    obtain ⟨a, b, c⟩ := okVK_show kvs h
    refine ⟨by simpa only [PyData.showable] using a, by simpa only [PyData.leavesShort] using b, fun z => ?_, fun z => absurd z (by decide), fun z => absurd z (by decide)⟩
    simpa only [noL] using c z
theorem okVA_show {q : Bool} : ∀ xs : List PyData, okVA q xs = true → PyData.showableAll xs = true ∧ PyData.leavesShortAll 60 xs = true ∧ (q = true → noLA xs = true) ∧ (q = false → PyData.hasDictAll xs = false) ∧ (q = false → PyData.canLayAll0 xs = true)
  | [], _ => by simp [PyData.showableAll, PyData.hasDictAll, noLA, PyData.canLayAll0, PyData.leavesShortAll]
  | x :: xs, h => by
    simp only [okVA, Bool.and_eq_true] at h
    obtain ⟨a1, a2, a3, a4, a5⟩ := okV_show x h.1
    obtain ⟨b1, b2, b3, b4, b5⟩ := okVA_show xs h.2
    simp only [PyData.showableAll, PyData.hasDictAll, noLA, PyData.canLayAll0, PyData.leavesShortAll, a1, a2, b1, b2]
    exact ⟨rfl, rfl, fun z => by rw [a3 z, b3 z]; rfl, fun z => by rw [a4 z, b4 z]; rfl, fun z => by rw [a5 z, b5 z]; rfl⟩
theorem okVK_show {q : Bool} : ∀ xs : List (PyData × PyData), okVK q xs = true → PyData.showableKv xs = true ∧ PyData.leavesShortKv 60 xs = true ∧ (q = true → noLK xs = true)
  | [], _ => by simp [PyData.showableKv, noLK, PyData.leavesShortKv]
  | (k, v) :: xs, h => by
    simp only [okVK, Bool.and_eq_true] at h
    obtain ⟨a1, a2, a3, a4, a5⟩ := okV_show k h.1.1
    obtain ⟨c1, c2, c3, c4, c5⟩ := okV_show v h.1.2
    obtain ⟨b1, b2, b3⟩ := okVK_show xs h.2
    simp only [PyData.showableKv, noLK, PyData.leavesShortKv, a1, a2, b1, b2, c1, c2]
    exact ⟨rfl, rfl, fun z => by rw [c3 z, b3 z]; rfl⟩
end
structure Gd (q : Bool) (d : PyData) (n b : Nat) : Prop where
  ok : okV q d = true
  dp : d.depth ≤ n
  bk : d.bulk ≤ b
structure GdA (q : Bool) (ds : List PyData) (n b : Nat) : Prop where
  ok : okVA q ds = true
  dp : PyData.depthAll ds ≤ n
  bk : PyData.bulkAll ds ≤ b
theorem Gd.mono {q : Bool} {d : PyData} {n m b c : Nat} (h : Gd q d n b) (hn : n ≤ m) (hb : b ≤ c) : Gd q d m c := ⟨h.ok, Nat.le_trans h.dp hn, Nat.le_trans h.bk hb⟩
theorem GdA.mono {q : Bool} {d : List PyData} {n m b c : Nat} (h : GdA q d n b) (hn : n ≤ m) (hb : b ≤ c) : GdA q d m c := ⟨h.ok, Nat.le_trans h.dp hn, Nat.le_trans h.bk hb⟩
theorem Gd.fit {q : Bool} {d : PyData} {n b : Nat} (h : Gd q d n b) (hn : n ≤ 60) (hb : b ≤ 100000) : d.showable = true ∧ (d.hasDict = true → noL d = true) ∧ d.depth ≤ 64 ∧ d.shown.length ≤ sizeLine := by
  obtain ⟨a1, a2, a3, a4, _⟩ := okV_show d h.ok
  refine ⟨a1, fun z => ?_, by have := h.dp; omega, ?_⟩
  · cases q with
    | true => exact a3 rfl
    | false => rw [a4 rfl] at z; cases z
  · have h1 := PyData.shown_le_bulk 60 (by decide) d a2
    have h2 : d.bulk ≤ 100000 := Nat.le_trans h.bk hb
    rw [sizeLine_eq]
    omega
theorem Gd.shaped {d : PyData} {n b : Nat} (h : Gd false d n b) (hn : n ≤ 60) : SeqAt.shaped d = true := by
  unfold SeqAt.shaped
  rw [(okV_show d h.ok).2.2.2.2 rfl, decide_eq_true (by have := h.dp; omega)]
  rfl
theorem Gd.asc {q : Bool} {d : PyData} {n b : Nat} (h : Gd q d n b) : ascS d = true := by
  cases d with
  | str x => exact (str_good (by simpa only [okV] using h.ok)).1
  | _ => rfl
theorem GdA.nil {q : Bool} {n b : Nat} : GdA q [] n b := ⟨by simp [okVA], by simp [PyData.depthAll], by simp [PyData.bulkAll]⟩
theorem GdA.cons {q : Bool} {d : PyData} {ds : List PyData} {n b b1 b2 : Nat} (h : Gd q d n b1) (k : GdA q ds n b2) (hb : b1 + b2 + 1 ≤ b) : GdA q (d :: ds) n b := by
  refine ⟨?_, ?_, ?_⟩
  · simp only [okVA, h.ok, k.ok]
    rfl
  · simp only [PyData.depthAll]
    have := h.dp
    have := k.dp
    omega
  · simp only [PyData.bulkAll]
    have := h.bk
    have := k.bk
    omega
theorem Gd.tup {q : Bool} {ds : List PyData} {n b : Nat} (h : GdA q ds n b) (hl : ds.length ≤ 60) : Gd q (.tuple ds) (n + 1) b := by
  refine ⟨?_, ?_, ?_⟩
  · simp only [okV, h.ok, decide_eq_true hl]
    rfl
  · simp only [PyData.depth]
    have := h.dp
    omega
  · simp only [PyData.bulk]
    exact h.bk
theorem Gd.lst {ds : List PyData} {n b : Nat} (h : GdA false ds n b) : Gd false (.list ds) (n + 1) b := by
  refine ⟨?_, ?_, ?_⟩
  · simp only [okV, h.ok]
    rfl
  · simp only [PyData.depth]
    have := h.dp
    omega
  · simp only [PyData.bulk]
    exact h.bk
theorem Gd.untup {q : Bool} {ds : List PyData} {n b : Nat} (h : Gd q (.tuple ds) n b) : GdA q ds (n - 1) b ∧ ds.length ≤ 60 := by
  have h1 := h.ok
  simp only [okV, Bool.and_eq_true, decide_eq_true_eq] at h1
  have h2 := h.dp
  simp only [PyData.depth] at h2
  have h3 := h.bk
  simp only [PyData.bulk] at h3
  exact ⟨⟨h1.2, by omega, h3⟩, h1.1⟩
theorem GdA.hd {q : Bool} {d : PyData} {ds : List PyData} {n b : Nat} (h : GdA q (d :: ds) n b) : Gd q d n b ∧ GdA q ds n b := by
  have h1 := h.ok
  simp only [okVA, Bool.and_eq_true] at h1
  have h2 := h.dp
  simp only [PyData.depthAll] at h2
  have h3 := h.bk
  simp only [PyData.bulkAll] at h3
  exact ⟨⟨h1.1, by omega, by omega⟩, ⟨h1.2, by omega, by omega⟩⟩
theorem GdA.mem {q : Bool} {n b : Nat} : ∀ {ds : List PyData}, GdA q ds n b → ∀ d ∈ ds, Gd q d n b
  | [], _, d, hd => by cases hd
  | x :: xs, h, d, hd => by
    rcases List.mem_cons.mp hd with rfl | hd
    · exact h.hd.1
    · exact GdA.mem h.hd.2 d hd
theorem bulk_app : ∀ (xs ys : List PyData), PyData.bulkAll (xs ++ ys) = PyData.bulkAll xs + PyData.bulkAll ys
  | [], ys => by simp [PyData.bulkAll]
  | x :: xs, ys => by
    rw [List.cons_append]
    simp only [PyData.bulkAll, bulk_app xs ys]
    omega
theorem GdA.app {q : Bool} {n b1 b2 b : Nat} : ∀ {xs ys : List PyData}, GdA q xs n b1 → GdA q ys n b2 → b1 + b2 ≤ b → GdA q (xs ++ ys) n b := by
  intro xs ys h k hb
  have hk := k.bk
  have hh := h.bk
  refine ⟨?_, ?_, by rw [bulk_app]; omega⟩
  · have h1 := h.ok
    clear h hh
    induction xs with
    | nil => exact k.ok
    | cons x xs ih =>
      simp only [okVA, Bool.and_eq_true] at h1
      rw [List.cons_append]
      simp only [okVA, h1.1, ih h1.2]
      rfl
  · have h1 := h.dp
    clear h hh
    induction xs with
    | nil => exact k.dp
    | cons x xs ih =>
      simp only [PyData.depthAll] at h1
      rw [List.cons_append]
      simp only [PyData.depthAll]
      have := ih (by omega)
      omega
theorem GdA.take {q : Bool} {n b : Nat} : ∀ {xs : List PyData} (m : Nat), GdA q xs n b → GdA q (xs.take m) n b := by
  intro xs m h
  have e := bulk_app (xs.take m) (xs.drop m)
  rw [List.take_append_drop] at e
  have hb := h.bk
  refine ⟨?_, ?_, by omega⟩
  · have h1 := h.ok
    clear h e hb
    induction xs generalizing m with
    | nil => simpa using h1
    | cons x xs ih =>
      cases m with
      | zero => simp [okVA]
      | succ m =>
        simp only [okVA, Bool.and_eq_true] at h1
        rw [List.take_succ_cons]
        simp only [okVA, h1.1, ih m h1.2]
        rfl
  · have h1 := h.dp
    clear h e hb
    induction xs generalizing m with
    | nil => simpa using h1
    | cons x xs ih =>
      cases m with
      | zero => simp [PyData.depthAll]
      | succ m =>
        simp only [PyData.depthAll] at h1
        rw [List.take_succ_cons]
        simp only [PyData.depthAll]
        have := ih m (by omega)
        omega
theorem GdA.drop {q : Bool} {n b : Nat} : ∀ {xs : List PyData} (m : Nat), GdA q xs n b → GdA q (xs.drop m) n b
  | _, 0, h => h
  | [], _ + 1, h => by simpa using h
  | _ :: xs, m + 1, h => by
    rw [List.drop_succ_cons]
    exact GdA.drop m h.hd.2
theorem GdA.rev {q : Bool} {n b : Nat} : ∀ {xs : List PyData}, GdA q xs n b → GdA q xs.reverse n b := by
  intro xs h
  have key : ∀ xs : List PyData, okVA q xs = true → PyData.depthAll xs ≤ n → GdA q xs.reverse n (PyData.bulkAll xs) := by
    intro xs
    induction xs with
    | nil => exact fun _ _ => .nil
    | cons x xs ih =>
      intro h1 h2
      simp only [okVA, Bool.and_eq_true] at h1
      simp only [PyData.depthAll] at h2
      rw [List.reverse_cons]
      simp only [PyData.bulkAll]
      exact (ih h1.2 (by omega)).app (b2 := x.bulk + 1) (.cons (b1 := x.bulk) (b2 := 0) ⟨h1.1, by omega, Nat.le_refl _⟩ .nil (by omega)) (by omega)
  exact (key xs h.ok h.dp).mono (Nat.le_refl _) h.bk
theorem Gd.non {q : Bool} {n b : Nat} : Gd q .none n b := ⟨by simp [okV], by simp [PyData.depth], by simp [PyData.bulk]⟩
theorem Gd.bl {q c : Bool} {n b : Nat} : Gd q (.bool c) n b := ⟨by simp [okV], by simp [PyData.depth], by simp [PyData.bulk]⟩
theorem Gd.int {q : Bool} {i : Int} {n b : Nat} (h : intOk i = true) : Gd q (.int i) n b := ⟨by simp [okV, h], by simp [PyData.depth], by simp [PyData.bulk]⟩
theorem Gd.str {q : Bool} {x : Str} {n b : Nat} (h : strOkB x = true) (hb : x.cps.size ≤ b) : Gd q (.str x) n b := ⟨by simp [okV, h], by simp [PyData.depth], by simp [PyData.bulk]; exact hb⟩
theorem S_toList (x : Str) : S x.cps.toList = x := rfl
theorem Gd.strL {q : Bool} {l : List Nat} {n b : Nat} (h : l.all (· < 128) = true) (h2 : l.length ≤ 300) (hb : l.length ≤ b) : Gd q (.str (S l)) n b := by
  refine .str ?_ (by rw [show (S l).cps.size = l.length from List.size_toArray ..]; exact hb)
  simp only [strOkB, Bool.and_eq_true, decide_eq_true_eq]
  exact ⟨h, by rw [show (S l).cps.size = l.length from List.size_toArray ..]; exact h2⟩
theorem Gd.strlen {q : Bool} {x : Str} {n b : Nat} (h : Gd q (.str x) n b) : x.cps.toList.all (· < 128) = true ∧ x.cps.toList.length ≤ 300 := by
  have := h.ok
  simp only [okV, strOkB, Bool.and_eq_true, decide_eq_true_eq] at this
  exact ⟨this.1, by rw [Array.length_toList]; exact this.2⟩
end Ag

end
/-! ## SetI -/
section
set_option linter.all false
set_option maxRecDepth 100000
namespace Ag
open PySem PySem.Spec PyProof.Rows L2
/-! ### set(xs) of a list or a tuple of ints, its length -/
section
variable {P : Program} {w : World} {A : Around} {E : Value → Shared → Prop} {s : Shared}
/-- a set's object as it is made -/
abbrev nilSet (w : World) : Obj := { cls := .type "set", dict := none, data := .set #[] 0 (.fresh 0 0 (!w.params.followText "set-order")) }
set_option maxHeartbeats 3200000 in
theorem set_lst {l : Addr} {its : Array Value} (ns : List Int) {Q : Value → Shared → Prop} (hh : A.handled = none) (hl : s.heap.IsList l its) (hit : IntsAre its.toList ns) (hb : ns.length + 1 < scanBound)
    (fin : ∀ (h' : Heap) (tk c : Nat), SetR w h' s.heap.objs.size (fun j => decide (j ∈ ns)) c → c ≤ ns.length → (∀ b o, s.heap.get? b = some o → h'.get? b = some o) → Q (.ref s.heap.objs.size) { s with heap := h', toks := tk }) :
    wpAny (model P w) A (call (.type "set") [.ref l]) Q E s := by
  have esz : its.size = ns.length := by
    have q := IntsAre.length hit
    rwa [Array.length_toList] at q
  obtain ⟨cc, tl, m0⟩ := F.called_set.mro
  have m1 := F.called_set.made
  have m2 := F.called_set.sub
  refine wpAny_call (codeAny_of_tree (show wpAny _ _ (callAny (.type "set") _) _ _ _ from wpAny_pure ⟨Code.quiet_builtin _ (by decide +kernel), codeAny_builtin F.entry_type_call ?_⟩))
  rw [Around.under_plain (weight_type_call_type "set" [.ref l] []) rfl]
  have m3 := F.called_set.notType
  have m4 := F.called_set.canCreate
  have m5 := F.typeCall_set_1 (.ref l)
  repeat (any_goals (first | assumption | wp_step))
  refine codeAny_mono (code_set_led1 (.ref l) (E := E) (Q₁ := fun ob s1 => ob = .ref s.heap.objs.size ∧ s1 = { s with heap := s.heap.push (nilSet w) }) ⟨rfl, rfl⟩) fun r s1 hr => ?_
  match r, hr with
  | .error e, hr => exact hr
  | .ok .next, hr => exact hr.elim
  | .ok .brk, hr => exact hr.elim
  | .ok .cont, hr => exact hr.elim
  | .ok (.ret ob), hr =>
    obtain ⟨rfl, rfl⟩ := hr
    have g1 : (s.heap.push (nilSet w)).get? s.heap.objs.size = some (nilSet w) := Heap.get?_push_size _ rfl
    have g2 : Shared.TypeIs { s with heap := s.heap.push (nilSet w) } (.ref s.heap.objs.size) "set" := ⟨_, g1, rfl⟩
    have m6 := F.called_set.init.lookup
    have m7 := F.called_set.init.bind (.ref s.heap.objs.size)
    repeat (any_goals (first | assumption | wp_step))
    refine codeAny_mono (codeAny_call_builtin (R := wants (fun r s2 => r = .none ∧ ∃ h' tk c, s2 = { s with heap := h', toks := tk } ∧ SetR w h' s.heap.objs.size (fun j => decide (j ∈ ns)) c ∧ c ≤ ns.length ∧
        (∀ b o, s.heap.get? b = some o → h'.get? b = some o)) E) F.called_set.init.plain F.entry_set_init (check_set_init_1 g2 ?_)) fun r2 s2 hr2 => ?_
    · obtain ⟨ol, e1, e2, nl, e3⟩ := hl
      obtain ⟨k1, k2, k3, k4⟩ := ol
      simp only at e2 e3
      subst e2 e3
      have g3 : (s.heap.push (nilSet w)).get? l = some { cls := .type "list", dict := k2, data := .seq its nl, slots := k4 } := Heap.get?_push_of_some _ e1
      have m8 := F.sub_list_set
      have m9 := F.sub_list_frozenset
      have ma : (Value.type "list" == Value.type "dict") = false := by decide
      have hl1 : (s.heap.push (nilSet w)).IsList l its := ⟨_, g3, rfl, nl, rfl⟩
      unfold Builtin.«set.__init__» noKeywords Builtin.Frozenset.updateFrom
      generalize hPI : pyIter = PI
      wp_walk
      subst hPI
      refine wpAny_pyIter_list hl1 (wpAny_bind (wpAny_runValue ?_))
      have lt := Heap.lt_size e1
      have hh3 : A.in1.in1.in1.handled = none := by simp [hh]
      have nI : l ≠ (s.heap.push (nilSet w)).objs.size := by
        rw [Heap.size_push]
        exact Nat.ne_of_lt (Nat.lt_succ_of_lt lt)
      have nS : s.heap.objs.size ∉ [(s.heap.push (nilSet w)).objs.size, l] := by
        rw [Heap.size_push]
        intro z
        rcases List.mem_cons.mp z with z | z
        · exact Nat.ne_of_lt (Nat.lt_succ_self _) z
        · exact Nat.ne_of_gt lt (List.mem_singleton.mp z)
      have vals : ∀ (i : Nat) (v : Value), its[i]? = some v → ∃ k t, ns[i]? = some k ∧ v = .int k t := fun i v hv => by
        have hi : i < ns.length := by rw [← esz]; exact (Array.getElem?_eq_some_iff.mp hv).1
        obtain ⟨t, e⟩ := IntsAre.int_at hit i v (by rw [Array.getElem?_toList]; exact hv)
        exact ⟨ns[i], t, List.getElem?_eq_getElem hi, by rw [e, List.getD_eq_getElem?_getD, List.getElem?_eq_getElem hi] <;> rfl⟩
      refine set_update_ints ((Walks.list hh3 _ l nI its).toS) s.heap.objs.size nS ns esz hb vals (its.size - 0) 0 _ (by omega) (Nat.zero_le _) ⟨⟨_, Heap.get?_push_size _ rfl, rfl, rfl⟩, (hl1.push _)⟩ ?_ ?_
      · exact ⟨0, Nat.le_refl 0, setR_new_at (Heap.get?_push_of_some _ g1)⟩
      · intro s' c' hm hc' hS'
        obtain ⟨h', q1, q2, tk', q3⟩ := s'
        obtain rfl : q1 = s.gens := hm.gens
        obtain rfl : q2 = s.drawn := hm.drawn
        obtain rfl : q3 = s.os := hm.os
        rw [esz] at hc'
        refine show wpAny _ _ _ _ _ _ from wpAny_pure (show wpAny _ _ (ret Value.none) _ _ _ from wpAny_pure ⟨rfl, h', tk', c', rfl, hS', hc', fun b o e => ?_⟩)
        have b0 : b < s.heap.objs.size := Heap.lt_size e
        refine hm.heap b o ?_ (Heap.get?_push_of_some _ (Heap.get?_push_of_some _ e))
        rw [Heap.size_push]
        intro z
        rcases List.mem_cons.mp z with z | z
        · exact Nat.ne_of_lt b0 z
        · exact Nat.ne_of_lt (Nat.lt_succ_of_lt b0) (List.mem_singleton.mp z)
    · match r2, hr2 with
      | .error e, hr2 => exact hr2
      | .ok .next, hr2 => exact hr2.elim
      | .ok .brk, hr2 => exact hr2.elim
      | .ok .cont, hr2 => exact hr2.elim
      | .ok (.ret r), hr2 =>
        obtain ⟨rfl, h', tk, c', rfl, a1, a2, a3⟩ := hr2
        repeat (any_goals (first | assumption | wp_step))
        exact fin _ _ _ a1 a2 a3
end
theorem setR_mem {w : World} {h : Heap} {a : Addr} {F : Int → Bool} {n : Nat} (R : SetR w h a F n) : ∃ L : List Int, L.Nodup ∧ (∀ k, k ∈ L ↔ F k = true) ∧ L.length = n := by
  obtain ⟨o, es, ep, t, _, _, _, _, nd, hk, _, _, hn, _⟩ := R
  exact ⟨es.toList.map keyOf, nd, fun k => (hk k).symm, by rw [List.length_map, Array.length_toList, hn]⟩
section
variable {X : Cx}
def rSetI (K : PySem.W.Frag) (w : World) : List V → Hp → VK → Prop := fun xs H Q => ∃ (l : Addr) (ns : List Int), xs = [.ref l] ∧ (SqL K H l (ns.map V.int) ∨ SqT K H l (ns.map V.int)) ∧ ns.length ≤ 1000 ∧
  ∀ (a : Addr) (L : List Int), H a = none → L.Nodup → (∀ k, k ∈ L ↔ k ∈ ns) → L.length ≤ ns.length → Q (.ref a) (upd H a (SetO w a (fun j => decide (j ∈ ns)) L.length))
theorem cr_setI (hc : X.calm = true) : CallR X (.type "set") (rSetI X.K X.w) := by
  intro pins s σ H xs us Q I r h
  obtain ⟨l, ns, rfl, hs, hz, q⟩ := h
  rw [Vals.ref1 r]
  have hz2 : ns.length + 1 < scanBound := by unfold scanBound; omega
  have done : ∀ (h' : Heap) (tk c : Nat), SetR X.w h' s.heap.objs.size (fun j => decide (j ∈ ns)) c → c ≤ ns.length → (∀ b o, s.heap.get? b = some o → h'.get? b = some o) → EP X pins σ Q (.ref s.heap.objs.size) { s with heap := h', toks := tk } := by
    intro h' tk c R hcn kp
    obtain ⟨L, nd, hm, hl⟩ := setR_mem R
    subst hl
    exact ⟨.ref _, _, I.laid (t' := tk) kp (Nat.le_refl _) (setO_new R), rfl, q _ L (I.hok.fresh (Nat.le_refl _)) nd (fun k => by rw [hm k, decide_eq_true_eq]) hcn⟩
  rcases hs with hs | hs
  · obtain ⟨its, rv, pl, _⟩ := I.list hs
    exact set_lst ns (I.ok.hd hc) pl.isList (by simpa using ints_of_vals rv) hz2 done
  · obtain ⟨its, rv, pl, _⟩ := I.tuple hs
    exact call_set_tupI ns (I.ok.hd hc) pl (by simpa using ints_of_vals rv) hz2 done
def rLenSet (w : World) : List V → Hp → VK → Prop := fun xs H Q => ∃ (a : Addr) (F : Int → Bool) (n : Nat), xs = [.ref a] ∧ H a = some (SetO w a F n) ∧ n ≤ 1000 ∧ Q (.int (n : Nat)) H
theorem cr_lenSet : CallR X (.builtin "len") (rLenSet X.w) := by
  intro pins s σ H xs us Q I r h
  obtain ⟨a, F, n, rfl, ha, hn, q⟩ := h
  rw [Vals.ref1 r]
  obtain ⟨o, es, ep, t, ho, hex, hd, _, _, _, _, hf, he, _⟩ := setO_get I ha
  exact call_len_set ho hex hd hf (by rw [he]; omega) ⟨.int n, H, I.tok _, ⟨_, by rw [he]⟩, q⟩
end
end Ag

end
/-! ## RevT -/
section
set_option linter.all false
set_option maxRecDepth 100000
namespace Ag
open PySem PySem.Spec PyProof.Rows L2
/-! ### t[::-1] of a tuple -/
section
variable {P : Program} {w : World} {A : Around} {E : Value → Shared → Prop} {s : Shared}
theorem adj_rev (n : Nat) : Builtin.Slice.sliceAdjust none none (-1) (n : Int) = ((n : Int) - 1, -1) := by
  unfold Builtin.Slice.sliceAdjust
  simp
theorem plc_rev (n : Nat) : Builtin.Slice.slicePlaces ((n : Int) - 1) (-1) (-1) = n := by
  unfold Builtin.Slice.slicePlaces
  simp
  split <;> omega
theorem app_rev {z : Addr} {t : Tok} {n : Nat} {Q : Int × Int × Nat → Shared → Prop} (hs : s.heap.IsSliceOf z .none .none (.int (-1) t)) (h : Q ((n : Int) - 1, -1, n) s) : wpAny (model P w) A (Builtin.Slice.sliceApplied (.ref z) (pure (n : Int))) Q E s := by
  obtain ⟨os, h1, h2, h3⟩ := id hs
  unfold Builtin.Slice.sliceApplied Builtin.Slice.sliceFields
  refine wpAny_bind (wpAny_bind (wpAny_field h1 h3 (x := .none) rfl (wpAny_bind (wpAny_field h1 h3 (x := .none) rfl (wpAny_bind (wpAny_field h1 h3 (x := .int (-1) t) rfl (wpAny_pure ?_)))))))
  refine wpAny_bind (HT.slicePart_ (.int (-1) t) ?_)
  refine show wpAny _ _ (if ((-1 : Int) == 0) = true then _ else _) _ _ s from ?_
  rw [if_neg (by decide)]
  refine wpAny_bind (HT.slicePart_ .none (wpAny_bind (HT.slicePart_ .none (wpAny_bind (wpAny_pure ?_)))))
  refine show wpAny _ _ (match Builtin.Slice.sliceAdjust none none (-1) (n : Int) with | (lo, hi) => pure (lo, (-1 : Int), Builtin.Slice.slicePlaces lo hi (-1))) _ _ s from ?_
  rw [adj_rev n]
  refine show wpAny _ _ (pure ((n : Int) - 1, (-1 : Int), Builtin.Slice.slicePlaces ((n : Int) - 1) (-1) (-1))) _ _ s from ?_
  rw [plc_rev]
  exact wpAny_pure h
theorem pick_rev (xs : Array Value) : ((List.range xs.size).filterMap fun (m : Nat) => xs[((xs.size : Int) - 1 + (m : Int) * -1).toNat]?).toArray = xs.toList.reverse.toArray := by
  congr 1
  have e : ((List.range xs.size).filterMap fun (m : Nat) => xs[((xs.size : Int) - 1 + (m : Int) * -1).toNat]?) = (List.range xs.size).filterMap ((xs[·]?) ∘ fun k => xs.size - 1 - k) := by
    have key : ∀ l : List Nat, (∀ m ∈ l, m < xs.size) → (l.filterMap fun (m : Nat) => xs[((xs.size : Int) - 1 + (m : Int) * -1).toNat]?) = l.filterMap ((xs[·]?) ∘ fun k => xs.size - 1 - k) := by
      intro l
      induction l with
      | nil => exact fun _ => rfl
      | cons m l ih =>
        intro h
        have hm := h m List.mem_cons_self
        have e1 : ((xs.size : Int) - 1 + (m : Int) * -1).toNat = xs.size - 1 - m := by omega
        rw [List.filterMap_cons, List.filterMap_cons, ih fun k hk => h k (List.mem_cons_of_mem _ hk), e1]
        rfl
    exact key _ fun m hm => List.mem_range.mp hm
  rw [e, ← List.filterMap_map, PySem.W.krv_range, List.filterMap_reverse, PySem.W.krv_all]
theorem get_rev {t z : Addr} {its : Array Value} {k : Tok} {Q : Value → Shared → Prop} (ht : IsTup s.heap t its) (hs : s.heap.IsSliceOf z .none .none (.int (-1) k)) (hz : its.size ≤ sizeLine)
    (fin : Q (.ref s.heap.objs.size) { s with heap := s.heap.push { cls := .type "tuple", data := .seq its.toList.reverse.toArray } }) : wpAny (model P w) A (getItem (.ref t) (.ref z)) Q E s := by
  have hsz : sizeOk (.seq its.toList.reverse.toArray) := by
    show its.toList.reverse.toArray.size ≤ sizeLine
    rw [List.size_toArray, List.length_reverse, Array.length_toList]
    exact hz
  obtain ⟨os, h1, h2, h3⟩ := id hs
  have hT : s.TypeIs (.ref z) "slice" := ⟨os, h1, h2⟩
  unfold getItem
  try with_reducible refine wpAny_holding ?_
  first
    | refine wpAny_bind (wpAny_pure (wpAny_bind (wpAny_sequenceKey ht.typeIs (by decide) ?_)))
    | refine wpAny_bind (wpAny_sequenceKey (T := "tuple") ht.typeIs (by decide) ?_)
  refine wpAny_bind (wpAny_callSpecial?_slot (name := Str.ofString "__getitem__") ht.typeIs PyProof.Rows.slot_tuple_getitem (wpAny_call_entry PyProof.Rows.slot_tuple_getitem ht.typeIs entry_tuple_getitem ?_ (args_tuple_getitem _ _)))
  refine show wpAny _ _ (Builtin.Tuple.tupleItemsOf (.ref t) >>= _) _ _ s from wpAny_bind (tupleItemsOf_ ht (wpAny_bind (wpAny_typeOf hT ?_)))
  rw [if_pos (by decide)]
  refine wpAny_bind (app_rev hs ?_)
  have hno : ¬ ((((its.size : Int) - 1 == 0) && ((-1 : Int) == 1) && (its.size == its.size)) = true) := by simp
  refine show wpAny _ _ (if (((its.size : Int) - 1 == 0) && ((-1 : Int) == 1) && (its.size == its.size)) = true then _ else _) _ _ s from ?_
  rw [if_neg hno, pick_rev]
  first
    | exact wpAny_bind (m := Builtin.Tuple.tupleExact _) (wpAny_newObj_type (wpAny_pure ⟨_, rfl, wpAny_pure fin⟩) hsz)
    | exact wpAny_bind (m := Builtin.Tuple.tupleExact _) (wpAny_newObj_type (wpAny_bind (wpAny_pure (wpAny_pure ⟨_, rfl, wpAny_pure fin⟩))) hsz)
    | exact wpAny_bind (wpAny_bind (m := Builtin.Tuple.tupleExact _) (wpAny_newObj_type (wpAny_pure (wpAny_pure ⟨_, rfl, wpAny_pure fin⟩)) hsz))
    | exact wpAny_bind (wpAny_bind (m := Builtin.Tuple.tupleExact _) (wpAny_newObj_type (wpAny_pure ⟨_, rfl, wpAny_pure fin⟩) hsz))
end
section
variable {X : Cx}
def tRevT (K : PySem.W.Frag) (te : TE) : TE := fun σ H Q => te σ H fun x H1 => ∃ a xs, x = .ref a ∧ SqT K H1 a xs ∧ ∀ p, H1 p = none → Q (.ref p) (upd H1 p (.tup xs.reverse))
theorem pe_revT {e : Expr} {te : TE} {k : Nat} {p1 p2 p3 pos : Pos} (he : PE X e te) : PE X (.Subscript e (.Slice none none (some (.UnaryOp .USub (.Constant (.int 1) k p1) p2)) p3) pos) (tRevT X.K te) := by
  refine ⟨fun pins s σ H Q I h => Subscript_ (thn (he.run pins s σ H _ I h) ?_)⟩
  rintro v s1 ⟨x, H1, I1, r1, a, xs, rfl, hx, q⟩
  cases r1
  have neg : PO X (some (.UnaryOp .USub (.Constant (.int 1) k p1) p2)) (tPart (tUn (rU fun i => .int (-i)) (tC (.int 1)))) := po_some (pe_un un_neg pe_int)
  refine wpAny_Slice (thn (po_none.run pins s1 σ H1 (fun o H2 => o = none ∧ H2 = H1) I1 ⟨rfl, rfl⟩) ?_)
  rintro vl s2 ⟨l, H2, I2, pl, rfl, rfl⟩
  refine thn (po_none.run pins s2 σ H2 (fun o H3 => o = none ∧ H3 = H2) I2 ⟨rfl, rfl⟩) ?_
  rintro vu s3 ⟨u, H3, I3, pu, rfl, rfl⟩
  refine thn (neg.run pins s3 σ H3 (fun o H4 => o = some (-1) ∧ H4 = H3) I3 ⟨1, rfl, -1, rfl, rfl, rfl⟩) ?_
  rintro vs s4 ⟨o, H4, I4, ps, rfl, rfl⟩
  cases pl
  cases pu
  cases ps with
  | int i t =>
    have I5 : Inv X pins σ H4 { s4 with heap := s4.heap.push { cls := .type "slice", data := .fields #[.none, .none, .int (-1) t] } } := I4.kept (t' := s4.toks) fun b ob q => Heap.get?_push_of_some _ q
    obtain ⟨its, r, ht, hz⟩ := I5.tuple hx
    have hl := r.length
    refine show wpAny (model X.prog X.w) X.A (subscriptTail e (.Slice none none (some (.UnaryOp .USub (.Constant (.int 1) k p1) p2)) p3) (.ref a) (.ref s4.heap.objs.size)) (EP X pins σ Q) X.xe { s4 with heap := s4.heap.push { cls := .type "slice", data := .fields #[.none, .none, .int (-1) t] } } from ?_
    refine tail_any (ops := [.ref a, .ref s4.heap.objs.size]) ht.typeIs (PyProof.Rows.slot_tuple_getitem.lookup) (get_rev ht (Heap.IsSliceOf.new _ .none .none (.int (-1) t)) (by rw [List.size_toArray]; omega) ?_) (by with_unfolding_all rfl)
    refine ⟨.ref _, _, I5.laid (t' := s4.toks) (o := .tup xs.reverse) (fun b ob q => Heap.get?_push_of_some _ q) (Nat.le_refl _) ⟨by rw [List.length_reverse]; exact hz, its.reverse, r.reverse, ?_⟩, rfl, q _ (I5.hok.fresh (Nat.le_refl _))⟩
    exact ⟨_, Heap.get?_push_size _ rfl, rfl, 0, by simp⟩
end
end Ag

end
/-! ## Prog -/
section
set_option linter.all false
set_option maxRecDepth 100000
namespace Ag
open PySem PySem.Spec PyProof.Rows L2
open SX (S S_len S_cat S_inj)
/-! ### the text by places -/
def top (i : Nat) : Stmt := PySem.Challenge.pw_answergate_k11_any_value_as_a_view.main.body.getD i (.Pass ⟨0, 0, 0, 0⟩)
abbrev s_is_integer : Stmt := top 3
abbrev N_is_integer : List Str := ["thing"]
theorem sc_is_integer : FnScope N_is_integer ["thing"] (defScope s_is_integer) := ⟨rfl, rfl, rfl, by decide +kernel, rfl, by decide +kernel, by decide +kernel⟩
abbrev s_is_between : Stmt := top 4
abbrev N_is_between : List Str := ["thing", "least", "most"]
theorem sc_is_between : FnScope N_is_between ["thing", "least", "most"] (defScope s_is_between) := ⟨rfl, rfl, rfl, by decide +kernel, rfl, by decide +kernel, by decide +kernel⟩
abbrev s_is_number : Stmt := top 5
abbrev N_is_number : List Str := ["thing"]
theorem sc_is_number : FnScope N_is_number ["thing"] (defScope s_is_number) := ⟨rfl, rfl, rfl, by decide +kernel, rfl, by decide +kernel, by decide +kernel⟩
abbrev s_is_plain : Stmt := top 6
abbrev N_is_plain : List Str := ["string"]
theorem sc_is_plain : FnScope N_is_plain ["string"] (defScope s_is_plain) := ⟨rfl, rfl, rfl, by decide +kernel, rfl, by decide +kernel, by decide +kernel⟩
abbrev s_is_word : Stmt := top 7
abbrev N_is_word : List Str := ["thing"]
theorem sc_is_word : FnScope N_is_word ["thing"] (defScope s_is_word) := ⟨rfl, rfl, rfl, by decide +kernel, rfl, by decide +kernel, by decide +kernel⟩
abbrev s_are_counted : Stmt := top 8
abbrev N_are_counted : List Str := ["thing", "most", "number"]
theorem sc_are_counted : FnScope N_are_counted ["thing", "most"] (defScope s_are_counted) := ⟨rfl, rfl, rfl, by decide +kernel, rfl, by decide +kernel, by decide +kernel⟩
abbrev s_is_body : Stmt := top 14
abbrev N_is_body : List Str := ["thing"]
theorem sc_is_body : FnScope N_is_body ["thing"] (defScope s_is_body) := ⟨rfl, rfl, rfl, by decide +kernel, rfl, by decide +kernel, by decide +kernel⟩
abbrev s_is_view : Stmt := top 16
abbrev N_is_view : List Str := ["thing", "house", "boot", "bodies", "answers", "away", "upto", "state", "ends", "end", "body"]
theorem sc_is_view : FnScope N_is_view ["thing"] (defScope s_is_view) := ⟨rfl, rfl, rfl, by decide +kernel, rfl, by decide +kernel, by decide +kernel⟩
abbrev s_bounds : Stmt := top 17
abbrev N_bounds : List Str := ["view", "_", "bodies", "answers", "away", "upto", "ends", "end"]
theorem sc_bounds : FnScope N_bounds ["view"] (defScope s_bounds) := ⟨rfl, rfl, rfl, by decide +kernel, rfl, by decide +kernel, by decide +kernel⟩
abbrev s__law_dealt : Stmt := top 19
abbrev N__law_dealt : List Str := ["_law_script", "_law_mixed", "_law_cell"]
theorem sc__law_dealt : FnScope N__law_dealt ["_law_script"] (defScope s__law_dealt) := ⟨rfl, rfl, rfl, by decide +kernel, rfl, by decide +kernel, by decide +kernel⟩
abbrev s__law_draw : Stmt := top 20
abbrev N__law_draw : List Str := ["_law_deck", "_law_many", "_law_mark", "_law_cell"]
theorem sc__law_draw : FnScope N__law_draw ["_law_deck", "_law_many"] (defScope s__law_draw) := ⟨rfl, rfl, rfl, by decide +kernel, rfl, by decide +kernel, by decide +kernel⟩
abbrev s__law_pick : Stmt := top 21
abbrev N__law_pick : List Str := ["_law_deck", "_law_some_here"]
theorem sc__law_pick : FnScope N__law_pick ["_law_deck", "_law_some_here"] (defScope s__law_pick) := ⟨rfl, rfl, rfl, by decide +kernel, rfl, by decide +kernel, by decide +kernel⟩
abbrev s__law_is_whole : Stmt := top 22
abbrev N__law_is_whole : List Str := ["_law_thing", "_law_low", "_law_high"]
theorem sc__law_is_whole : FnScope N__law_is_whole ["_law_thing", "_law_low", "_law_high"] (defScope s__law_is_whole) := ⟨rfl, rfl, rfl, by decide +kernel, rfl, by decide +kernel, by decide +kernel⟩
abbrev s__law_is_word : Stmt := top 23
abbrev N__law_is_word : List Str := ["_law_thing", "_law_sign"]
theorem sc__law_is_word : FnScope N__law_is_word ["_law_thing"] (defScope s__law_is_word) := ⟨rfl, rfl, rfl, by decide +kernel, rfl, by decide +kernel, by decide +kernel⟩
abbrev s__law_is_body : Stmt := top 24
abbrev N__law_is_body : List Str := ["_law_thing", "_law_sign"]
theorem sc__law_is_body : FnScope N__law_is_body ["_law_thing"] (defScope s__law_is_body) := ⟨rfl, rfl, rfl, by decide +kernel, rfl, by decide +kernel, by decide +kernel⟩
abbrev s__law_are_numbers : Stmt := top 25
abbrev N__law_are_numbers : List Str := ["_law_thing", "_law_high", "_law_part"]
theorem sc__law_are_numbers : FnScope N__law_are_numbers ["_law_thing", "_law_high"] (defScope s__law_are_numbers) := ⟨rfl, rfl, rfl, by decide +kernel, rfl, by decide +kernel, by decide +kernel⟩
abbrev s__law_is_seen : Stmt := top 26
abbrev N__law_is_seen : List Str := ["_law_boot", "_law_many", "_law_replied", "_law_away", "_law_upto", "_law_ends", "_law_end"]
theorem sc__law_is_seen : FnScope N__law_is_seen ["_law_boot", "_law_many", "_law_replied", "_law_away", "_law_upto"] (defScope s__law_is_seen) := ⟨rfl, rfl, rfl, by decide +kernel, rfl, by decide +kernel, by decide +kernel⟩
abbrev s__law_is_view : Stmt := top 27
abbrev N__law_is_view : List Str := ["_law_thing", "_law_body_here"]
theorem sc__law_is_view : FnScope N__law_is_view ["_law_thing"] (defScope s__law_is_view) := ⟨rfl, rfl, rfl, by decide +kernel, rfl, by decide +kernel, by decide +kernel⟩
abbrev s__law_body : Stmt := top 28
abbrev N__law_body : List Str := ["_law_deck", "_law_way", "_law_sign"]
theorem sc__law_body : FnScope N__law_body ["_law_deck"] (defScope s__law_body) := ⟨rfl, rfl, rfl, by decide +kernel, rfl, by decide +kernel, by decide +kernel⟩
abbrev s__law_bodies : Stmt := top 29
abbrev N__law_bodies : List Str := ["_law_deck", "_law_many", "_law_turn"]
theorem sc__law_bodies : FnScope N__law_bodies ["_law_deck", "_law_many"] (defScope s__law_bodies) := ⟨rfl, rfl, rfl, by decide +kernel, rfl, by decide +kernel, by decide +kernel⟩
abbrev s__law_word : Stmt := top 30
abbrev N__law_word : List Str := ["_law_deck", "_law_some_here", "_law_sign"]
theorem sc__law_word : FnScope N__law_word ["_law_deck"] (defScope s__law_word) := ⟨rfl, rfl, rfl, by decide +kernel, rfl, by decide +kernel, by decide +kernel⟩
abbrev s__law_some : Stmt := top 31
abbrev N__law_some : List Str := ["_law_deck", "_law_many", "_law_share", "_law_n"]
theorem sc__law_some : FnScope N__law_some ["_law_deck", "_law_many"] (defScope s__law_some) := ⟨rfl, rfl, rfl, by decide +kernel, rfl, by decide +kernel, by decide +kernel⟩
abbrev s__law_seen : Stmt := top 32
abbrev N__law_seen : List Str := ["_law_deck", "_law_many", "_law_way", "_law_end"]
theorem sc__law_seen : FnScope N__law_seen ["_law_deck", "_law_many"] (defScope s__law_seen) := ⟨rfl, rfl, rfl, by decide +kernel, rfl, by decide +kernel, by decide +kernel⟩
abbrev s__law_drawn_view : Stmt := top 33
abbrev N__law_drawn_view : List Str := ["_law_deck", "_law_many", "_law_replied", "_law_away", "_law_upto", "_law_boot"]
theorem sc__law_drawn_view : FnScope N__law_drawn_view ["_law_deck", "_law_many"] (defScope s__law_drawn_view) := ⟨rfl, rfl, rfl, by decide +kernel, rfl, by decide +kernel, by decide +kernel⟩
abbrev s__law_odd : Stmt := top 34
abbrev N__law_odd : List Str := ["_law_deck", "_law_some_here"]
theorem sc__law_odd : FnScope N__law_odd ["_law_deck"] (defScope s__law_odd) := ⟨rfl, rfl, rfl, by decide +kernel, rfl, by decide +kernel, by decide +kernel⟩
abbrev s__law_bent : Stmt := top 35
abbrev N__law_bent : List Str := ["_law_deck", "_law_thing", "_law_way", "_law_at"]
theorem sc__law_bent : FnScope N__law_bent ["_law_deck", "_law_thing"] (defScope s__law_bent) := ⟨rfl, rfl, rfl, by decide +kernel, rfl, by decide +kernel, by decide +kernel⟩
abbrev s__law_near : Stmt := top 36
abbrev N__law_near : List Str := ["_law_deck", "_law_many", "_law_ends", "_law_answered", "_law_boot", "_law_name", "_law_bodies_here", "_law_state"]
theorem sc__law_near : FnScope N__law_near ["_law_deck"] (defScope s__law_near) := ⟨rfl, rfl, rfl, by decide +kernel, rfl, by decide +kernel, by decide +kernel⟩
abbrev s__law_is_refused : Stmt := top 37
abbrev N__law_is_refused : List Str := ["_law_thing", "_law_is_named", "_law_found", "_law_told", "e"]
theorem sc__law_is_refused : FnScope N__law_is_refused ["_law_thing", "_law_is_named"] (defScope s__law_is_refused) := ⟨rfl, rfl, rfl, by decide +kernel, rfl, by decide +kernel, by decide +kernel⟩
abbrev s_law : Stmt := top 38
abbrev N_law : List Str := ["_law_script", "_law_deck", "_law_turn", "_law_way", "_law_thing", "_law_due", "_law_text", "_law_told", "_law_is_near"]
theorem sc_law : FnScope N_law ["_law_script"] (defScope s_law) := ⟨rfl, rfl, rfl, by decide +kernel, rfl, by decide +kernel, by decide +kernel⟩
structure Fn (K : PySem.W.Frag) (mg : Str → Option Value) (x : Str) (st : Stmt) (ps : List Str) (f : Addr) (fd : FuncData) : Prop where
  F : Fun K x x st f fd
  b : Binds K fd ps []
  g : mg x = some (.ref f)
structure Blt (mg : Str → Option Value) : Prop where
  n_len : mg "len" = none
  n_str : mg "str" = none
  n_int : mg "int" = none
  n_isinstance : mg "isinstance" = none
  n_range : mg "range" = none
  n_tuple : mg "tuple" = none
  n_list : mg "list" = none
  n_max : mg "max" = none
  n_min : mg "min" = none
  n_sorted : mg "sorted" = none
  n_repr : mg "repr" = none
  n_bool : mg "bool" = none
  n_all : mg "all" = none
  n_set : mg "set" = none
  n_ord : mg "ord" = none
structure Con (mg : Str → Option Value) (tn tw tb : Tok) : Prop extends Blt mg where
  g_NUMBER_MOST : mg "NUMBER_MOST" = some (.int 1000000000 tn)
  g_WORD_MOST : mg "WORD_MOST" = some (.int 10 tw)
  g_BODY_MOST : mg "BODY_MOST" = some (.int 150 tb)
end Ag

end
/-! ## PT -/
section
set_option linter.all false
set_option maxRecDepth 100000
namespace Ag
open PySem PySem.Spec PyProof.Rows L2
open SX (S S_len S_cat S_inj)
/-! ### texts -/
theorem sz {n : Nat} (h : n ≤ 16000000) : n ≤ sizeLine := by rw [sizeLine_eq]; omega
theorem same_new {H : Hp} {p : Addr} {o : HO} (h : H p = none) : Same H (upd H p o) := fun b x e => by
  rw [upd_ne (ne_of_none e h)]
  exact e
theorem ascii_S (l : List Nat) : Txt.isascii (S l) = l.all (· < 128) := by
  show (S l).cps.all _ = _
  rw [← Array.all_toList]
theorem printable_S (l : List Nat) : Txt.isprintable (S l) = l.all Unicode.isPrintable := by
  show (S l).cps.all _ = _
  rw [← Array.all_toList]
theorem print128 : ∀ c < 128, Unicode.isPrintable c = plainC c := by decide +kernel
theorem plain_of (l : List Nat) : (l.all (· < 128) && l.all Unicode.isPrintable) = plainL l := by
  induction l with
  | nil => rfl
  | cons c cs ih =>
    show ((decide (c < 128) && cs.all _) && (Unicode.isPrintable c && cs.all _)) = (plainC c && plainL cs)
    rw [← ih]
    by_cases h : c < 128
    · rw [print128 c h]
      simp only [h, decide_true, Bool.true_and]
      cases plainC c <;> simp
    · have e : plainC c = false := by
        unfold plainC
        simp
        omega
      rw [e]
      simp [h]
section
variable {P : Program} {w : World} {K : PySem.W.Frag} {mg : Str → Option Value} {base : Heap} {tm : Tok}
def spPlain : Sp := fun vs H Q _ => ∃ l : List Nat, vs = [.str (S l)] ∧ Q (.bl (plainL l)) H
theorem ok_is_plain {f : Addr} {fd : FuncData} (F : Fn K mg "is_plain" s_is_plain ["string"] f fd) : FnOk P w K mg base CX0 1 f fd ["string"] spPlain := by
  refine F.F.ok sc_is_plain (fun vs H Q E h => ?_) (fun cdv A outer s H vs Q E hr h => ?_)
  · obtain ⟨l, rfl, _⟩ := h
    rfl
  · obtain ⟨l, rfl, q⟩ := h
    refine ⟨_, (pss_one (ps_ret (pe_and (pe_m0 PySem.F.slot_str_isascii PySem.F.type_str_isascii mt_isascii (pv 0)) (pe_one (pe_m0 PySem.F.slot_str_isprintable PySem.F.type_str_isprintable mt_isprintable (pv 0)))))), ?_⟩
    refine ⟨.str (S l), rfl, ⟨_, rfl⟩, S l, rfl, rfl, trivial, _, rfl, ?_⟩
    rw [← plain_of] at q
    rw [ascii_S]
    cases h : l.all (· < 128) with
    | false =>
      rw [h] at q
      exact q
    | true =>
      refine iteT ?_
      refine ⟨.str (S l), rfl, ⟨_, rfl⟩, S l, rfl, rfl, trivial, ?_⟩
      rw [printable_S]
      rw [h] at q
      exact q
end
end Ag

end
/-! ## V1 -/
section
set_option linter.all false
set_option maxRecDepth 100000
namespace Ag
open PySem PySem.Spec PyProof.Rows L2
open SX (S S_len S_cat S_inj)
/-! ### what is asked of the parts of a view -/
def isIntB : PyData → Bool
  | .int _ => true
  | _ => false
def wholeB (lo hi : Int) : PyData → Bool
  | .int i => decide (lo ≤ i) && decide (i ≤ hi)
  | _ => false
def azC (c : Nat) : Bool := decide (97 ≤ c) && decide (c ≤ 122)
def wordL (l : List Nat) : Bool := (decide (1 ≤ l.length) && decide (l.length ≤ 10)) && l.all azC
def wordB : PyData → Bool
  | .str x => wordL x.cps.toList
  | _ => false
def bodyB : PyData → Bool
  | .str x => decide (x.cps.toList.length ≤ 150) && plainL x.cps.toList
  | _ => false
def asInt : PyData → Int
  | .int i => i
  | _ => 0
def ascI : List Int → Bool
  | [] => true
  | a :: l => l.all (fun b => decide (a < b)) && ascI l
def cntB (hi : Int) : PyData → Bool
  | .tuple xs => xs.all (wholeB 1 hi) && ascI (xs.map asInt)
  | _ => false
theorem ascI_iff : ∀ l : List Int, ascI l = true ↔ l.Pairwise (· < ·)
  | [] => by simp [ascI]
  | a :: l => by
    rw [ascI, Bool.and_eq_true, ascI_iff l, List.pairwise_cons, List.all_eq_true]
    simp
theorem asc_uniq : ∀ {l k : List Int}, l.Pairwise (· < ·) → k.Pairwise (· < ·) → (∀ x, x ∈ l ↔ x ∈ k) → l = k
  | [], [], _, _, _ => rfl
  | [], b :: k, _, _, h => absurd ((h b).mpr List.mem_cons_self) (by simp)
  | a :: l, [], _, _, h => absurd ((h a).mp List.mem_cons_self) (by simp)
  | a :: l, b :: k, hl, hk, h => by
    rw [List.pairwise_cons] at hl hk
    have hab : a = b := by
      have h1 := (h a).mp List.mem_cons_self
      have h2 := (h b).mpr List.mem_cons_self
      rcases List.mem_cons.mp h1 with e | e
      · exact e
      · rcases List.mem_cons.mp h2 with e2 | e2
        · exact e2.symm
        · have := hk.1 a e
          have := hl.1 b e2
          omega
    subst hab
    congr 1
    refine asc_uniq hl.2 hk.2 fun x => ⟨fun hx => ?_, fun hx => ?_⟩
    · rcases List.mem_cons.mp ((h x).mp (List.mem_cons_of_mem _ hx)) with e | e
      · have := hl.1 x hx
        omega
      · exact e
    · rcases List.mem_cons.mp ((h x).mpr (List.mem_cons_of_mem _ hx)) with e | e
      · have := hk.1 x hx
        omega
      · exact e
theorem alpha128 : ∀ c < 128, Unicode.isAlpha c = ((decide (65 ≤ c) && decide (c ≤ 90)) || azC c) := by decide +kernel
theorem lower128 : ∀ c < 128, Unicode.isLower c = azC c := by decide +kernel
theorem upper128 : ∀ c < 128, (Unicode.isUpper c || Unicode.isTitle c) = (decide (65 ≤ c) && decide (c ≤ 90)) := by decide +kernel
theorem word_of {l : List Nat} (ha : l.all (· < 128) = true) (hne : l ≠ []) : (Txt.isalpha (S l) && Txt.islower (S l)) = l.all azC := by
  have e1 : Txt.isalpha (S l) = l.all Unicode.isAlpha := by
    show (decide ((S l).length > 0) && (S l).cps.all _) = _
    rw [← Array.all_toList, S_len, decide_eq_true (by cases l; exact absurd rfl hne; simp), Bool.true_and]
  have e2 : Txt.islower (S l) = (l.any Unicode.isLower && !l.any fun c => Unicode.isUpper c || Unicode.isTitle c) := by
    show ((S l).cps.any _ && !(S l).cps.any _) = _
    rw [← Array.any_toList, ← Array.any_toList]
  have lt : ∀ c ∈ l, c < 128 := fun c hc => by simpa using List.all_eq_true.mp ha c hc
  rw [e1, e2, Bool.eq_iff_iff]
  simp only [Bool.and_eq_true, List.all_eq_true, List.any_eq_true, Bool.not_eq_true', List.any_eq_false]
  constructor
  · rintro ⟨h1, _, h3⟩ c hc
    have a1 := h1 c hc
    have a3 := h3 c hc
    rw [upper128 c (lt c hc)] at a3
    rw [alpha128 c (lt c hc), Bool.or_eq_true] at a1
    rcases a1 with a1 | a1
    · rw [a1] at a3
      exact absurd rfl a3
    · exact a1
  · intro h
    refine ⟨fun c hc => ?_, ?_, fun c hc => ?_⟩
    · rw [alpha128 c (lt c hc), h c hc, Bool.or_true]
    · cases l with
      | nil => exact absurd rfl hne
      | cons c l => exact ⟨c, List.mem_cons_self, by rw [lower128 c (lt c List.mem_cons_self)]; exact h c List.mem_cons_self⟩
    · rw [upper128 c (lt c hc)]
      have := h c hc
      simp only [azC, Bool.and_eq_true, decide_eq_true_eq] at this
      simp
      omega
theorem dpIntsG {K : PySem.W.Frag} {H : Hp} : ∀ cs : List Int, DpAll K H (cs.map V.int) (cs.map PyData.int)
  | [] => .nil
  | c :: cs => .cons (.int c) (dpIntsG cs)
theorem lay_ints : ∀ cs : List Int, PyData.canLayAll0 (cs.map PyData.int) = true
  | [] => by simp [PyData.canLayAll0]
  | c :: cs => by simp [PyData.canLayAll0, PyData.canLay0, lay_ints cs]
theorem depth_ints : ∀ cs : List Int, PyData.depthAll (cs.map PyData.int) = 0
  | [] => by simp [PyData.depthAll]
  | c :: cs => by simp [PyData.depthAll, PyData.depth, depth_ints cs]
theorem shaped_ints (cs : List Int) : SeqAt.shaped (.list (cs.map PyData.int)) = true := by
  simp [SeqAt.shaped, PyData.canLay0, PyData.depth, lay_ints, depth_ints]
theorem eqv_ints : ∀ a b : List Int, PyData.eqvAll (a.map PyData.int) (b.map PyData.int) = decide (a = b)
  | [], [] => by simp [PyData.eqvAll]
  | [], _ :: _ => by simp [PyData.eqvAll]
  | _ :: _, [] => by simp [PyData.eqvAll]
  | x :: a, y :: b => by
    simp only [List.map_cons, PyData.eqvAll, PyData.eqv, eqv_ints a b]
    rw [Bool.eq_iff_iff]
    simp
/-- a tuple's items that are all ints -/
theorem ints_of_D {p c : Addr} {H : Hp} {lo hi : Int} : ∀ {vs : List V} {ds : List PyData}, DgA p c H vs ds → ds.all (wholeB lo hi) = true → vs = (ds.map asInt).map V.int
  | [], [], _, _ => rfl
  | v :: vs, d :: ds, .cons h t, e => by
    rw [List.all_cons, Bool.and_eq_true] at e
    rw [List.map_cons, List.map_cons, ← ints_of_D t e.2]
    cases h with
    | int i => rfl
    | _ => exact absurd e.1 (by simp [wholeB])
section
variable {P : Program} {w : World} {K : PySem.W.Frag} {mg : Str → Option Value} {base : Heap} {tn tw tb : Tok}
def spInteger : Sp := fun vs H Q _ => ∃ p c v d, vs = [v] ∧ Dg p c H v d ∧ Q (.bl (isIntB d)) H
theorem ok_is_integer {f : Addr} {fd : FuncData} (F : Fn K mg "is_integer" s_is_integer ["thing"] f fd) (B : Con mg tn tw tb) : FnOk P w K mg base CX0 1 f fd ["thing"] spInteger := by
  refine F.F.ok sc_is_integer (fun vs H Q E h => ?_) (fun cdv A outer s H vs Q E hr h => ?_)
  · obtain ⟨p, c, x, d, rfl, _⟩ := h
    rfl
  · obtain ⟨p, c, x, d, rfl, hd, q⟩ := h
    refine ⟨_, (pss_one (ps_ret (pe_and (pe_callB call_isi (by rfl) B.n_isinstance (by decide +kernel) (pa_cons (pv 0) (pa_cons (pe_bltn (v := .ty "int") (by rfl) B.n_int (by decide +kernel) rfl) pa_nil))) (pe_one (pe_not (pe_callB call_isi (by rfl) B.n_isinstance (by decide +kernel) (pa_cons (pv 0) (pa_cons (pe_bltn (v := .ty "bool") (by rfl) B.n_bool (by decide +kernel) rfl) pa_nil)))))))), ?_⟩
    refine ⟨x, rfl, x, .ty "int", _, _, _, rfl, .ty "int", hd.tyx, isi_I d, _, rfl, ite2 (fun h => ?_) (fun h => ?_)⟩
    · refine ⟨_, rfl, x, .ty "bool", _, _, _, rfl, .ty "bool", hd.tyx, isi_B d, _, rfl, ?_⟩
      cases d <;> first | exact q | exact absurd h (by simp [isI])
    · cases d <;> first | exact q | exact absurd rfl h
def spBetween : Sp := fun vs H Q _ => ∃ p c v d, ∃ (lo hi : Int), vs = [v, .int lo, .int hi] ∧ Dg p c H v d ∧ Q (.bl (wholeB lo hi d)) H
theorem ok_is_between {f f1 : Addr} {fd fd1 : FuncData} (F : Fn K mg "is_between" s_is_between ["thing", "least", "most"] f fd) (B : Con mg tn tw tb) (F_is_integer : Fn K mg "is_integer" s_is_integer ["thing"] f1 fd1) : FnOk P w K mg base CX0 2 f fd ["thing", "least", "most"] spBetween := by
  have G_is_integer : FnOk P w K mg base CX0 1 f1 fd1 ["thing"] spInteger := ok_is_integer F_is_integer B
  refine F.F.ok sc_is_between (fun vs H Q E h => ?_) (fun cdv A outer s H vs Q E hr h => ?_)
  · obtain ⟨p, c, x, d, lo, hi, rfl, _⟩ := h
    rfl
  · obtain ⟨p, c, x, d, lo, hi, rfl, hd, q⟩ := h
    refine ⟨_, (pss_one (ps_ret (pe_and (pe_call G_is_integer (hr.mono (by decide)) (by rfl) F_is_integer.g F_is_integer.F.kp F_is_integer.b .nil pass0 (pa_cons (pv 0) pa_nil)) (pe_one (pe_chain op_le op_le (pv 1) (pv 0) (pv 2)))))), ?_⟩
    refine ⟨_, rfl, p, c, x, d, rfl, hd, _, rfl, ite2 (fun h => ?_) (fun h => ?_)⟩
    · cases hd with
      | int i =>
        refine ⟨_, rfl, _, rfl, _, _, rfl, rfl, _, rfl, ?_⟩
        simp only [wholeB] at q
        refine ite2 (fun h1 => ?_) (fun h1 => ?_)
        · rw [h1, Bool.true_and] at q
          exact ⟨_, rfl, _, _, rfl, rfl, q⟩
        · rw [Bool.eq_false_iff.mpr h1, Bool.false_and] at q
          exact q
      | _ => exact absurd h (by simp [isIntB])
    · cases d <;> first | exact q | exact absurd rfl h
def spNumber : Sp := fun vs H Q _ => ∃ p c v d, vs = [v] ∧ Dg p c H v d ∧ Q (.bl (wholeB 0 1000000000 d)) H
theorem ok_is_number {f f1 f2 : Addr} {fd fd1 fd2 : FuncData} (F : Fn K mg "is_number" s_is_number ["thing"] f fd) (B : Con mg tn tw tb) (F_is_integer : Fn K mg "is_integer" s_is_integer ["thing"] f1 fd1) (F_is_between : Fn K mg "is_between" s_is_between ["thing", "least", "most"] f2 fd2) : FnOk P w K mg base CX0 3 f fd ["thing"] spNumber := by
  have G_is_between : FnOk P w K mg base CX0 2 f2 fd2 ["thing", "least", "most"] spBetween := ok_is_between F_is_between B F_is_integer
  refine F.F.ok sc_is_number (fun vs H Q E h => ?_) (fun cdv A outer s H vs Q E hr h => ?_)
  · obtain ⟨p, c, x, d, rfl, _⟩ := h
    rfl
  · obtain ⟨p, c, x, d, rfl, hd, q⟩ := h
    refine ⟨_, (pss_one (ps_ret (pe_call G_is_between (hr.mono (by decide)) (by rfl) F_is_between.g F_is_between.F.kp F_is_between.b .nil pass0 (pa_cons (pv 0) (pa_cons pe_int (pa_cons (pe_glob (v := .int 1000000000) rfl B.g_NUMBER_MOST ⟨_, rfl⟩) pa_nil)))))), ?_⟩
    exact ⟨_, rfl, p, c, x, d, 0, 1000000000, rfl, hd, q⟩
def spWord : Sp := fun vs H Q _ => ∃ p c v d q n b, vs = [v] ∧ Dg p c H v d ∧ Gd q d n b ∧ Q (.bl (wordB d)) H
theorem ok_is_word {f : Addr} {fd : FuncData} (F : Fn K mg "is_word" s_is_word ["thing"] f fd) (B : Con mg tn tw tb) : FnOk P w K mg base CX0 1 f fd ["thing"] spWord := by
  refine F.F.ok sc_is_word (fun vs H Q E h => ?_) (fun cdv A outer s H vs Q E hr h => ?_)
  · obtain ⟨p, c, x, d, _, _, _, rfl, _⟩ := h
    rfl
  · obtain ⟨p, c, x, d, qq, n, b, rfl, hd, hg, q⟩ := h
    refine ⟨_, (pss_cons (ps_if (PW.pt (pw_or (pt_not (pt_val (pe_callB call_isi (by rfl) B.n_isinstance (by decide +kernel) (pa_cons (pv 0) (pa_cons (pe_bltn (v := .ty "str") (by rfl) B.n_str (by decide +kernel) rfl) pa_nil))))) (pw_or1 (pt_not (pt_chain op_le op_le pe_int (pe_callB call_len_str (by rfl) B.n_len PySem.boot_len (pa_cons (pv 0) pa_nil)) (pe_glob (v := .int 10) rfl B.g_WORD_MOST ⟨_, rfl⟩))))))
      (pss_one (ps_ret pe_bl))
      pss_nil)
      (pss_one (ps_ret (pe_and (pe_m0 PySem.F.slot_str_isascii PySem.F.type_str_isascii mt_isascii (pv 0)) (pe_and (pe_m0 PySem.F.slot_str_isalpha PySem.F.type_str_isalpha mt_isalpha (pv 0)) (pe_one (pe_m0 PySem.F.slot_str_islower PySem.F.type_str_islower mt_islower (pv 0)))))))), ?_⟩
    refine ⟨_, rfl, x, .ty "str", _, _, _, rfl, .ty "str", hd.tyx, isi_S d, _, rfl, ?_⟩
    cases hd with
    | str x =>
      obtain ⟨h1, h2⟩ := hg.strlen
      have hx : x = S x.cps.toList := rfl
      generalize x.cps.toList = l at h1 h2 hx q
      subst hx
      refine iteF ?_
      refine ⟨.str (S l), rfl, S l, rfl, sz (by rw [S_len]; omega), _, _, rfl, rfl, _, rfl, ?_⟩
      rw [S_len]
      have q : Q (.bl (wordL l)) H := q
      unfold wordL at q
      have e1 : decide ((1 : Int) ≤ (l.length : Int)) = decide (1 ≤ l.length) := by
        rw [Bool.eq_iff_iff, decide_eq_true_eq, decide_eq_true_eq]
        omega
      have e2 : decide ((l.length : Int) ≤ 10) = decide (l.length ≤ 10) := by
        rw [Bool.eq_iff_iff, decide_eq_true_eq, decide_eq_true_eq]
        omega
      rw [e1]
      cases h3 : decide (1 ≤ l.length) with
      | false =>
        rw [h3, Bool.false_and, Bool.false_and] at q
        exact iteF ⟨_, rfl, iteT q⟩
      | true =>
        rw [h3, Bool.true_and] at q
        refine iteT ?_
        refine ⟨_, _, rfl, rfl, _, rfl, ?_⟩
        rw [e2]
        cases h4 : decide (l.length ≤ 10) with
        | false =>
          rw [h4, Bool.false_and] at q
          exact iteT q
        | true =>
          rw [h4, Bool.true_and] at q
          refine iteF ?_
          have hne : l ≠ [] := by
            rintro rfl
            exact absurd h3 (by decide)
          rw [← word_of h1 hne] at q
          refine ⟨.str (S l), rfl, ⟨_, rfl⟩, S l, rfl, rfl, trivial, _, rfl, ?_⟩
          rw [ascii_S, h1]
          refine iteT ?_
          refine ⟨.str (S l), rfl, ⟨_, rfl⟩, S l, rfl, rfl, trivial, _, rfl, ?_⟩
          refine ite2 (fun h5 => ?_) (fun h5 => ?_)
          · rw [h5, Bool.true_and] at q
            exact ⟨.str (S l), rfl, ⟨_, rfl⟩, S l, rfl, rfl, trivial, q⟩
          · rw [Bool.eq_false_iff.mpr h5, Bool.false_and] at q
            exact q
    | _ => exact iteT (iteT q)
end
end Ag

end
/-! ## Kit4 -/
section
set_option linter.all false
set_option maxRecDepth 100000
namespace Ag
open PySem PySem.Spec PyProof.Rows L2
/-- a comprehension with a pure test and a pure value at each place, under which things may be made -/
theorem lc_sel {J : It} {n : Nat} {G : Hp → Prop} {Y : Nat → Hp → V → Hp → Prop} (w : Walk J n G Y) {g : TG} {tt : TT} {te : TE} {vs : List Nat} {σ : L2.St} {H1 : Hp} {D : Addr} {Qd : Hp → Prop}
    (t : Nat → Bool) (e : Nat → V) (hn : n ≤ 16000000) (hD : H1 D = none) (hG : ∀ H, Same H1 H → G H)
    (hs : ∀ i x H H' (k : VK) (k0 : Hp → Prop), i < n → Same H1 H → Y i H x H' → (t i = true → ∀ H4, Same H H4 → k (e i) H4) → (t i = false → ∀ H4, Same H H4 → k0 H4) →
      g x (wipe σ vs) H' fun σ2 H2 => wipe σ2 vs = wipe σ vs ∧ tt σ2 H2 fun b H3 => if b = true then te σ2 H3 k else k0 H3)
    (hd : ∀ H, Same H1 H → H D = some (.lst (((List.range n).filter t).map e)) → Qd H) :
    ∃ W : Nat → Nat → Hp → Prop, (∃ m, W 0 m (upd H1 D (.lst []))) ∧ ∀ i m H, W i m H →
      (J.stop i H ∧ Qd H) ∨ (J.go i H ∧ ∃ Nx : Hp → Prop, (∀ H', Nx H' → ∃ m', m' < m ∧ W (i + 1) m' H') ∧ ∀ x H', J.yld i H x H' → g x (wipe σ vs) H' fun σ2 H2 => wipe σ2 vs = wipe σ vs ∧ tt σ2 H2 fun b H3 =>
        if b = true then te σ2 H3 fun y H4 => ∃ acc, H4 D = some (.lst acc) ∧ acc.length < sizeLine ∧ Nx (upd H4 D (.lst (acc ++ [y]))) else Nx H3) := by
  have put : ∀ (H : Hp) (o : HO), Same H1 H → Same H1 (upd H D o) := fun H o s b u eb => by
    rw [upd_ne (ne_of_none eb hD)]
    exact s b u eb
  have step : ∀ i, (List.range (i + 1)).filter t = (List.range i).filter t ++ (if t i = true then [i] else []) := fun i => by
    rw [List.range_succ, List.filter_append]
    cases h : t i <;> simp [h]
  refine lc_it (g := g) (tt := tt) (te := te) (vs := vs) (σ := σ) w (fun i H => Same H1 H ∧ H D = some (.lst (((List.range i).filter t).map e))) ⟨put _ _ (Same.refl _), by simpa using upd_same⟩ (fun i H _ h => hG H h.1) (fun i x H H' hi h hy => ?_) (fun H h => hd H h.1 h.2)
  obtain ⟨s1, h1⟩ := h
  have hl : (((List.range i).filter t).map e).length ≤ i := by
    rw [List.length_map]
    exact Nat.le_trans (List.length_filter_le _ _) (by rw [List.length_range]; exact Nat.le_refl _)
  refine hs i x H H' _ _ hi s1 hy (fun ht H4 s4 => ?_) (fun ht H4 s4 => ?_)
  · refine ⟨_, s4 _ _ h1, by rw [sizeLine_eq]; omega, put _ _ (s1.trans s4), ?_⟩
    rw [upd_same, step, if_pos ht, List.map_append]
    rfl
  · refine ⟨s1.trans s4, ?_⟩
    rw [step, if_neg (by rw [ht]; decide), List.append_nil]
    exact s4 _ _ h1
/-- len of a list or a tuple, where a comprehension's block runs -/
def rLenK (K : PySem.W.Frag) : List V → Hp → VK → Prop := fun xs H Q => ∃ p ys, xs = [.ref p] ∧ (SqL K H p ys ∨ SqT K H p ys) ∧ Q (.int ys.length) H
theorem call_lenK {X : Cx} (K : PySem.W.Frag) (hK : X.K = K) : CallR X (.builtin "len") (rLenK K) := by
  subst hK
  exact call_len_seq
theorem filt_all {n : Nat} (e : Nat → V) : ((List.range n).filter fun _ => true).map e = (List.range n).map e := by rw [List.filter_eq_self.mpr fun _ _ => rfl]
/-- bools by place -/
theorem bls_map {n : Nat} (b : Nat → Bool) : (List.range n).map (fun i => V.bl (b i)) = ((List.range n).map b).map V.bl := by rw [List.map_map]; rfl
theorem all_at {α : Type} (l : List α) (t : α → Bool) (d : α) : ((List.range l.length).map fun i => t (l.getD i d)).all id = l.all t := by
  induction l with
  | nil => rfl
  | cons a l ih =>
    rw [List.length_cons, List.range_succ_eq_map, List.map_cons, List.all_cons, List.map_map, List.all_cons, ← ih]
    rfl
theorem none_at {α : Type} (l : List α) (t : α → Bool) (d : α) : decide (((List.range l.length).filter fun i => !t (l.getD i d)) = []) = l.all t := by
  rw [Bool.eq_iff_iff, decide_eq_true_eq, List.filter_eq_nil_iff, List.all_eq_true]
  constructor
  · intro h a ha
    obtain ⟨i, hi, rfl⟩ := List.mem_iff_getElem.mp ha
    have := h i (List.mem_range.mpr hi)
    rw [List.getD_eq_getElem?_getD, List.getElem?_eq_getElem hi] at this
    simpa using this
  · intro h i hi
    have hi := List.mem_range.mp hi
    rw [List.getD_eq_getElem?_getD, List.getElem?_eq_getElem hi]
    simpa using h _ (List.getElem_mem hi)
theorem eqv_map_nil {α : Type} (l : List α) (e : α → PyData) : PyData.eqv (.list (l.map e)) (.list []) = decide (l = []) := by
  cases l <;> simp [PyData.eqv, PyData.eqvAll]
theorem dp_const {K : PySem.W.Frag} {H : Hp} {α : Type} : ∀ l : List α, DpAll K H (l.map fun _ => V.int 1) (l.map fun _ => PyData.int 1)
  | [] => .nil
  | _ :: l => .cons (.int 1) (dp_const l)
theorem shaped_const {α : Type} (l : List α) : SeqAt.shaped (.list (l.map fun _ => PyData.int 1)) = true := by
  have : (l.map fun _ => PyData.int 1) = (l.map fun _ => (1 : Int)).map PyData.int := by rw [List.map_map]; rfl
  rw [this]
  exact shaped_ints _
end Ag

end
/-! ## V2 -/
section
set_option linter.all false
set_option maxRecDepth 100000
namespace Ag
open PySem PySem.Spec PyProof.Rows L2
open SX (S S_len S_cat S_inj)
section
variable {P : Program} {w : World} {K : PySem.W.Frag} {mg : Str → Option Value} {base : Heap} {tn tw tb : Tok}
def spBody : Sp := fun vs H Q _ => ∃ p c v d q n b, vs = [v] ∧ Dg p c H v d ∧ Gd q d n b ∧ Q (.bl (bodyB d)) H
theorem ok_is_body {f f1 : Addr} {fd fd1 : FuncData} (F : Fn K mg "is_body" s_is_body ["thing"] f fd) (B : Con mg tn tw tb) (F_is_plain : Fn K mg "is_plain" s_is_plain ["string"] f1 fd1) : FnOk P w K mg base CX0 2 f fd ["thing"] spBody := by
  have G_is_plain : FnOk P w K mg base CX0 1 f1 fd1 ["string"] spPlain := ok_is_plain F_is_plain
  refine F.F.ok sc_is_body (fun vs H Q E h => ?_) (fun cdv A outer s H vs Q E hr h => ?_)
  · obtain ⟨p, c, x, d, _, _, _, rfl, _⟩ := h
    rfl
  · obtain ⟨p, c, x, d, qq, n, b, rfl, hd, hg, q⟩ := h
    refine ⟨_, (pss_one (ps_ret (pe_and (pe_callB call_isi (by rfl) B.n_isinstance (by decide +kernel) (pa_cons (pv 0) (pa_cons (pe_bltn (v := .ty "str") (by rfl) B.n_str (by decide +kernel) rfl) pa_nil))) (pe_and (pe_cmpR op_le (pe_callB call_len_str (by rfl) B.n_len PySem.boot_len (pa_cons (pv 0) pa_nil)) (pe_glob (v := .int 150) rfl B.g_BODY_MOST ⟨_, rfl⟩) (nomark _)) (pe_one (pe_call G_is_plain (hr.mono (by decide)) (by rfl) F_is_plain.g F_is_plain.F.kp F_is_plain.b .nil pass0 (pa_cons (pv 0) pa_nil))))))), ?_⟩
    refine ⟨x, rfl, x, .ty "str", _, _, _, rfl, .ty "str", hd.tyx, isi_S d, _, rfl, ?_⟩
    cases hd with
    | str x =>
      obtain ⟨h1, h2⟩ := hg.strlen
      have hx : x = S x.cps.toList := rfl
      generalize x.cps.toList = l at h1 h2 hx q
      subst hx
      have q : Q (.bl (decide (l.length ≤ 150) && plainL l)) H := q
      refine iteT ?_
      refine ⟨.str (S l), rfl, S l, rfl, sz (by rw [S_len]; omega), _, _, rfl, rfl, _, rfl, ?_⟩
      rw [S_len]
      have e : decide ((l.length : Int) ≤ 150) = decide (l.length ≤ 150) := by
        rw [Bool.eq_iff_iff, decide_eq_true_eq, decide_eq_true_eq]
        omega
      rw [e]
      refine ite2 (fun h1 => ?_) (fun h1 => ?_)
      · rw [h1, Bool.true_and] at q
        exact ⟨_, rfl, l, rfl, q⟩
      · rw [Bool.eq_false_iff.mpr h1, Bool.false_and] at q
        exact q
    | _ => exact q
def spCounted : Sp := fun vs H Q _ => ∃ p c v d q n b m, vs = [v, .int m] ∧ Dg p c H v d ∧ Gd q d n b ∧ ∀ H', Same H H' → Q (.bl (cntB m d)) H'
theorem ok_are_counted {f f1 : Addr} {fd fd1 : FuncData} (F : Fn K mg "are_counted" s_are_counted ["thing", "most"] f fd) (B : Con mg tn tw tb) (F_is_between : Fn K mg "is_between" s_is_between ["thing", "least", "most"] f1 fd1) (G_is_between : FnOk P w K mg base CX0 2 f1 fd1 ["thing", "least", "most"] spBetween) : FnOk P w K mg base CX0 3 f fd ["thing", "most"] spCounted := by
  refine F.F.ok sc_are_counted (fun vs H Q E h => ?_) (fun cdv A outer s H vs Q E hr h => ?_)
  · obtain ⟨p, c, x, d, _, _, _, m, rfl, _⟩ := h
    rfl
  · obtain ⟨p, c, x, d, qq, n, b, m, rfl, hd, hg, q⟩ := h
    refine ⟨_, (pss_cons (ps_if (PW.pt (pw_or (pt_not (pt_val (pe_callB call_isi (by rfl) B.n_isinstance (by decide +kernel) (pa_cons (pv 0) (pa_cons (pe_bltn (v := .ty "tuple") (by rfl) B.n_tuple (by decide +kernel) rfl) pa_nil))))) (pw_or1 (pt_not (pt_val (pe_callB (cr_all rfl) (by rfl) B.n_all (by decide +kernel) (pa_cons (pe_lc (own := [("number", 2)]) rfl sc_are_counted.nd (pi_tup (pv 0)) (blkOk_by (N := N_are_counted) (sc := defScope s_are_counted) (by decide +kernel)) (fun _ _ _ _ _ => (pg_name (i := 2) sc_are_counted.nd rfl (Or.inl rfl))) (fun _ _ _ _ _ => pts_nil) (fun _ _ _ _ _ => (pe_call G_is_between (hr.mono (by decide)) (by rfl) F_is_between.g F_is_between.F.kp F_is_between.b .nil pass0 (pa_cons (pv 2) (pa_cons pe_int (pa_cons (pv 1) pa_nil)))))) pa_nil)))))))
      (pss_one (ps_ret pe_bl))
      pss_nil)
      (pss_one (ps_ret (pe_cmpR (op_eqD hr.units) (pe_callTy call_list_of (by rfl) B.n_list (by decide +kernel) (pa_cons (pv 0) pa_nil)) (pe_callB (cr_sortedSet rfl) (by rfl) B.n_sorted (by decide +kernel) (pa_cons (pe_callTy (cr_setI rfl) (by rfl) B.n_set (by decide +kernel) (pa_cons (pv 0) pa_nil)) pa_nil)) (nomark _))))), ?_⟩
    refine ⟨_, rfl, x, .ty "tuple", _, _, _, rfl, .ty "tuple", hd.tyx, isi_T d, _, rfl, ?_⟩
    cases hd with
    | tup ha hA =>
      rename_i a xs ds
      obtain ⟨hgA, hl⟩ := hg.untup
      have hxl : xs.length ≤ 60 := by rw [hA.len]; exact hl
      refine iteF ?_
      refine ⟨_, rfl, a, rfl, ⟨_, SqT.of ha.2.2⟩, fun D hD => ?_⟩
      refine lc_sel (walk_tup (K := K) (a := a) (xs := xs)) (fun _ => true) (fun i => .bl (wholeB 1 m (ds.getD i .none))) (by omega) hD (fun H' s => SqT.of (s _ _ ha.2.2)) ?_ ?_
      · rintro i y H1 H2 k k0 hi s1 ⟨rfl, hy⟩ hk _
        obtain ⟨d, hdi, hdg⟩ := hA.at_ hy
        have hk := hk rfl H2 (Same.refl _)
        rw [List.getD_eq_getElem?_getD, hdi] at hk
        have hk : k (.bl (wholeB 1 m d)) H2 := hk
        have hdg := hdg.to (.same s1)
        exact ⟨rfl, _, rfl, _, rfl, p, c, y, d, 1, m, rfl, hdg, hk⟩
      · intro H1 s1 h1
        rw [filt_all, bls_map] at h1
        refine ⟨D, _, rfl, SqL.of h1, _, rfl, ?_⟩
        have e : ((List.range xs.length).map fun i => wholeB 1 m (ds.getD i .none)).all id = ds.all (wholeB 1 m) := by
          rw [hA.len]
          exact all_at ds (wholeB 1 m) .none
        rw [e]
        have q : ∀ H', Same H H' → Q (.bl (ds.all (wholeB 1 m) && ascI (ds.map asInt))) H' := q
        cases hall : ds.all (wholeB 1 m) with
        | false =>
          rw [hall, Bool.false_and] at q
          exact iteT (q _ s1)
        | true =>
          rw [hall, Bool.true_and] at q
          refine iteF ?_
          have hxs := ints_of_D hA hall
          generalize ds.map asInt = ns at hxs q
          subst hxs
          rw [List.length_map] at hxl
          refine ⟨_, rfl, a, _, rfl, .inr (SqT.of (s1 _ _ ha.2.2)), fun l hl => ?_⟩
          have s2 := s1.trans (same_new (o := .lst (ns.map V.int)) hl)
          refine ⟨_, rfl, a, ns, rfl, .inr (SqT.of (s2 _ _ ha.2.2)), by omega, fun st L hst nd hm hll => ?_⟩
          have nls : l ≠ st := ne_of_none (H := upd H1 l (.lst (ns.map V.int))) upd_same hst
          refine ⟨st, _, _, rfl, upd_same, by omega, fun ns' r hpw hmem hlen hr => ?_⟩
          have nsr : st ≠ r := ne_of_none upd_same hr
          have nlr : l ≠ r := ne_of_none (by rw [upd_ne nls]; exact upd_same) hr
          refine ⟨.list (ns.map .int), .list (ns'.map .int), .lst (SqL.of (by rw [upd_ne nlr, upd_ne nls, upd_same])) (dpIntsG _), .lst (SqL.of upd_same) (dpIntsG _), shaped_ints _, shaped_ints _, ?_⟩
          have e2 : PyData.eqv (.list (ns.map .int)) (.list (ns'.map .int)) = ascI ns := by
            rw [PyData.eqv, eqv_ints, Bool.eq_iff_iff, decide_eq_true_eq, ascI_iff]
            constructor
            · rintro rfl
              exact hpw
            · intro h
              exact asc_uniq h hpw fun k => by rw [hmem k, decide_eq_true_eq]
          rw [e2]
          exact q _ ((s2.trans (same_new hst)).trans (same_new hr))
    | _ => exact iteT (iteT (q _ (Same.refl _)))
end
end Ag

end
/-! ## V3 -/
section
set_option linter.all false
set_option maxRecDepth 100000
set_option maxHeartbeats 4000000
namespace Ag
open PySem PySem.Spec PyProof.Rows L2
open SX (S S_len S_cat S_inj)
/-! ### views -/
def isN : PyData → Bool
  | .none => true
  | _ => false
def lenT : PyData → Nat
  | .tuple xs => xs.length
  | _ => 0
def bodiesB : PyData → Bool
  | .tuple xs => xs.all bodyB
  | _ => false
def stB (d : PyData) : Bool := is2 (Str.ofString "open") (Str.ofString "broken") d
def endsL (a u : PyData) : List PyData := (if isN a = true then [] else [a]) ++ (if isN u = true then [] else [u])
def evsL (a u : V) : List V := (if decide (a = .non) = true then [] else [a]) ++ (if decide (u = .non) = true then [] else [u])
def oneB : List Int → Bool
  | [x, y] => decide (x = y)
  | _ => true
def minE (m : Int) : List Int → Int
  | [] => m
  | x :: l => min x (minE m l)
def maxE (m : Int) : List Int → Int
  | [] => m
  | x :: l => max x (maxE m l)
theorem minE_spec (m : Int) : ∀ l : List Int, minE m l ∈ m :: l ∧ ∀ y ∈ m :: l, minE m l ≤ y
  | [] => by simp [minE]
  | x :: l => by
    obtain ⟨h1, h2⟩ := minE_spec m l
    simp only [minE]
    refine ⟨?_, fun y hy => ?_⟩
    · by_cases h : x ≤ minE m l
      · rw [Int.min_eq_left h]
        simp
      · rw [Int.min_eq_right (by omega)]
        rcases List.mem_cons.mp h1 with e | e
        · rw [e]; simp
        · exact List.mem_cons_of_mem _ (List.mem_cons_of_mem _ e)
    · rcases List.mem_cons.mp hy with rfl | hy
      · have := h2 y List.mem_cons_self
        omega
      · rcases List.mem_cons.mp hy with rfl | hy
        · omega
        · have := h2 y (List.mem_cons_of_mem _ hy)
          omega
theorem maxE_spec (m : Int) : ∀ l : List Int, maxE m l ∈ m :: l ∧ ∀ y ∈ m :: l, y ≤ maxE m l
  | [] => by simp [maxE]
  | x :: l => by
    obtain ⟨h1, h2⟩ := maxE_spec m l
    simp only [maxE]
    refine ⟨?_, fun y hy => ?_⟩
    · by_cases h : maxE m l ≤ x
      · rw [Int.max_eq_left h]
        simp
      · rw [Int.max_eq_right (by omega)]
        rcases List.mem_cons.mp h1 with e | e
        · rw [e]; simp
        · exact List.mem_cons_of_mem _ (List.mem_cons_of_mem _ e)
    · rcases List.mem_cons.mp hy with rfl | hy
      · have := h2 y List.mem_cons_self
        omega
      · rcases List.mem_cons.mp hy with rfl | hy
        · omega
        · have := h2 y (List.mem_cons_of_mem _ hy)
          omega
theorem min_uniq {m k : Int} {l : List Int} (h1 : k ∈ m :: l) (h2 : ∀ y ∈ m :: l, k ≤ y) : k = minE m l := by
  obtain ⟨a, b⟩ := minE_spec m l
  have := h2 _ a
  have := b _ h1
  omega
theorem max_uniq {m k : Int} {l : List Int} (h1 : k ∈ m :: l) (h2 : ∀ y ∈ m :: l, y ≤ k) : k = maxE m l := by
  obtain ⟨a, b⟩ := maxE_spec m l
  have := h2 _ a
  have := b _ h1
  omega
def numE (many : Nat) (d : PyData) : Bool := wholeB 0 1000000000 d && decide (asInt d ≤ (many : Int))
def seenB (many : Nat) (bt an aw up : PyData) : Bool :=
  if isN bt = true then isT0 an && (isN aw && isN up)
  else wholeB 0 1000000000 bt && ((endsL aw up).all (numE many) && (oneB ((endsL aw up).map asInt) && cntB (minE many ((endsL aw up).map asInt)) an))
def viewB : PyData → Bool
  | .tuple [h, b, bs, an, aw, up, st] => (wordB h && stB st) && (bodiesB bs && seenB (lenT bs) b an aw up)
  | _ => false
theorem len7 {α : Type} : ∀ {l : List α}, l.length = 7 → ∃ a b c d e f g, l = [a, b, c, d, e, f, g]
  | [a, b, c, d, e, f, g], _ => ⟨a, b, c, d, e, f, g, rfl⟩
theorem view7 {ds : List PyData} (h : ds.length ≠ 7) : viewB (.tuple ds) = false := by
  match ds, h with
  | [], _ => rfl
  | [_], _ => rfl
  | [_, _], _ => rfl
  | [_, _, _], _ => rfl
  | [_, _, _, _], _ => rfl
  | [_, _, _, _, _], _ => rfl
  | [_, _, _, _, _, _], _ => rfl
  | [_, _, _, _, _, _, _], h => exact absurd rfl h
  | _ :: _ :: _ :: _ :: _ :: _ :: _ :: _ :: _, _ => rfl
theorem Dg.isN {p c : Addr} {H : Hp} {v : V} {d : PyData} (h : Dg p c H v d) : decide (v = .non) = isN d := by cases h <;> rfl
theorem sel_ends (a u : V) : (((List.range 2).filter fun i => !decide (([a, u] : List V).getD i .non = .non)).map fun i => ([a, u] : List V).getD i .non) = evsL a u := by
  have e : List.range 2 = [0, 1] := rfl
  rw [e]
  unfold evsL
  by_cases h1 : a = .non <;> by_cases h2 : u = .non <;> simp [h1, h2]
theorem dg_ends {p c : Addr} {H : Hp} {a u : V} {d e : PyData} (h1 : Dg p c H a d) (h2 : Dg p c H u e) : DgA p c H (evsL a u) (endsL d e) := by
  unfold evsL endsL
  rw [h1.isN, h2.isN]
  refine DgA.app ?_ ?_
  · split
    · exact .nil
    · exact .cons h1 .nil
  · split
    · exact .nil
    · exact .cons h2 .nil
theorem ends_le (a u : PyData) : (endsL a u).length ≤ 2 := by
  unfold endsL
  split <;> split <;> simp
theorem gd_ends {q : Bool} {n b : Nat} {a u : PyData} (h1 : Gd q a n b) (h2 : Gd q u n b) : ∀ d ∈ endsL a u, Gd q d n b := by
  intro d hd
  unfold endsL at hd
  rcases List.mem_append.mp hd with hd | hd
  · split at hd
    · cases hd
    · rw [List.mem_singleton.mp hd]; exact h1
  · split at hd
    · cases hd
    · rw [List.mem_singleton.mp hd]; exact h2
theorem num_all {many : Nat} {ds : List PyData} (h : ds.all (numE many) = true) : ds.all (wholeB 0 1000000000) = true := by
  rw [List.all_eq_true] at h ⊢
  intro d hd
  have := h d hd
  unfold numE at this
  rw [Bool.and_eq_true] at this
  exact this.1
theorem one_len {L E : List Int} (nd : L.Nodup) (hm : ∀ k, k ∈ L ↔ k ∈ E) (hE : E.length ≤ 2) : decide ((L.length : Int) ≤ 1) = oneB E := by
  match E, hE with
  | [], _ =>
    have : L = [] := List.eq_nil_iff_forall_not_mem.mpr fun k hk => by simpa using (hm k).mp hk
    subst this
    rfl
  | [x], _ =>
    match L, nd, hm with
    | [], _, _ => rfl
    | [_], _, _ => rfl
    | a :: b :: l, nd, hm =>
      have h1 : a = x := by simpa using (hm a).mp List.mem_cons_self
      have h2 : b = x := by simpa using (hm b).mp (by simp)
      subst h1 h2
      simp at nd
  | [x, y], _ =>
    simp only [oneB]
    by_cases hxy : x = y
    · subst hxy
      rw [decide_eq_true rfl, decide_eq_true_eq]
      match L, nd, hm with
      | [], _, _ => simp
      | [_], _, _ => simp
      | a :: b :: l, nd, hm =>
        have h1 : a = x := by simpa using (hm a).mp List.mem_cons_self
        have h2 : b = x := by simpa using (hm b).mp (by simp)
        subst h1 h2
        simp at nd
    · rw [decide_eq_false hxy, decide_eq_false_iff_not]
      match L, nd, hm with
      | [], _, hm => exact absurd ((hm x).mpr (by simp)) (by simp)
      | [a], _, hm =>
        have h1 : x = a := by simpa using (hm x).mpr (by simp)
        have h2 : y = a := by simpa using (hm y).mpr (by simp)
        exact absurd (h1.trans h2.symm) hxy
      | a :: b :: l, _, _ =>
        simp only [List.length_cons]
        omega
section
variable {P : Program} {w : World} {K : PySem.W.Frag} {mg : Str → Option Value} {base : Heap} {tn tw tb : Tok}
def spIsView : Sp := fun vs H Q _ => ∃ p c v d q n b, vs = [v] ∧ Dg p c H v d ∧ Gd q d n b ∧ ∀ H', Same H H' → Q (.bl (viewB d)) H'
theorem ok_is_view {f f1 f2 f3 f4 : Addr} {fd fd1 fd2 fd3 fd4 : FuncData} (F : Fn K mg "is_view" s_is_view ["thing"] f fd) (B : Con mg tn tw tb)
    (F_is_word : Fn K mg "is_word" s_is_word ["thing"] f1 fd1) (G_is_word : FnOk P w K mg base CX0 1 f1 fd1 ["thing"] spWord)
    (F_is_body : Fn K mg "is_body" s_is_body ["thing"] f2 fd2) (G_is_body : FnOk P w K mg base CX0 2 f2 fd2 ["thing"] spBody)
    (F_is_number : Fn K mg "is_number" s_is_number ["thing"] f3 fd3) (G_is_number : FnOk P w K mg base CX0 3 f3 fd3 ["thing"] spNumber)
    (F_are_counted : Fn K mg "are_counted" s_are_counted ["thing", "most"] f4 fd4) (G_are_counted : FnOk P w K mg base CX0 3 f4 fd4 ["thing", "most"] spCounted) :
    FnOk P w K mg base CX0 4 f fd ["thing"] spIsView := by
  refine F.F.ok sc_is_view (fun vs H Q E h => ?_) (fun cdv A outer s H vs Q E hr h => ?_)
  · obtain ⟨p, c, x, d, _, _, _, rfl, _⟩ := h
    rfl
  · obtain ⟨p, c, x, d, qq, n, b, rfl, hd, hg, q⟩ := h
    refine ⟨_, (pss_cons (ps_if (PW.pt (pw_or (pt_not (pt_val (pe_callB call_isi (by rfl) B.n_isinstance (by decide +kernel) (pa_cons (pv 0) (pa_cons (pe_bltn (v := .ty "tuple") (by rfl) B.n_tuple (by decide +kernel) rfl) pa_nil))))) (pw_or1 (pt_cmpR op_ne (pe_callB call_len_seq (by rfl) B.n_len PySem.boot_len (pa_cons (pv 0) pa_nil)) pe_int (nomark _)))))
      (pss_one (ps_ret pe_bl))
      pss_nil)
      (pss_cons (ps_asg (pv 0) (pg_tup rfl (pgs_cons (pg_name (i := 1) sc_is_view.nd rfl (Or.inl rfl)) (pgs_cons (pg_name (i := 2) sc_is_view.nd rfl (Or.inl rfl)) (pgs_cons (pg_name (i := 3) sc_is_view.nd rfl (Or.inr rfl)) (pgs_cons (pg_name (i := 4) sc_is_view.nd rfl (Or.inl rfl)) (pgs_cons (pg_name (i := 5) sc_is_view.nd rfl (Or.inl rfl)) (pgs_cons (pg_name (i := 6) sc_is_view.nd rfl (Or.inl rfl)) (pgs_cons (pg_name (i := 7) sc_is_view.nd rfl (Or.inl rfl)) pgs_nil)))))))))
      (pss_cons (ps_if (PW.pt (pw_or (pt_not (pt_val (pe_call G_is_word (hr.mono (by decide)) (by rfl) F_is_word.g F_is_word.F.kp F_is_word.b .nil pass0 (pa_cons (pv 1) pa_nil)))) (pw_or1 (pt_cmpR (op_notIn2 hr.units) (pv 7) (pe_tup (pa_cons pe_str (pa_cons pe_str pa_nil))) rfl))))
      (pss_one (ps_ret pe_bl))
      pss_nil)
      (pss_cons (ps_if (PW.pt (pw_or (pt_not (pt_val (pe_callB call_isi (by rfl) B.n_isinstance (by decide +kernel) (pa_cons (pv 3) (pa_cons (pe_bltn (v := .ty "tuple") (by rfl) B.n_tuple (by decide +kernel) rfl) pa_nil))))) (pw_or1 (pt_not (pt_val (pe_callB (cr_all rfl) (by rfl) B.n_all (by decide +kernel) (pa_cons (pe_lc (own := [("body", 10)]) rfl sc_is_view.nd (pi_tup (pv 3)) (blkOk_by (N := N_is_view) (sc := defScope s_is_view) (by decide +kernel)) (fun _ _ _ _ _ => (pg_name (i := 10) sc_is_view.nd rfl (Or.inl rfl))) (fun _ _ _ _ _ => pts_nil) (fun _ _ _ _ _ => (pe_call G_is_body (hr.mono (by decide)) (by rfl) F_is_body.g F_is_body.F.kp F_is_body.b .nil pass0 (pa_cons (pv 10) pa_nil)))) pa_nil)))))))
      (pss_one (ps_ret pe_bl))
      pss_nil)
      (pss_cons (ps_if (pt_cmpR op_isN (pv 2) pe_non (nomark _))
      (pss_one (ps_ret (pe_and (pe_cmpR (op_eqT0 hr.units) (pv 4) (pe_tup pa_nil) (nomark _)) (pe_and (pe_cmpR op_isN (pv 5) pe_non (nomark _)) (pe_one (pe_cmpR op_isN (pv 6) pe_non (nomark _)))))))
      pss_nil)
      (pss_cons (ps_setLc (i := 8) (own := [("end", 9)]) rfl sc_is_view.nd rfl rfl (sw_true rfl rfl rfl (by decide +kernel)) (pi_tup (pe_tup (pa_cons (pv 5) (pa_cons (pv 6) pa_nil)))) (blkOk_by (N := N_is_view) (sc := defScope s_is_view) (by decide +kernel)) (fun _ _ _ _ _ => (pg_name (i := 9) sc_is_view.nd rfl (Or.inl rfl))) (fun _ _ _ _ _ => (pts_one (pt_cmpR op_notN (pv 9) pe_non (nomark _)))) (fun _ _ _ _ _ => (pv 9)))
      (pss_cons (ps_if (PW.pt (pw_or (pt_not (pt_val (pe_call G_is_number (hr.mono (by decide)) (by rfl) F_is_number.g F_is_number.F.kp F_is_number.b .nil pass0 (pa_cons (pv 2) pa_nil)))) (pw_or1 (pt_not (pt_val (pe_callB (cr_all rfl) (by rfl) B.n_all (by decide +kernel) (pa_cons (pe_lc (own := [("end", 9)]) rfl sc_is_view.nd (pi_list (pv 8)) (blkOk_by (N := N_is_view) (sc := defScope s_is_view) (by decide +kernel)) (fun _ _ _ _ _ => (pg_name (i := 9) sc_is_view.nd rfl (Or.inl rfl))) (fun _ _ _ _ _ => pts_nil) (fun _ _ _ _ _ => (pe_and (pe_call G_is_number (hr.mono (by decide)) (by rfl) F_is_number.g F_is_number.F.kp F_is_number.b .nil pass0 (pa_cons (pv 9) pa_nil)) (pe_one (pe_cmpR op_le (pv 9) (pe_callB (call_lenK K rfl) (by rfl) B.n_len PySem.boot_len (pa_cons (pv 3) pa_nil)) (nomark _)))))) pa_nil)))))))
      (pss_one (ps_ret pe_bl))
      pss_nil)
      (pss_one (ps_ret (pe_and (pe_cmpR op_le (pe_callB cr_lenSet (by rfl) B.n_len PySem.boot_len (pa_cons (pe_callTy (cr_setI rfl) (by rfl) B.n_set (by decide +kernel) (pa_cons (pv 8) pa_nil)) pa_nil)) pe_int (nomark _)) (pe_one (pe_call G_are_counted (hr.mono (by decide)) (by rfl) F_are_counted.g F_are_counted.F.kp F_are_counted.b .nil pass0 (pa_cons (pv 4) (pa_cons (pe_callB (cr_min rfl) (by rfl) B.n_min (by decide +kernel) (pa_cons (pe_lst (pa_cons (pe_callB call_len_seq (by rfl) B.n_len PySem.boot_len (pa_cons (pv 3) pa_nil)) (StX.pa_star (pv 8) pa_nil))) pa_nil)) pa_nil)))))))))))))), ?_⟩
    refine ⟨_, rfl, x, .ty "tuple", _, _, _, rfl, .ty "tuple", hd.tyx, isi_T d, _, rfl, ?_⟩
    cases hd with
    | tup ha hA =>
      rename_i a xs ds
      obtain ⟨hgA, _⟩ := hg.untup
      refine iteF ?_
      refine ⟨_, rfl, a, xs, rfl, .inr (SqT.of ha.2.2), rfl, _, rfl, ?_⟩
      have hlen := hA.len
      by_cases h7 : ds.length = 7
      · have e7 : (!decide (V.int (xs.length : Nat) = V.int 7)) = false := by
          rw [hlen, h7]
          rfl
        rw [e7]
        refine iteF ?_
        obtain ⟨d0, d1, d2, d3, d4, d5, d6, rfl⟩ := len7 h7
        obtain ⟨x0, x1, x2, x3, x4, x5, x6, rfl⟩ := len7 (hlen.trans h7)
        match hA with
        | .cons g0 (.cons g1 (.cons g2 (.cons g3 (.cons g4 (.cons g5 (.cons g6 .nil)))))) =>
        obtain ⟨k0, hgA⟩ := hgA.hd
        obtain ⟨k1, hgA⟩ := hgA.hd
        obtain ⟨k2, hgA⟩ := hgA.hd
        obtain ⟨k3, hgA⟩ := hgA.hd
        obtain ⟨k4, hgA⟩ := hgA.hd
        obtain ⟨k5, hgA⟩ := hgA.hd
        obtain ⟨k6, _⟩ := hgA.hd
        have q : ∀ H', Same H H' → Q (.bl ((wordB d0 && stB d6) && (bodiesB d2 && seenB (lenT d2) d1 d3 d4 d5))) H' := q
        refine ⟨_, rfl, a, _, rfl, SqT.of ha.2.2, rfl, _, _, rfl, _, _, rfl, _, _, rfl, _, _, rfl, _, _, rfl, _, _, rfl, _, _, rfl, rfl, ?_⟩
        -- the name and the state
        refine ⟨_, rfl, p, c, x0, d0, qq, _, _, rfl, g0, k0, _, rfl, ?_⟩
        cases hw : wordB d0 with
        | false =>
          rw [hw, Bool.false_and, Bool.false_and] at q
          exact iteT (iteT (q _ (Same.refl _)))
        | true =>
        rw [hw, Bool.true_and] at q
        refine iteF ?_
        refine ⟨_, rfl, sz (by show 2 ≤ 16000000; decide), fun t ht => ?_⟩
        have s1 := same_new (o := .tup [V.str (Str.ofString "open"), V.str (Str.ofString "broken")]) ht
        refine ⟨p, c, d6, t, _, _, g6.to (.same s1), rfl, upd_same, _, rfl, ?_⟩
        refine show if (!stB d6) = true then _ else _ from ?_
        generalize upd H t (.tup [V.str (Str.ofString "open"), V.str (Str.ofString "broken")]) = H1 at s1 ⊢
        cases hst : stB d6 with
        | false =>
          rw [hst, Bool.false_and] at q
          exact iteT (q _ s1)
        | true =>
        rw [hst, Bool.true_and] at q
        refine iteF ?_
        -- the bodies
        have g2 := g2.to (.same s1)
        refine ⟨_, rfl, x2, .ty "tuple", _, _, _, rfl, .ty "tuple", g2.tyx, isi_T d2, _, rfl, ?_⟩
        cases g2 with
        | @tup a2 ys es hb hB =>
          obtain ⟨k2A, hel⟩ := k2.untup
          have hyl : ys.length ≤ 60 := by rw [hB.len]; exact hel
          refine iteF ?_
          refine ⟨_, rfl, a2, rfl, ⟨_, SqT.of hb.2.2⟩, fun D hD => ?_⟩
          refine lc_sel (walk_tup (K := K) (a := a2) (xs := ys)) (fun _ => true) (fun i => .bl (bodyB (es.getD i .none))) (by omega) hD (fun H' s => SqT.of (s _ _ hb.2.2)) ?_ ?_
          · rintro i y H2 H3 k kf hi s2 ⟨rfl, hy⟩ hk _
            obtain ⟨d, hdi, hdg⟩ := hB.at_ hy
            have hk := hk rfl H3 (Same.refl _)
            rw [List.getD_eq_getElem?_getD, hdi] at hk
            exact ⟨rfl, _, rfl, p, c, y, d, qq, _, _, rfl, hdg.to (.same s2), k2A.mem d (List.mem_of_getElem? hdi), hk⟩
          · intro H2 s12 h2
            have s2 := s1.trans s12
            rw [filt_all, bls_map, hB.len] at h2
            refine ⟨D, _, rfl, SqL.of h2, _, rfl, ?_⟩
            rw [all_at es bodyB .none]
            have q : ∀ H', Same H H' → Q (.bl (es.all bodyB && seenB es.length d1 d3 d4 d5)) H' := q
            cases hbs : es.all bodyB with
            | false =>
              rw [hbs, Bool.false_and] at q
              exact iteT (q _ s2)
            | true =>
            rw [hbs, Bool.true_and] at q
            refine iteF ?_
            have hb2 : At p c H2 a2 (.tup ys) := hb.kp (.same s12)
            -- no boot
            refine ⟨_, rfl, rfl, _, rfl, ?_⟩
            rw [g1.isN]
            unfold seenB at q
            cases hbt : isN d1 with
            | true =>
              rw [hbt, if_pos rfl] at q
              refine iteT ?_
              refine ⟨_, rfl, sz (Nat.zero_le _), fun t2 ht2 => ?_⟩
              have s3 := s2.trans (same_new (o := .tup []) ht2)
              refine ⟨p, c, d3, t2, g3.to (.same s3), k3.asc, rfl, upd_same, _, rfl, ?_⟩
              cases h3 : isT0 d3 with
              | false =>
                rw [h3, Bool.false_and] at q
                exact iteF (q _ s3)
              | true =>
                rw [h3, Bool.true_and] at q
                refine iteT ⟨_, rfl, rfl, _, rfl, ?_⟩
                rw [g4.isN]
                cases h4 : isN d4 with
                | false =>
                  rw [h4, Bool.false_and] at q
                  exact iteF (q _ s3)
                | true =>
                  rw [h4, Bool.true_and] at q
                  refine iteT ⟨_, rfl, rfl, ?_⟩
                  rw [g5.isN]
                  exact q _ s3
            | false =>
              rw [hbt, if_neg (by decide)] at q
              refine iteF ?_
              -- the ends
              refine ⟨_, rfl, _, rfl, sz (by show 2 ≤ 16000000; decide), fun T hT => ?_⟩
              have s3 := s2.trans (same_new (o := .tup [x4, x5]) hT)
              have hb3 := hb2.kp (.same (same_new (o := .tup [x4, x5]) hT))
              have hT3 : upd H2 T (.tup [x4, x5]) T = some (.tup [x4, x5]) := upd_same
              generalize upd H2 T (.tup [x4, x5]) = H3 at s3 hb3 hT3 ⊢
              refine ⟨T, rfl, ⟨_, SqT.of hT3⟩, fun D2 hD2 => ?_⟩
              refine lc_sel (walk_tup (K := K) (a := T) (xs := [x4, x5])) (fun i => !decide (([x4, x5] : List V).getD i .non = .non)) (fun i => ([x4, x5] : List V).getD i .non) (by show 2 ≤ _; decide) hD2 (fun H' s => SqT.of (s _ _ hT3)) ?_ ?_
              · rintro i y H4 H5 k kf hi s4 ⟨rfl, hy⟩ hk hk0
                have ey : ([x4, x5] : List V).getD i .non = y := by rw [List.getD_eq_getElem?_getD, hy]; rfl
                rw [ey] at hk hk0
                refine ⟨rfl, _, rfl, rfl, _, rfl, ?_⟩
                cases hn : decide (y = V.non) with
                | false => exact iteT ⟨_, rfl, hk (by rw [hn]; rfl) _ (Same.refl _)⟩
                | true => exact iteF (hk0 (by rw [hn]; rfl) _ (Same.refl _))
              · intro H4 s4 h4
                have hb4 := hb3.kp (.same s4)
                have s4 := s3.trans s4
                rw [show ([x4, x5] : List V).length = 2 from rfl, sel_ends] at h4
                have hE := dg_ends (g4.to (.same s4)) (g5.to (.same s4))
                have hEl := ends_le d4 d5
                generalize evsL x4 x5 = vs at h4 hE
                generalize endsL d4 d5 = es2 at hE hEl q
                -- is_number(boot)
                refine ⟨_, rfl, p, c, x1, d1, rfl, g1.to (.same s4), _, rfl, ?_⟩
                cases h1 : wholeB 0 1000000000 d1 with
                | false =>
                  rw [h1, Bool.false_and] at q
                  exact iteT (iteT (q _ s4))
                | true =>
                rw [h1, Bool.true_and] at q
                refine iteF ?_
                refine ⟨_, rfl, D2, rfl, ⟨_, SqL.of h4⟩, fun D3 hD3 => ?_⟩
                refine lc_sel (walk_list (K := K) (a := D2) (xs := vs)) (fun _ => true) (fun i => .bl (numE es.length (es2.getD i .none))) (by rw [hE.len]; omega) hD3 (fun H' s => SqL.of (s _ _ h4)) ?_ ?_
                · rintro i y H5 H6 k kf hi s5 ⟨rfl, hy⟩ hk _
                  obtain ⟨d, hdi, hdg⟩ := hE.at_ hy
                  have hk := hk rfl H6 (Same.refl _)
                  rw [List.getD_eq_getElem?_getD, hdi] at hk
                  have hk : k (.bl (wholeB 0 1000000000 d && decide (asInt d ≤ (es.length : Int)))) H6 := hk
                  have hdg := hdg.to (.same s5)
                  refine ⟨rfl, _, rfl, p, c, y, d, rfl, hdg, _, rfl, ite2 (fun h => ?_) (fun h => ?_)⟩
                  · rw [h, Bool.true_and] at hk
                    cases hdg with
                    | int j =>
                      refine ⟨_, rfl, _, rfl, a2, ys, rfl, .inr (SqT.of (s5 _ _ hb4.2.2)), _, _, rfl, rfl, ?_⟩
                      rw [hB.len]
                      exact hk
                    | _ => exact absurd h (by simp [wholeB])
                  · rw [Bool.eq_false_iff.mpr h, Bool.false_and] at hk
                    exact hk
                · intro H5 s5 h5
                  rw [filt_all, bls_map, hE.len] at h5
                  refine ⟨D3, _, rfl, SqL.of h5, _, rfl, ?_⟩
                  rw [all_at es2 (numE es.length) .none]
                  have h45 := s5 _ _ h4
                  have hb5 := hb4.kp (.same s5)
                  have s5 := s4.trans s5
                  cases he : es2.all (numE es.length) with
                  | false =>
                    rw [he, Bool.false_and] at q
                    exact iteT (q _ s5)
                  | true =>
                  rw [he, Bool.true_and] at q
                  refine iteF ?_
                  have hvs := ints_of_D hE (num_all he)
                  have hIl : (es2.map asInt).length ≤ 2 := by rw [List.length_map]; exact hEl
                  generalize es2.map asInt = ns at hvs hIl q
                  subst hvs
                  refine ⟨_, rfl, D2, ns, rfl, .inl (SqL.of h45), by omega, fun st L hst nd hm hll => ?_⟩
                  have nDs : D2 ≠ st := ne_of_none h45 hst
                  have h46 : upd H5 st (SetO w st (fun j => decide (j ∈ ns)) L.length) D2 = some (.lst (ns.map V.int)) := by rw [upd_ne nDs]; exact h45
                  have hb6 := hb5.kp (.same (same_new (o := SetO w st (fun j => decide (j ∈ ns)) L.length) hst))
                  have s6 := s5.trans (same_new (o := SetO w st (fun j => decide (j ∈ ns)) L.length) hst)
                  refine ⟨st, _, _, rfl, upd_same, by omega, _, _, rfl, rfl, _, rfl, ?_⟩
                  rw [one_len nd hm hIl]
                  cases ho : oneB ns with
                  | false =>
                    rw [ho, Bool.false_and] at q
                    exact iteF (q _ s6)
                  | true =>
                  rw [ho, Bool.true_and] at q
                  refine iteT ?_
                  refine ⟨_, rfl, _, rfl, a2, ys, rfl, .inr (SqT.of hb6.2.2), _, rfl, D2, ns.map V.int, rfl, .inr (SqL.of h46), ?_⟩
                  refine ⟨sz ?_, fun ml hml => ?_⟩
                  · simp only [List.length_cons, List.length_append, List.length_map, List.length_nil]
                    omega
                  refine ⟨ml, ((ys.length : Nat) : Int) :: ns, rfl, SqL.of (by rw [upd_same]; simp), by simp, fun m hm1 hm2 => ?_⟩
                  have em := min_uniq hm1 hm2
                  have s7 := s6.trans (same_new (o := .lst (V.int (ys.length : Nat) :: (ns.map V.int ++ []))) hml)
                  refine ⟨p, c, x3, d3, qq, _, _, m, rfl, g3.to (.same s7), k3, fun H8 s8 => ?_⟩
                  rw [em, hB.len]
                  exact q _ (s7.trans s8)
        | _ => exact iteT (iteT (q _ s1))
      · have e7 : (!decide (V.int (xs.length : Nat) = V.int 7)) = true := by
          rw [hlen]
          rw [decide_eq_false]
          · rfl
          · intro z
            injection z with z
            omega
        rw [e7]
        rw [view7 h7] at q
        exact iteT (q _ (Same.refl _))
    | _ => exact iteT (iteT (q _ (Same.refl _)))
end
end Ag

end
/-! ## V4 -/
section
set_option linter.all false
set_option maxRecDepth 100000
set_option maxHeartbeats 4000000
namespace Ag
open PySem PySem.Spec PyProof.Rows L2
open SX (S S_len S_cat S_inj)
/-! ### an own exception class whose __init__ keeps one thing -/
abbrev s_BV : Stmt := inClass (top 11) 0
abbrev N_BV : List Str := ["self", "thing"]
theorem sc_BV : FnScope N_BV ["self", "thing"] (defScope s_BV) := ⟨rfl, rfl, rfl, by decide +kernel, rfl, by decide +kernel, by decide +kernel⟩
structure ExcI (K : PySem.W.Frag) (mg : Str → Option Value) (x qual : Str) (st : Stmt) (C fI : Addr) (fd : FuncData) : Prop where
  E : OexE K C
  X : XfC K C
  no : PySem.W.findIn K (.ref C) "thing" = some none
  i : PySem.W.findIn K (.ref C) "__init__" = some (some (.ref fI)) ∧ PySem.W.typeIn K (.ref fI) = some (.type "function")
  F : Fun K "__init__" qual st fI fd
  b : Binds K fd ["self", "thing"] []
  g : mg x = some (.ref C)
  ex : PySem.W.exmOne K (.ref C) (.ref C) = some true
def spIni (K : PySem.W.Frag) : Sp := fun vs H Q _ => ∃ (a C : Addr) (y : V), vs = [.ref a, y] ∧ OexE K C ∧ PySem.W.findIn K (.ref C) "thing" = some none ∧ H a = some (exo a C none) ∧ ∀ dx, H dx = none → dx ≠ a → Q .non (upd (upd H dx (exd dx [("thing", y)])) a (exo a C (some dx)))
/-! ### a view that is one -/
def intsT : PyData → List Int
  | .tuple xs => xs.map asInt
  | _ => []
def loD : PyData → Int
  | .tuple [_, _, _, an, aw, up, _] => maxE 0 (intsT an ++ (endsL aw up).map asInt)
  | _ => 0
def hiD : PyData → Int
  | .tuple [_, _, bs, _, aw, up, _] => minE (lenT bs) ((endsL aw up).map asInt)
  | _ => 0
theorem view_true {d : PyData} (h : viewB d = true) : ∃ d0 d1 bs an d4 d5 d6 lo hi, d = .tuple [d0, d1, .tuple bs, .tuple an, d4, d5, d6] ∧ an.all (wholeB lo hi) = true ∧ (endsL d4 d5).all (wholeB 0 1000000000) = true ∧ (isN d1 || wholeB 0 1000000000 d1) = true := by
  cases d with
  | tuple ds =>
    by_cases h7 : ds.length = 7
    · obtain ⟨d0, d1, d2, d3, d4, d5, d6, rfl⟩ := len7 h7
      simp only [viewB, Bool.and_eq_true] at h
      obtain ⟨_, h2, h3⟩ := h
      cases d2 with
      | tuple bs =>
        unfold seenB at h3
        by_cases hn : isN d1 = true
        · rw [if_pos hn, Bool.and_eq_true, Bool.and_eq_true] at h3
          obtain ⟨a1, a2, a3⟩ := h3
          have e : endsL d4 d5 = [] := by unfold endsL; rw [a2, a3]; rfl
          cases d3 with
          | tuple an =>
            cases an with
            | nil => exact ⟨d0, d1, bs, [], d4, d5, d6, 0, 0, rfl, rfl, by rw [e]; rfl, by rw [hn]; rfl⟩
            | cons _ _ => simp [isT0] at a1
          | _ => simp [isT0] at a1
        · rw [if_neg hn, Bool.and_eq_true, Bool.and_eq_true, Bool.and_eq_true] at h3
          obtain ⟨a1, a2, _, a4⟩ := h3
          cases d3 with
          | tuple an =>
            rw [cntB, Bool.and_eq_true] at a4
            exact ⟨d0, d1, bs, an, d4, d5, d6, _, _, rfl, a4.1, num_all a2, by rw [a1, Bool.or_true]⟩
          | _ => simp [cntB] at a4
      | _ => simp [bodiesB] at h2
    · rw [view7 h7] at h
      cases h
  | _ => simp [viewB] at h
section
variable {P : Program} {w : World} {K : PySem.W.Frag} {mg : Str → Option Value} {base : Heap} {tn tw tb : Tok}
theorem ok_ini {f : Addr} {fd : FuncData} (F : Fun K "__init__" "BadView.__init__" s_BV f fd) : FnOk P w K mg base CX0 1 f fd ["self", "thing"] (spIni K) := by
  refine F.ok sc_BV (fun vs H Q E h => ?_) (fun cdv A outer s H vs Q E hr h => ?_)
  · obtain ⟨a, C, y, rfl, _⟩ := h
    rfl
  · obtain ⟨a, C, y, rfl, T, hno, ea, q⟩ := h
    refine ⟨_, pss_one (psE_ost (pv 0) (pv 1)), ?_⟩
    exact ⟨_, rfl, _, rfl, a, C, rfl, T, hno, ea, q⟩
def spBounds (C : Addr) : Sp := fun vs H Q E => ∃ p c v d q n b, vs = [v] ∧ Dg p c H v d ∧ Gd q d n b ∧
  (viewB d = true → ∀ H' a, Same H H' → H' a = some (.tup [.int (loD d), .int (hiD d)]) → Q (.ref a) H') ∧
  (viewB d = false → ∀ dx H', Same H H' → H dx = none → H' dx = some (.xd [("thing", v)]) → E (.ref C) (some dx) H')
theorem ok_bounds {f f1 f2 C : Addr} {fd fd1 fd2 : FuncData} (F : Fn K mg "bounds" s_bounds ["view"] f fd) (B : Con mg tn tw tb)
    (F_is_view : Fn K mg "is_view" s_is_view ["thing"] f1 fd1) (G_is_view : FnOk P w K mg base CX0 4 f1 fd1 ["thing"] spIsView)
    (TE : ExcI K mg "BadView" "BadView.__init__" s_BV C f2 fd2) : FnOk P w K mg base (L2.CX P w) 5 f fd ["view"] (spBounds C) := by
  have G_ini : FnOk P w K mg base CX0 1 f2 fd2 ["self", "thing"] (spIni K) := ok_ini TE.F
  refine F.F.okX sc_bounds (fun vs H Q E h => ?_) (fun cdv A outer s H vs Q E hr h => ?_)
  · obtain ⟨p, c, x, d, _, _, _, rfl, _⟩ := h
    rfl
  · obtain ⟨p, c, x, d, qq, n, b, rfl, hd, hg, q1, q2⟩ := h
    refine ⟨_, (pss_cons (ps_if (pt_not (pt_val (pe_call G_is_view (hr.mono (by decide)) (by rfl) F_is_view.g F_is_view.F.kp F_is_view.b .nil pass0 (pa_cons (pv 0) pa_nil))))
      (pss_one (ps_raise rfl (takes_of rfl rfl rfl rfl) (pmkE TE.E TE.i G_ini (hr.mono (by decide)) TE.b pass0 (by rfl) TE.g (pa_cons (pv 0) pa_nil))))
      pss_nil)
      (pss_cons (ps_asg (pv 0) (pg_tup rfl (pgs_cons (pg_name (i := 1) sc_bounds.nd rfl (Or.inl rfl)) (pgs_cons (pg_name (i := 1) sc_bounds.nd rfl (Or.inl rfl)) (pgs_cons (pg_name (i := 2) sc_bounds.nd rfl (Or.inl rfl)) (pgs_cons (pg_name (i := 3) sc_bounds.nd rfl (Or.inl rfl)) (pgs_cons (pg_name (i := 4) sc_bounds.nd rfl (Or.inl rfl)) (pgs_cons (pg_name (i := 5) sc_bounds.nd rfl (Or.inl rfl)) (pgs_cons (pg_name (i := 1) sc_bounds.nd rfl (Or.inl rfl)) pgs_nil)))))))))
      (pss_cons (ps_setLc (i := 6) (own := [("end", 7)]) rfl sc_bounds.nd rfl rfl (sw_true rfl rfl rfl (by decide +kernel)) (pi_tup (pe_tup (pa_cons (pv 4) (pa_cons (pv 5) pa_nil)))) (blkOk_by (N := N_bounds) (sc := defScope s_bounds) (by decide +kernel)) (fun _ _ _ _ _ => (pg_name (i := 7) sc_bounds.nd rfl (Or.inl rfl))) (fun _ _ _ _ _ => (pts_one (pt_cmpR op_notN (pv 7) pe_non (nomark _)))) (fun _ _ _ _ _ => (pv 7)))
      (pss_one (ps_ret (pe_tup (pa_cons (pe_callB (cr_max rfl) (by rfl) B.n_max (by decide +kernel) (pa_cons (pe_lst (pa_cons pe_int (StX.pa_star (pv 3) (StX.pa_star (pv 6) pa_nil)))) pa_nil)) (pa_cons (pe_callB (cr_min rfl) (by rfl) B.n_min (by decide +kernel) (pa_cons (pe_lst (pa_cons (pe_callB call_len_seq (by rfl) B.n_len PySem.boot_len (pa_cons (pv 2) pa_nil)) (StX.pa_star (pv 6) pa_nil))) pa_nil)) pa_nil)))))))), ?_⟩
    have out : ∀ H', Same H H' → viewB d = false → ∀ a, H' a = none → spIni K [.ref a, x] (upd H' a (exo a C none)) (fun v H2 => v = .non ∧ ∃ (d : Addr) (fs : List (Str × V)), H2 a = some (exo a C (some d)) ∧ H2 d = some (exd d fs) ∧ H' d = none ∧ E (.ref C) (some d) (upd (del H2 a) d (.xd fs))) E0 := by
      intro H' sm hn a ha
      refine ⟨a, C, _, rfl, TE.E, TE.no, upd_same, fun dx hdx ne => ⟨rfl, dx, _, upd_same, by rw [upd_ne ne, upd_same], by rw [upd_ne ne] at hdx; exact hdx, ?_⟩⟩
      rw [upd_ne ne] at hdx
      refine q2 hn dx _ (fun b o e => ?_) (sm.free hdx) upd_same
      have e' := sm _ _ e
      have nb1 : b ≠ dx := ne_of_none e' hdx
      have nb2 : b ≠ a := ne_of_none e' ha
      rw [upd_ne nb1, del_ne nb2, upd_ne nb2, upd_ne nb1, upd_ne nb2]
      exact e'
    refine ⟨_, rfl, p, c, x, d, qq, _, _, rfl, hd, hg, fun H1 s1 => ⟨_, rfl, ?_⟩⟩
    cases hv : viewB d with
    | false => exact iteT ⟨_, rfl, Nat.le_of_ble_eq_true rfl, out _ s1 hv⟩
    | true =>
      refine iteF ?_
      obtain ⟨d0, d1, bs, an, d4, d5, d6, lo, hi, rfl, han, hend, _⟩ := view_true hv
      have q1 := q1 hv
      cases hd with
      | @tup a xs _ ha hA =>
      obtain ⟨x0, x1, x2, x3, x4, x5, x6, rfl⟩ := len7 hA.len
      match hA with
      | .cons _ (.cons _ (.cons g2 (.cons g3 (.cons g4 (.cons g5 (.cons _ .nil)))))) =>
      have ha1 := ha.kp (.same s1)
      refine ⟨_, rfl, a, _, rfl, SqT.of ha1.2.2, rfl, _, _, rfl, _, _, rfl, _, _, rfl, _, _, rfl, _, _, rfl, _, _, rfl, _, _, rfl, rfl, ?_⟩
      refine ⟨_, rfl, _, rfl, sz (by show 2 ≤ 16000000; decide), fun T hT => ?_⟩
      have s3 := s1.trans (same_new (o := .tup [x4, x5]) hT)
      have hT3 : upd H1 T (.tup [x4, x5]) T = some (.tup [x4, x5]) := upd_same
      generalize upd H1 T (.tup [x4, x5]) = H3 at s3 hT3 ⊢
      refine ⟨T, rfl, ⟨_, SqT.of hT3⟩, fun D2 hD2 => ?_⟩
      refine lc_sel (walk_tup (K := K) (a := T) (xs := [x4, x5])) (fun i => !decide (([x4, x5] : List V).getD i .non = .non)) (fun i => ([x4, x5] : List V).getD i .non) (by show 2 ≤ _; decide) hD2 (fun H' s => SqT.of (s _ _ hT3)) ?_ ?_
      · rintro i y H4 H5 k kf hi s4 ⟨rfl, hy⟩ hk hk0
        have ey : ([x4, x5] : List V).getD i .non = y := by rw [List.getD_eq_getElem?_getD, hy]; rfl
        rw [ey] at hk hk0
        refine ⟨rfl, _, rfl, rfl, _, rfl, ?_⟩
        cases hn : decide (y = V.non) with
        | false => exact iteT ⟨_, rfl, hk (by rw [hn]; rfl) _ (Same.refl _)⟩
        | true => exact iteF (hk0 (by rw [hn]; rfl) _ (Same.refl _))
      · intro H4 s4 h4
        have s4 := s3.trans s4
        rw [show ([x4, x5] : List V).length = 2 from rfl, sel_ends] at h4
        have hE := dg_ends (g4.to (.same s4)) (g5.to (.same s4))
        have hEl := ends_le d4 d5
        have hvs := ints_of_D hE hend
        have eLo : loD (.tuple [d0, d1, .tuple bs, .tuple an, d4, d5, d6]) = maxE 0 (an.map asInt ++ (endsL d4 d5).map asInt) := rfl
        have eHi : hiD (.tuple [d0, d1, .tuple bs, .tuple an, d4, d5, d6]) = minE (bs.length : Int) ((endsL d4 d5).map asInt) := rfl
        rw [eLo, eHi] at q1
        have hIl : ((endsL d4 d5).map asInt).length ≤ 2 := by rw [List.length_map]; exact hEl
        generalize (endsL d4 d5).map asInt = ns at hvs hIl q1
        rw [hvs] at h4
        have g3 := g3.to (.same s4)
        have g2 := g2.to (.same s4)
        cases g2 with
        | @tup a2 ys _ hb hB =>
        cases g3 with
        | @tup a3 zs _ hc hC =>
        have hzs := ints_of_D hC han
        have hCl := hC.len
        have hgA := hg.untup.1.hd.2.hd.2.hd.2.hd.1.untup.2
        rw [← hCl, hzs, List.length_map] at hgA
        generalize an.map asInt = ms at hzs hgA q1
        subst hzs
        have hgB := hg.untup.1.hd.2.hd.2.hd.1.untup.2
        refine ⟨_, rfl, a3, _, rfl, .inl (SqT.of hc.2.2), _, rfl, D2, _, rfl, .inr (SqL.of h4), sz ?_, fun m1 hm1 => ?_⟩
        · simp only [List.length_cons, List.length_append, List.length_map, List.length_nil]
          omega
        have e1 : (V.int 0 :: (ms.map V.int ++ (ns.map V.int ++ []))) = ((0 : Int) :: (ms ++ ns)).map V.int := by simp
        refine ⟨m1, (0 : Int) :: (ms ++ ns), rfl, SqL.of (by rw [upd_same]; exact congrArg _ (congrArg _ e1)), by simp, fun lo' l1 l2 => ?_⟩
        have el := max_uniq l1 l2
        subst el
        have s5 := same_new (o := .lst (V.int 0 :: (ms.map V.int ++ (ns.map V.int ++ [])))) hm1
        have h5 := s5 _ _ h4
        have hb5 := hb.kp (.same s5)
        have s5 := s4.trans s5
        refine ⟨_, rfl, a2, ys, rfl, .inr (SqT.of hb5.2.2), _, rfl, D2, _, rfl, .inr (SqL.of h5), sz ?_, fun m2 hm2 => ?_⟩
        · simp only [List.length_cons, List.length_append, List.length_map, List.length_nil]
          omega
        refine ⟨m2, ((ys.length : Nat) : Int) :: ns, rfl, SqL.of (by rw [upd_same]; simp), by simp, fun hi' l1 l2 => ?_⟩
        have el := min_uniq l1 l2
        subst el
        refine ⟨sz (by show 2 ≤ 16000000; decide), fun t ht => q1 _ t ((s5.trans (same_new hm2)).trans (same_new ht)) ?_⟩
        rw [hB.len]
        exact upd_same
end
end Ag

end
/-! ## LA -/
section
set_option linter.all false
set_option maxRecDepth 100000
set_option maxHeartbeats 4000000
namespace Ag
open PySem PySem.Spec PyProof.Rows L2
open SX (S S_len S_cat S_inj)
/-! ### the deck of draws -/
def kC : Key := Sum.inr (Str.ofString "left")
def kM : Key := Sum.inr (Str.ofString "mixed")
def kT : Key := Sum.inr (Str.ofString "draws")
def dkL (c : Addr) (m t : Int) : List (Key × V) := [(kC, .ref c), (kM, .int m), (kT, .int t)]
theorem nCM : ¬ kC = kM := by decide +kernel
theorem nCT : ¬ kC = kT := by decide +kernel
theorem nMT : ¬ kM = kT := by decide +kernel
section
variable {c : Addr} {m t u : Int}
theorem v_C : valV (dkL c m t) kC = some (.ref c) := valV_pos rfl
theorem v_M : valV (dkL c m t) kM = some (.int m) := (valV_neg nCM).trans (valV_pos rfl)
theorem v_T : valV (dkL c m t) kT = some (.int t) := (valV_neg nCT).trans ((valV_neg nMT).trans (valV_pos rfl))
theorem put_T : putK (dkL c m t) kT (.int u) = dkL c m u := by
  unfold putK dkL
  simp [nCT, nMT]
theorem merge_d : mergeK [] (dkL c m t) = dkL c m t := by
  unfold mergeK dkL putK
  simp [nCM, nCT, nMT]
end
/-- a deck stands at p, its cells at c -/
def Dk (p c : Addr) (H : Hp) : Prop := ∃ (m t : Int) (cs : List Int), H p = some (.dK (dkL c m t)) ∧ H c = some (.lst (cs.map V.int)) ∧ cs.length ≤ 63
/-- all but the deck is as it was, and the deck is one -/
def Gx (p c : Addr) (H H' : Hp) : Prop := (∀ b o, b ≠ p → b ≠ c → H b = some o → H' b = some o) ∧ Dk p c H'
theorem Gx.refl {p c : Addr} {H : Hp} (d : Dk p c H) : Gx p c H H := ⟨fun _ _ _ _ e => e, d⟩
theorem Gx.trans {p c : Addr} {H H1 H2 : Hp} (a : Gx p c H H1) (b : Gx p c H1 H2) : Gx p c H H2 := ⟨fun x o h1 h2 e => b.1 x o h1 h2 (a.1 x o h1 h2 e), b.2⟩
theorem Dk.same {p c : Addr} {H H' : Hp} (d : Dk p c H) (s : Same H H') : Dk p c H' := by
  obtain ⟨m, t, cs, h1, h2, h3⟩ := d
  exact ⟨m, t, cs, s _ _ h1, s _ _ h2, h3⟩
theorem Gx.same {p c : Addr} {H H' : Hp} (d : Dk p c H) (s : Same H H') : Gx p c H H' := ⟨fun b o _ _ e => s b o e, d.same s⟩
theorem Dk.ne {p c q : Addr} {H : Hp} (d : Dk p c H) (h : H q = none) : q ≠ p ∧ q ≠ c := by
  obtain ⟨m, t, cs, h1, h2, _⟩ := d
  exact ⟨(ne_of_none h1 h).symm, (ne_of_none h2 h).symm⟩
theorem Gx.free {p c q : Addr} {H H' : Hp} (g : Gx p c H H') (d : Dk p c H) (h : H' q = none) : H q = none := by
  cases e : H q with
  | none => rfl
  | some o =>
    have n := g.2.ne h
    have := g.1 q o n.1 n.2 e
    rw [h] at this
    cases this
theorem At.gx {p c a : Addr} {H H' : Hp} {o : HO} (h : At p c H a o) (g : Gx p c H H') : At p c H' a o := ⟨h.1, h.2.1, g.1 a o h.1 h.2.1 h.2.2⟩
theorem At.new {p c a : Addr} {H : Hp} {o : HO} (d : Dk p c H) (h : H a = none) : At p c (upd H a o) a o := ⟨(d.ne h).1, (d.ne h).2, upd_same⟩
theorem Gx.new {p c a : Addr} {H : Hp} {o : HO} (d : Dk p c H) (h : H a = none) : Gx p c H (upd H a o) := Gx.same d (same_new h)
/-- a list's own change -/
theorem Gx.put {p c a : Addr} {H H' : Hp} {o : HO} (g : Gx p c H H') (d : Dk p c H) (h : H a = none) (n : a ≠ p ∧ a ≠ c) : Gx p c H (upd H' a o) := by
  refine ⟨fun b u h1 h2 e => ?_, ?_⟩
  · rw [upd_ne (ne_of_none e h)]
    exact g.1 b u h1 h2 e
  · obtain ⟨m, t, cs, h1, h2, h3⟩ := g.2
    exact ⟨m, t, cs, by rw [upd_ne n.1.symm]; exact h1, by rw [upd_ne n.2.symm]; exact h2, h3⟩
theorem cutV63 {ns : List Int} (h : ns.length ≤ 63) : cutV (ns.map V.int) none (some 63) = ns.map V.int := by
  unfold cutV
  rw [HT.sIx_none, show HT.sIx (ns.map V.int).length (ns.map V.int).length (some 63) = min 63 (ns.map V.int).length from HT.sIx_nat _ _ 63, List.drop_zero, List.take_of_length_le]
  rw [List.length_map]
  omega
section
variable {P : Program} {w : World} {K : PySem.W.Frag} {mg : Str → Option Value} {base : Heap} {tn tw tb : Tok}
def spDeck (K : PySem.W.Frag) : Sp := fun vs H Q _ => ∃ (a : Addr) (ns : List Int), vs = [.ref a] ∧ SqL K H a (ns.map V.int) ∧ ns.length ≤ 63 ∧ ∀ p c H', H p = none → H c = none → Same H H' → Dk p c H' → Q (.ref p) H'
theorem ints_all {ns : List Int} {xs : List V} (hl : xs.length = ns.length) (h : ∀ (i : Nat) (y : V), xs[i]? = some y → ∃ z, ns[i]? = some z ∧ y = V.int z) : xs = ns.map V.int := by
  refine List.ext_getElem? fun i => ?_
  rw [List.getElem?_map]
  cases e : xs[i]? with
  | none =>
    have h1 := List.getElem?_eq_none_iff.mp e
    have h2 : ns[i]? = none := List.getElem?_eq_none_iff.mpr (by omega)
    rw [h2]
    rfl
  | some y =>
    obtain ⟨z, hz, rfl⟩ := h i y e
    rw [hz]
    rfl
theorem int_at {ns : List Int} {i : Nat} {x : V} (h : (ns.map V.int)[i]? = some x) : ∃ z, ns[i]? = some z ∧ x = V.int z := by
  rw [List.getElem?_map] at h
  cases e : ns[i]? with
  | none => rw [e] at h; cases h
  | some z =>
    rw [e] at h
    exact ⟨z, rfl, (Option.some.inj h).symm⟩
theorem ok_deck {f : Addr} {fd : FuncData} (F : Fn K mg "_law_dealt" s__law_dealt ["_law_script"] f fd) (B : Blt mg) : FnOk P w K mg base CX0 1 f fd ["_law_script"] (spDeck K) := by
  refine F.F.ok sc__law_dealt (fun vs H Q E h => ?_) (fun cdv A outer s H vs Q E hr h => ?_)
  · obtain ⟨a, ns, rfl, _⟩ := h
    rfl
  · obtain ⟨a, ns, rfl, hS, hlen, q⟩ := h
    refine ⟨_, (pss_cons (ps_set (i := 1) sc__law_dealt.nd rfl (.inl rfl) pe_int)
      (pss_cons (ps_for PassesOwn.never rfl (pi_list (pe_slice sl_list (pv 0) po_none (po_some pe_int))) (pg_name (i := 2) sc__law_dealt.nd rfl (Or.inl rfl))
      (pss_one (ps_set (i := 1) sc__law_dealt.nd rfl (.inl rfl) (pe_op op_mod (pe_callTy call_int1 (by rfl) B.n_int (by decide +kernel) (pa_cons (pe_op op_add (pe_op op_add (pe_op op_mul (pv 1) pe_int) (pe_op op_mod (pe_callTy call_int1 (by rfl) B.n_int (by decide +kernel) (pa_cons (pv 2) pa_nil)) pe_int)) pe_int) pa_nil)) pe_int))))
      (pss_one (ps_ret (pe_disp (pps_cons pe_str (pe_revL (pe_callTy call_list_of (by rfl) B.n_list (by decide +kernel) (pa_cons (pe_slice sl_list (pv 0) po_none (po_some pe_int)) pa_nil))) (pps_cons pe_str (pv 1) (pps_cons pe_str pe_int pps_nil))) (by rfl) (by rfl) (fun z => by cases z) (by decide)))))), ?_⟩
    have c63 := cutV63 hlen
    -- the mixed number
    refine ⟨_, rfl, 63, rfl, a, _, rfl, hS, fun u hu => ?_⟩
    rw [c63]
    refine ⟨u, rfl, ⟨_, SqL.of upd_same⟩, ?_⟩
    refine for_list (K := K) (a := u) (xs := ns.map V.int) (fun i σ H2 => ∃ (m : Int) (x : Option V), σ = [some (.ref a), some (.int m), x] ∧ Same H H2 ∧ H2 u = some (.lst (ns.map V.int))) ⟨_, none, rfl, same_new hu, upd_same⟩ (fun i σ H2 _ z => ?_) ?_ ?_
    · obtain ⟨_, _, _, _, e⟩ := z
      exact SqL.of e
    · rintro i x σ H2 hx ⟨m, y, rfl, sm, e⟩
      obtain ⟨z, _, rfl⟩ := int_at hx
      refine ⟨_, rfl, _, _, rfl, rfl, .inr ⟨by decide, by decide⟩, ?_⟩
      refine ⟨_, rfl, .inl ⟨z, rfl, _, _, rfl, rfl, (by show (0 : Int) < 2147483563; decide), _, _, rfl, rfl, _, _, rfl, rfl, .inl ⟨_, rfl, _, _, rfl, rfl, (by show (0 : Int) < 2147483629; decide), ?_⟩⟩⟩
      exact ⟨_, _, rfl, sm, e⟩
    · rintro σ H2 ⟨m, x, rfl, sm, e⟩
      -- the dict
      intro p hp
      have nHp : H p = none := sm.free hp
      have sm2 : Same H (upd H2 p (.dK [])) := sm.trans (same_new hp)
      refine ⟨_, rfl, 63, rfl, a, _, rfl, sm2.seq hS, fun v hv => ?_⟩
      rw [c63]
      have npv : p ≠ v := fun z => by rw [← z, upd_same] at hv; cases hv
      have sm3 := sm2.trans (same_new (o := .lst (ns.map V.int)) hv)
      have p3 : upd (upd H2 p (.dK [])) v (.lst (ns.map V.int)) p = some (.dK []) := by rw [upd_ne npv, upd_same]
      refine ⟨v, _, rfl, .inl (SqL.of upd_same), fun D hD => ?_⟩
      generalize upd (upd H2 p (.dK [])) v (.lst (ns.map V.int)) = H3 at sm3 p3 hD ⊢
      have nDp : p ≠ D := ne_of_none p3 hD
      refine ⟨D, _, rfl, SqL.of upd_same, fun R hR => ?_⟩
      have sm4 := sm3.trans (same_new (o := .lst (ns.map V.int)) hD)
      have p4 : upd H3 D (.lst (ns.map V.int)) p = some (.dK []) := by rw [upd_ne nDp]; exact p3
      generalize upd H3 D (.lst (ns.map V.int)) = H4 at sm4 p4 hR ⊢
      have hRp : p ≠ R := ne_of_none p4 hR
      refine ⟨_, rfl, ?_⟩
      refine ⟨by rw [upd_ne hRp]; exact p4, dkL R m 0, rfl, by show 3 ≤ 15; decide, ?_⟩
      rw [merge_d]
      have nR : H R = none := sm4.free hR
      refine q p R _ nHp nR (fun b o e => ?_) ⟨m, 0, ns.reverse, upd_same, ?_, by rw [List.length_reverse]; exact hlen⟩
      · rw [upd_ne (ne_of_none e nHp), upd_ne (ne_of_none e nR)]
        exact sm4 b o e
      · rw [upd_ne hRp.symm, upd_same, List.map_reverse]
end
theorem dget {H : Hp} {a : Addr} {kvs : List (Key × V)} {k : Key} {v : V} (e : H a = some (.dK kvs)) (h : valV kvs k = some v) : DGet H a (kV k) (some v) := h ▸ DGet.k e
theorem ne_nil_ints (cs : List Int) : (!PyData.eqv (.list (cs.map PyData.int)) (.list [])) = decide (cs ≠ []) := by
  cases cs <;> simp [PyData.eqv, PyData.eqvAll]
section
variable {P : Program} {w : World} {K : PySem.W.Frag} {mg : Str → Option Value} {base : Heap} {tn tw tb : Tok}
def spDraw : Sp := fun vs H Q _ => ∃ (p c : Addr) (n : Int), vs = [.ref p, .int n] ∧ Dk p c H ∧ 1 ≤ n ∧ n ≤ 1000000 ∧ ∀ (r : Nat) H', (r : Int) < n → Gx p c H H' → Q (.int (r : Int)) H'
theorem nat_mod {x n : Int} (h : 1 ≤ n) : ∃ r : Nat, x % n = (r : Int) ∧ (r : Int) < n := by
  refine ⟨(x % n).toNat, ?_, ?_⟩
  · have := Int.emod_nonneg x (by omega : n ≠ 0)
    omega
  · have h1 := Int.emod_nonneg x (by omega : n ≠ 0)
    have h2 := Int.emod_lt_of_pos x (by omega : 0 < n)
    omega
theorem ok_draw {f : Addr} {fd : FuncData} (F : Fn K mg "_law_draw" s__law_draw ["_law_deck", "_law_many"] f fd) (B : Blt mg) : FnOk P w K mg base CX0 1 f fd ["_law_deck", "_law_many"] spDraw := by
  refine F.F.ok sc__law_draw (fun vs H Q E h => ?_) (fun cdv A outer s H vs Q E hr h => ?_)
  · obtain ⟨p, c, n, rfl, _⟩ := h
    rfl
  · obtain ⟨p, c, n, rfl, dk, n1, n2, q⟩ := h
    have hu := hu_of hr
    refine ⟨_, (pss_cons (ps_dput hu (pv 0) pe_str (pe_op op_add (pe_dget hu (pv 0) pe_str (fun _ _ => rfl)) pe_int) rfl)
      (pss_cons (ps_set (i := 2) sc__law_draw.nd rfl (.inl rfl) (pe_op op_add (pe_dget hu (pv 0) pe_str (fun _ _ => rfl)) (pe_op op_mul pe_int (pe_dget hu (pv 0) pe_str (fun _ _ => rfl)))))
      (C8.pss_cut (ps_if (pt_cmpR (op_neD hr.units) (pe_dget hu (pv 0) pe_str (fun _ _ => rfl)) (pe_lst pa_nil) (nomark _))
      (pss_cons (ps_set (i := 3) sc__law_draw.nd rfl (.inl rfl) (pe_bm0 PySem.F.plainAttrs_list PySem.F.slot_list_pop PySem.F.type_list_pop mt_pop (pe_dget hu (pv 0) pe_str (fun _ _ => rfl))))
        (pss_cons (ps_if (pt_cmpR op_ge (pv 3) (pe_op op_pow pe_int pe_int) (nomark _))
        (pss_cons (ps_expr (pe_bm PySem.F.plainAttrs_list PySem.F.slot_list_append PySem.F.type_list_append mt_append (pe_dget hu (pv 0) pe_str (fun _ _ => rfl)) (pa_cons (pe_op op_fdiv (pv 3) (pe_callB (call_max2 rfl) (by rfl) B.n_max (by decide +kernel) (pa_cons pe_int (pa_cons (pv 1) pa_nil)))) pa_nil)))
          (pss_one (ps_ret (pe_op op_mod (pe_callTy call_int1 (by rfl) B.n_int (by decide +kernel) (pa_cons (pv 3) pa_nil)) (pv 1)))))
        pss_nil)
        (pss_one (ps_set (i := 2) sc__law_draw.nd rfl (.inl rfl) (pe_op op_add (pv 2) (pe_op op_mod (pe_callTy call_int1 (by rfl) B.n_int (by decide +kernel) (pa_cons (pv 3) pa_nil)) pe_int))))))
      pss_nil)
      (pss_cons (ps_set (i := 2) sc__law_draw.nd rfl (.inl rfl) (pe_op op_mod (pe_callTy call_int1 (by rfl) B.n_int (by decide +kernel) (pa_cons (pe_op op_add (pe_op op_mul (pv 2) pe_int) pe_int) pa_nil)) pe_int))
      (pss_cons (ps_set (i := 2) sc__law_draw.nd rfl (.inl rfl) (pe_op op_mod (pe_callTy call_int1 (by rfl) B.n_int (by decide +kernel) (pa_cons (pe_op op_add (pe_op op_add (pe_op op_mul (pv 2) (pv 2)) (pe_op op_mul pe_int (pe_dget hu (pv 0) pe_str (fun _ _ => rfl)))) pe_int) pa_nil)) pe_int))
      (pss_one (ps_ret (pe_op op_mod (pe_callTy call_int1 (by rfl) B.n_int (by decide +kernel) (pa_cons (pe_op op_fdiv (pe_op op_mod (pe_callTy call_int1 (by rfl) B.n_int (by decide +kernel) (pa_cons (pe_op op_mul (pv 2) pe_int) pa_nil)) pe_int) pe_int) pa_nil)) (pv 1))))))))), ?_⟩
    obtain ⟨m, t, cs, h1, h2, h3⟩ := id dk
    have fin : ∀ (x : Int) (H2 : Hp), Gx p c H H2 → Q (.int (x % n)) H2 := by
      intro x H2 g
      obtain ⟨r, er, hr'⟩ := nat_mod (x := x) n1
      rw [er]
      exact q r H2 hr' g
    have npc : p ≠ c := ne_of h1 h2 (by intro z; cases z)
    -- turn
    refine ⟨_, rfl, p, _, rfl, dget (k := kT) h1 v_T, _, _, rfl, rfl, _, rfl, p, _, rfl, DPut.k (k := kT) h1 (by rw [sizeLine_eq]; show 3 < _; decide), ?_⟩
    rw [put_T]
    have g1 : Gx p c H (upd H p (.dK (dkL c m (t + 1)))) := ⟨fun b o b1 _ e => by rw [upd_ne b1]; exact e, ⟨m, t + 1, cs, upd_same, by rw [upd_ne npc.symm]; exact h2, h3⟩⟩
    generalize upd H p (.dK (dkL c m (t + 1))) = H1 at g1
    obtain ⟨m1, t1, cs1, k1, k2, k3⟩ := g1.2
    -- the figure
    refine ⟨_, rfl, p, _, rfl, dget (k := kM) k1 v_M, _, rfl, p, _, rfl, dget (k := kT) k1 v_T, _, _, rfl, rfl, .inl ⟨by decide, by decide⟩, _, _, rfl, rfl, ?_⟩
    refine ⟨fun σ H' => ∃ (fig : Int) (x3 : Option V), σ = [some (.ref p), some (.int n), some (.int fig), x3] ∧ Gx p c H H', ?_, ?_⟩
    · refine ⟨_, rfl, p, _, rfl, dget (k := kC) k1 v_C, Nat.zero_le _, fun z hz => ?_⟩
      have dk1 : Dk p c H1 := g1.2
      have nz := dk1.ne hz
      have k1' : upd H1 z (.lst []) p = some (.dK (dkL c m1 t1)) := by rw [upd_ne nz.1.symm]; exact k1
      have k2' : upd H1 z (.lst []) c = some (.lst (cs1.map V.int)) := by rw [upd_ne nz.2.symm]; exact k2
      have g2 : Gx p c H (upd H1 z (.lst [])) := g1.trans (Gx.new dk1 hz)
      refine ⟨.list (cs1.map .int), .list [], .lst (SqL.of k2') (dpIntsG cs1), .lst (SqL.of upd_same) .nil, shaped_ints cs1, shaped_ints [], _, rfl, ?_⟩
      rw [ne_nil_ints]
      refine ite2 (fun h => ?_) (fun h => ?_)
      · have hne : cs1 ≠ [] := of_decide_eq_true h
        obtain ⟨ini, cell, rfl⟩ : ∃ ini cell, cs1 = ini ++ [cell] := ⟨_, _, (List.dropLast_concat_getLast hne).symm⟩
        refine ⟨_, rfl, p, _, rfl, dget (k := kC) k1' v_C, .inl ⟨rfl, _, SqL.of k2'⟩, c, _, .int cell, rfl, rfl, k2', by simp, ?_⟩
        have ed : ((ini ++ [cell]).map V.int).dropLast = ini.map V.int := by simp
        rw [ed]
        rw [List.length_append, List.length_singleton] at k3
        have k1'' : upd (upd H1 z (.lst [])) c (.lst (ini.map V.int)) p = some (.dK (dkL c m1 t1)) := by rw [upd_ne npc]; exact k1'
        have putc : ∀ (xs : List Int) (H2 : Hp), (∀ b, b ≠ c → H2 b = upd H1 z (.lst []) b) → xs.length ≤ 63 → Gx p c H (upd H2 c (.lst (xs.map V.int))) := by
          intro xs H2 hb hx
          refine ⟨fun b o b1 b2 e => ?_, ⟨m1, t1, xs, ?_, upd_same, hx⟩⟩
          · rw [upd_ne b2, hb b b2]
            exact g2.1 b o b1 b2 e
          · rw [upd_ne npc, hb p npc]
            exact k1'
        refine ⟨_, rfl, _, _, rfl, rfl, ⟨by decide, by decide, by decide⟩, _, _, rfl, rfl, _, rfl, ?_⟩
        refine ite2 (fun h => ?_) (fun h => ?_)
        · refine ⟨_, rfl, p, _, rfl, dget (k := kC) k1'' v_C, .inl ⟨rfl, _, SqL.of upd_same⟩, _, rfl, _, rfl, 2, n, rfl, _, _, rfl, rfl, ?_, c, _, _, rfl, rfl, upd_same, ?_, ?_⟩
          · show (0 : Int) < (if n > 2 then n else 2) ∧ (if n > 2 then n else 2) < 1073741824
            split <;> omega
          · rw [List.length_map, sizeLine_eq]; omega
          refine ⟨_, rfl, .inl ⟨_, rfl, _, rfl, _, _, rfl, rfl, (by show (0 : Int) < n; omega), ?_⟩⟩
          refine fin cell _ ?_
          have e2 : ini.map V.int ++ [V.int (cell / (if n > 2 then n else 2))] = (ini ++ [cell / (if n > 2 then n else 2)]).map V.int := by simp
          show Gx p c H (upd _ c (.lst (ini.map V.int ++ [V.int (cell / (if n > 2 then n else 2))])))
          rw [e2]
          exact putc _ _ (fun b hb => by rw [upd_ne hb]) (by simp; omega)
        · refine ⟨_, rfl, _, rfl, .inl ⟨_, rfl, _, _, rfl, rfl, (by show (0 : Int) < 2147483563; decide), _, _, rfl, rfl, _, _, rfl, putc _ _ (fun b hb => rfl) (by omega)⟩⟩
      · exact ⟨_, _, rfl, g2⟩
    · rintro σ H2 ⟨fig, x3, rfl, g2⟩
      obtain ⟨m2, t2, cs2, j1, j2, j3⟩ := g2.2
      refine ⟨_, rfl, _, _, rfl, rfl, .inr ⟨by decide, by decide⟩, _, _, rfl, rfl, .inl ⟨_, rfl, _, _, rfl, rfl, (by show (0 : Int) < 2147483587; decide), ?_⟩⟩
      have b1 := Int.emod_nonneg (fig * 48271 + 17) (by decide : (2147483587 : Int) ≠ 0)
      have b2 := Int.emod_lt_of_pos (fig * 48271 + 17) (by decide : (0 : Int) < 2147483587)
      generalize (fig * 48271 + 17) % 2147483587 = f1 at b1 b2
      refine ⟨_, rfl, _, rfl, _, _, rfl, rfl, .inl ⟨by omega, by omega⟩, _, rfl, p, _, rfl, dget (k := kT) j1 v_T, _, _, rfl, rfl, .inl ⟨by decide, by decide⟩, _, _, rfl, rfl, _, _, rfl, rfl, .inl ⟨_, rfl, _, _, rfl, rfl, (by show (0 : Int) < 2147483647; decide), ?_⟩⟩
      refine ⟨_, rfl, _, _, rfl, rfl, .inr ⟨by decide, by decide⟩, .inl ⟨_, rfl, _, _, rfl, rfl, (by show (0 : Int) < 2147483629; decide), _, _, rfl, rfl, ⟨by decide, by decide⟩, .inl ⟨_, rfl, _, rfl, _, _, rfl, rfl, (by show (0 : Int) < n; omega), ?_⟩⟩⟩
      exact fin _ H2 g2
/-- _law_pick: any item of a list that the deck is not, any sign of a text -/
def spPick : Sp := fun vs H Q _ => ∃ (p c : Addr) (v : V), vs = [.ref p, v] ∧ Dk p c H ∧
  ((∃ (a : Addr) (xs : List V), v = .ref a ∧ At p c H a (.lst xs) ∧ 1 ≤ xs.length ∧ xs.length ≤ 100000 ∧ ∀ (r : Nat) x H', xs[r]? = some x → Gx p c H H' → Q x H') ∨
   ∃ z : List Nat, v = .str (S z) ∧ 1 ≤ z.length ∧ z.length ≤ 1000 ∧ ∀ (r : Nat) d H', z[r]? = some d → Gx p c H H' → Q (.str (S [d])) H')
theorem ok_pick {f f1 : Addr} {fd fd1 : FuncData} (F : Fn K mg "_law_pick" s__law_pick ["_law_deck", "_law_some_here"] f fd) (B : Blt mg) (F__law_draw : Fn K mg "_law_draw" s__law_draw ["_law_deck", "_law_many"] f1 fd1) :
    FnOk P w K mg base CX0 2 f fd ["_law_deck", "_law_some_here"] spPick := by
  have G__law_draw : FnOk P w K mg base CX0 1 f1 fd1 ["_law_deck", "_law_many"] spDraw := ok_draw F__law_draw B
  refine F.F.ok sc__law_pick (fun vs H Q E h => ?_) (fun cdv A outer s H vs Q E hr h => ?_)
  · obtain ⟨p, c, v, rfl, _⟩ := h
    rfl
  · obtain ⟨p, c, v, rfl, dk, h⟩ := h
    refine ⟨_, (pss_one (ps_ret (pe_ix ix_seq (pv 1) (pe_call G__law_draw (hr.mono (by decide)) (by rfl) F__law_draw.g F__law_draw.F.kp F__law_draw.b .nil pass0 (pa_cons (pv 0) (pa_cons (pe_callB call_len (by rfl) B.n_len PySem.boot_len (pa_cons (pv 1) pa_nil)) pa_nil))) (fun _ _ => rfl)))), ?_⟩
    rcases h with ⟨a, xs, rfl, ha, hl1, hl2, q⟩ | ⟨z, rfl, hl1, hl2, q⟩
    · refine ⟨_, rfl, _, rfl, _, rfl, .ref a, xs.length, rfl, .inl ⟨xs, SqL.of ha.2.2, rfl⟩, p, c, _, rfl, dk, by omega, by omega, fun r H' hr' g => ?_⟩
      have hlt : r < xs.length := by omega
      exact .inl ⟨a, xs, _, _, rfl, rfl, SqL.of (ha.gx g).2.2, atI_nat (List.getElem?_eq_getElem hlt), q r _ H' (List.getElem?_eq_getElem hlt) g⟩
    · refine ⟨_, rfl, _, rfl, _, rfl, .str (S z), z.length, rfl, ⟨sz (by rw [S_len]; omega), by rw [S_len]⟩, p, c, _, rfl, dk, by omega, by omega, fun r H' hr' g => ?_⟩
      have hlt : r < z.length := by omega
      have hz : (S z).cps.toList[r]? = some z[r] := List.getElem?_eq_getElem hlt
      exact .inr (.inr ⟨S z, _, _, rfl, rfl, sz (by rw [S_len]; omega), atI_nat hz, q r _ H' (List.getElem?_eq_getElem hlt) g⟩)
end
end Ag

end
/-! ## LB -/
section
set_option linter.all false
set_option maxRecDepth 100000
set_option maxHeartbeats 4000000
namespace Ag
open PySem PySem.Spec PyProof.Rows L2
open SX (S S_len S_cat S_inj)
theorem azS : (Str.ofString "abcdefghijklmnopqrstuvwxyz").cps.toList = (List.range 26).map (· + 97) := by decide +kernel
theorem mem_az {c : Nat} : decide (c ∈ (Str.ofString "abcdefghijklmnopqrstuvwxyz").cps.toList) = azC c := by
  rw [azS, Bool.eq_iff_iff, decide_eq_true_eq]
  unfold azC
  simp
  constructor
  · rintro ⟨a, h, rfl⟩
    omega
  · intro h
    exact ⟨c - 97, by omega, by omega⟩
theorem map_const {α : Type} (l : List α) : (l.map fun _ => (1 : Int)).map V.int = l.map fun _ => V.int 1 := by rw [List.map_map]; rfl
section
variable {P : Program} {w : World} {K : PySem.W.Frag} {mg : Str → Option Value} {base : Heap} {tn tw tb : Tok}
def spWhole : Sp := fun vs H Q _ => ∃ p c v d lo hi, vs = [v, .int lo, .int hi] ∧ Dg p c H v d ∧ Q (.bl (wholeB lo hi d)) H
theorem ok_whole {f : Addr} {fd : FuncData} (F : Fn K mg "_law_is_whole" s__law_is_whole ["_law_thing", "_law_low", "_law_high"] f fd) (B : Con mg tn tw tb) : FnOk P w K mg base CX0 1 f fd ["_law_thing", "_law_low", "_law_high"] spWhole := by
  refine F.F.ok sc__law_is_whole (fun vs H Q E h => ?_) (fun cdv A outer s H vs Q E hr h => ?_)
  · obtain ⟨p, c, x, d, lo, hi, rfl, _⟩ := h
    rfl
  · obtain ⟨p, c, x, d, lo, hi, rfl, hd, q⟩ := h
    refine ⟨_, (pss_one (ps_ret (pe_and (pe_callB call_isi (by rfl) B.n_isinstance (by decide +kernel) (pa_cons (pv 0) (pa_cons (pe_bltn (v := .ty "int") (by rfl) B.n_int (by decide +kernel) rfl) pa_nil))) (pe_and (pe_not (pe_callB call_isi (by rfl) B.n_isinstance (by decide +kernel) (pa_cons (pv 0) (pa_cons (pe_bltn (v := .ty "bool") (by rfl) B.n_bool (by decide +kernel) rfl) pa_nil)))) (pe_one (pe_chain op_le op_le (pv 1) (pv 0) (pv 2))))))), ?_⟩
    refine ⟨x, rfl, x, .ty "int", _, _, _, rfl, .ty "int", hd.tyx, isi_I d, _, rfl, ite2 (fun h => ?_) (fun h => ?_)⟩
    · refine ⟨_, rfl, x, .ty "bool", _, _, _, rfl, .ty "bool", hd.tyx, isi_B d, _, rfl, _, rfl, ?_⟩
      cases hd with
      | int i =>
        refine iteT ⟨_, rfl, _, rfl, _, _, rfl, rfl, _, rfl, ?_⟩
        simp only [wholeB] at q
        refine ite2 (fun h1 => ?_) (fun h1 => ?_)
        · rw [h1, Bool.true_and] at q
          exact ⟨_, rfl, _, _, rfl, rfl, q⟩
        · rw [Bool.eq_false_iff.mpr h1, Bool.false_and] at q
          exact q
      | bl b => exact iteF q
      | _ => exact absurd h (by simp [isI])
    · cases d <;> first | exact q | exact absurd rfl h
def spLWord : Sp := fun vs H Q _ => ∃ p c v d q n b, vs = [v] ∧ Dg p c H v d ∧ Gd q d n b ∧ ∀ H', Same H H' → Q (.bl (wordB d)) H'
theorem ok_lword {f : Addr} {fd : FuncData} (F : Fn K mg "_law_is_word" s__law_is_word ["_law_thing"] f fd) (B : Con mg tn tw tb) : FnOk P w K mg base CX0 1 f fd ["_law_thing"] spLWord := by
  refine F.F.ok sc__law_is_word (fun vs H Q E h => ?_) (fun cdv A outer s H vs Q E hr h => ?_)
  · obtain ⟨p, c, x, d, _, _, _, rfl, _⟩ := h
    rfl
  · obtain ⟨p, c, x, d, qq, n, b, rfl, hd, hg, q⟩ := h
    refine ⟨_, (pss_cons (ps_if (PW.pt (pw_or (pt_not (pt_val (pe_callB call_isi (by rfl) B.n_isinstance (by decide +kernel) (pa_cons (pv 0) (pa_cons (pe_bltn (v := .ty "str") (by rfl) B.n_str (by decide +kernel) rfl) pa_nil))))) (pw_or1 (pt_not (pt_chain op_le op_le pe_int (pe_callB call_len_str (by rfl) B.n_len PySem.boot_len (pa_cons (pv 0) pa_nil)) pe_int)))))
      (pss_one (ps_ret pe_bl))
      pss_nil)
      (pss_one (ps_ret (pe_cmpR (op_eqD hr.units) (pe_lc (own := [("_law_sign", 1)]) rfl sc__law_is_word.nd (pi_str (pv 0)) (blkOk_by (N := N__law_is_word) (sc := defScope s__law_is_word) (by decide +kernel)) (fun _ _ _ _ _ => (pg_name (i := 1) sc__law_is_word.nd rfl (Or.inl rfl))) (fun _ _ _ _ _ => (pts_one (pt_cmpR op_notIn_sign (pv 1) pe_str rfl))) (fun _ _ _ _ _ => pe_int)) (pe_lst pa_nil) (nomark _))))), ?_⟩
    refine ⟨_, rfl, x, .ty "str", _, _, _, rfl, .ty "str", hd.tyx, isi_S d, _, rfl, ?_⟩
    cases hd with
    | str x =>
      obtain ⟨h1, h2⟩ := hg.strlen
      have hx : x = S x.cps.toList := rfl
      generalize x.cps.toList = l at h1 h2 hx q
      subst hx
      refine iteF ?_
      refine ⟨.str (S l), rfl, S l, rfl, sz (by rw [S_len]; omega), _, _, rfl, rfl, _, rfl, ?_⟩
      rw [S_len]
      have q : ∀ H', Same H H' → Q (.bl (wordL l)) H' := q
      unfold wordL at q
      have e1 : decide ((1 : Int) ≤ (l.length : Int)) = decide (1 ≤ l.length) := by
        rw [Bool.eq_iff_iff, decide_eq_true_eq, decide_eq_true_eq]
        omega
      have e2 : decide ((l.length : Int) ≤ 10) = decide (l.length ≤ 10) := by
        rw [Bool.eq_iff_iff, decide_eq_true_eq, decide_eq_true_eq]
        omega
      rw [e1]
      cases h3 : decide (1 ≤ l.length) with
      | false =>
        rw [h3, Bool.false_and, Bool.false_and] at q
        exact iteF ⟨_, rfl, iteT (q _ (Same.refl _))⟩
      | true =>
        rw [h3, Bool.true_and] at q
        refine iteT ?_
        refine ⟨_, _, rfl, rfl, _, rfl, ?_⟩
        rw [e2]
        cases h4 : decide (l.length ≤ 10) with
        | false =>
          rw [h4, Bool.false_and] at q
          exact iteT (q _ (Same.refl _))
        | true =>
          rw [h4, Bool.true_and] at q
          refine iteF ?_
          have hzs : (S l).cps.size = l.length := by simp
          refine ⟨_, rfl, S l, rfl, fun D hD => ?_⟩
          refine lc_sel (walk_str (z := S l)) (fun i => !azC (l.getD i 0)) (fun _ => .int 1) (by rw [hzs]; omega) hD (fun _ _ => trivial) ?_ ?_
          · rintro i y H1 H2 k k0 hi s1 ⟨rfl, c', hc, rfl⟩ hk hk0
            have hc' : l[i]? = some c' := by simpa using hc
            rw [List.getD_eq_getElem?_getD, hc'] at hk hk0
            refine ⟨rfl, _, rfl, c', _, rfl, rfl, _, rfl, ?_⟩
            rw [mem_az]
            cases ha : azC c' with
            | false => exact iteT (hk (by show (!azC c') = true; rw [ha]; rfl) _ (Same.refl _))
            | true => exact iteF (hk0 (by show (!azC c') = false; rw [ha]; rfl) _ (Same.refl _))
          · intro H1 s1 h1
            rw [hzs] at h1
            refine ⟨Nat.zero_le _, fun t ht => ?_⟩
            have nD := ne_of_none h1 ht
            refine ⟨.list (((List.range l.length).filter fun i => !azC (l.getD i 0)).map fun _ => .int 1), .list [], .lst (SqL.of (by rw [upd_ne nD]; exact h1)) (dp_const _), .lst (SqL.of upd_same) .nil, shaped_const _, shaped_ints [], ?_⟩
            rw [eqv_map_nil, none_at l azC 0]
            exact q _ (s1.trans (same_new ht))
    | _ => exact iteT (iteT (q _ (Same.refl _)))
def spLBody : Sp := fun vs H Q _ => ∃ p c v d q n b, vs = [v] ∧ Dg p c H v d ∧ Gd q d n b ∧ ∀ H', Same H H' → Q (.bl (bodyB d)) H'
theorem ok_lbody {f : Addr} {fd : FuncData} (F : Fn K mg "_law_is_body" s__law_is_body ["_law_thing"] f fd) (B : Con mg tn tw tb) : FnOk P w K mg base CX0 1 f fd ["_law_thing"] spLBody := by
  refine F.F.ok sc__law_is_body (fun vs H Q E h => ?_) (fun cdv A outer s H vs Q E hr h => ?_)
  · obtain ⟨p, c, x, d, _, _, _, rfl, _⟩ := h
    rfl
  · obtain ⟨p, c, x, d, qq, n, b, rfl, hd, hg, q⟩ := h
    refine ⟨_, (pss_one (ps_ret (pe_and (pe_callB call_isi (by rfl) B.n_isinstance (by decide +kernel) (pa_cons (pv 0) (pa_cons (pe_bltn (v := .ty "str") (by rfl) B.n_str (by decide +kernel) rfl) pa_nil))) (pe_and (pe_cmpR op_le (pe_callB call_len_str (by rfl) B.n_len PySem.boot_len (pa_cons (pv 0) pa_nil)) pe_int (nomark _)) (pe_one (pe_cmpR (op_eqD hr.units) (pe_lc (own := [("_law_sign", 1)]) rfl sc__law_is_body.nd (pi_str (pv 0)) (blkOk_by (N := N__law_is_body) (sc := defScope s__law_is_body) (by decide +kernel)) (fun _ _ _ _ _ => (pg_name (i := 1) sc__law_is_body.nd rfl (Or.inl rfl))) (fun _ _ _ _ _ => (pts_one (pt_not (pt_chain op_le op_le pe_int (pe_callB call_ord (by rfl) B.n_ord (by decide +kernel) (pa_cons (pv 1) pa_nil)) pe_int)))) (fun _ _ _ _ _ => pe_int)) (pe_lst pa_nil) (nomark _))))))), ?_⟩
    refine ⟨_, rfl, x, .ty "str", _, _, _, rfl, .ty "str", hd.tyx, isi_S d, _, rfl, ?_⟩
    cases hd with
    | str x =>
      obtain ⟨h1, h2⟩ := hg.strlen
      have hx : x = S x.cps.toList := rfl
      generalize x.cps.toList = l at h1 h2 hx q
      subst hx
      refine iteT ?_
      refine ⟨.str (S l), rfl, S l, rfl, sz (by rw [S_len]; omega), _, _, rfl, rfl, _, rfl, ?_⟩
      rw [S_len]
      have q : ∀ H', Same H H' → Q (.bl (decide (l.length ≤ 150) && plainL l)) H' := q
      have e2 : decide ((l.length : Int) ≤ 150) = decide (l.length ≤ 150) := by
        rw [Bool.eq_iff_iff, decide_eq_true_eq, decide_eq_true_eq]
        omega
      rw [e2]
      refine ite2 (fun h4 => ?_) (fun h4 => ?_)
      · rw [h4, Bool.true_and] at q
        have hzs : (S l).cps.size = l.length := by simp
        refine ⟨_, rfl, S l, rfl, fun D hD => ?_⟩
        refine lc_sel (walk_str (z := S l)) (fun i => !plainC (l.getD i 0)) (fun _ => .int 1) (by rw [hzs]; omega) hD (fun _ _ => trivial) ?_ ?_
        · rintro i y H1 H2 k k0 hi s1 ⟨rfl, c', hc, rfl⟩ hk hk0
          have hc' : l[i]? = some c' := by simpa using hc
          rw [List.getD_eq_getElem?_getD, hc'] at hk hk0
          have hp : plainC c' = (decide ((32 : Int) ≤ (c' : Int)) && decide ((c' : Int) ≤ 126)) := by
            unfold plainC
            rw [Bool.eq_iff_iff]
            simp
            omega
          have hk : plainC c' = false → ∀ H4, Same H2 H4 → k (.int 1) H4 := fun h => hk (by show (!plainC c') = true; rw [h]; rfl)
          have hk0 : plainC c' = true → ∀ H4, Same H2 H4 → k0 H4 := fun h => hk0 (by show (!plainC c') = false; rw [h]; rfl)
          refine ⟨rfl, _, rfl, _, rfl, rfl, _, _, rfl, rfl, _, rfl, ?_⟩
          refine show if decide ((32 : Int) ≤ (c' : Int)) = true then _ else _ from ?_
          cases ha : decide ((32 : Int) ≤ (c' : Int)) with
          | false =>
            refine iteF ⟨_, rfl, ?_⟩
            exact iteT (hk (by rw [hp, ha]; rfl) _ (Same.refl _))
          | true =>
            refine iteT ⟨_, _, rfl, rfl, _, rfl, ?_⟩
            refine show if (!decide ((c' : Int) ≤ 126)) = true then _ else _ from ?_
            cases hb : decide ((c' : Int) ≤ 126) with
            | false => exact iteT (hk (by rw [hp, ha, hb]; rfl) _ (Same.refl _))
            | true => exact iteF (hk0 (by rw [hp, ha, hb]; rfl) _ (Same.refl _))
        · intro H1 s1 h1
          rw [hzs] at h1
          refine ⟨Nat.zero_le _, fun t ht => ?_⟩
          have nD := ne_of_none h1 ht
          refine ⟨.list (((List.range l.length).filter fun i => !plainC (l.getD i 0)).map fun _ => .int 1), .list [], .lst (SqL.of (by rw [upd_ne nD]; exact h1)) (dp_const _), .lst (SqL.of upd_same) .nil, shaped_const _, shaped_ints [], ?_⟩
          rw [eqv_map_nil, none_at l plainC 0]
          exact q _ (s1.trans (same_new ht))
      · rw [Bool.eq_false_iff.mpr h4, Bool.false_and] at q
        exact q _ (Same.refl _)
    | _ => exact q _ (Same.refl _)
def spLNums : Sp := fun vs H Q _ => ∃ p c v d q n b m, vs = [v, .int m] ∧ Dg p c H v d ∧ Gd q d n b ∧ ∀ H', Same H H' → Q (.bl (cntB m d)) H'
theorem ok_lnums {f f1 : Addr} {fd fd1 : FuncData} (F : Fn K mg "_law_are_numbers" s__law_are_numbers ["_law_thing", "_law_high"] f fd) (B : Con mg tn tw tb) (F__law_is_whole : Fn K mg "_law_is_whole" s__law_is_whole ["_law_thing", "_law_low", "_law_high"] f1 fd1) :
    FnOk P w K mg base CX0 2 f fd ["_law_thing", "_law_high"] spLNums := by
  have G__law_is_whole : FnOk P w K mg base CX0 1 f1 fd1 ["_law_thing", "_law_low", "_law_high"] spWhole := ok_whole F__law_is_whole B
  refine F.F.ok sc__law_are_numbers (fun vs H Q E h => ?_) (fun cdv A outer s H vs Q E hr h => ?_)
  · obtain ⟨p, c, x, d, _, _, _, m, rfl, _⟩ := h
    rfl
  · obtain ⟨p, c, x, d, qq, n, b, m, rfl, hd, hg, q⟩ := h
    refine ⟨_, (pss_cons (ps_if (PW.pt (pw_or (pt_not (pt_val (pe_callB call_isi (by rfl) B.n_isinstance (by decide +kernel) (pa_cons (pv 0) (pa_cons (pe_bltn (v := .ty "tuple") (by rfl) B.n_tuple (by decide +kernel) rfl) pa_nil))))) (pw_or1 (pt_cmpR (op_neD hr.units) (pe_lc (own := [("_law_part", 2)]) rfl sc__law_are_numbers.nd (pi_tup (pv 0)) (blkOk_by (N := N__law_are_numbers) (sc := defScope s__law_are_numbers) (by decide +kernel)) (fun _ _ _ _ _ => (pg_name (i := 2) sc__law_are_numbers.nd rfl (Or.inl rfl))) (fun _ _ _ _ _ => (pts_one (pt_not (pt_val (pe_call G__law_is_whole (hr.mono (by decide)) (by rfl) F__law_is_whole.g F__law_is_whole.F.kp F__law_is_whole.b .nil pass0 (pa_cons (pv 2) (pa_cons pe_int (pa_cons (pv 1) pa_nil)))))))) (fun _ _ _ _ _ => pe_int)) (pe_lst pa_nil) (nomark _)))))
      (pss_one (ps_ret pe_bl))
      pss_nil)
      (pss_one (ps_ret (pe_cmpR (op_eqD hr.units) (pe_callTy call_list_of (by rfl) B.n_list (by decide +kernel) (pa_cons (pv 0) pa_nil)) (pe_callB (cr_sortedSet rfl) (by rfl) B.n_sorted (by decide +kernel) (pa_cons (pe_callTy (cr_setI rfl) (by rfl) B.n_set (by decide +kernel) (pa_cons (pe_callTy call_list_of (by rfl) B.n_list (by decide +kernel) (pa_cons (pv 0) pa_nil)) pa_nil)) pa_nil)) (nomark _))))), ?_⟩
    refine ⟨_, rfl, x, .ty "tuple", _, _, _, rfl, .ty "tuple", hd.tyx, isi_T d, _, rfl, ?_⟩
    cases hd with
    | tup ha hA =>
      rename_i a xs ds
      obtain ⟨hgA, hl⟩ := hg.untup
      have hxl : xs.length ≤ 60 := by rw [hA.len]; exact hl
      refine iteF ?_
      refine ⟨_, rfl, a, rfl, ⟨_, SqT.of ha.2.2⟩, fun D hD => ?_⟩
      refine lc_sel (walk_tup (K := K) (a := a) (xs := xs)) (fun i => !wholeB 1 m (ds.getD i .none)) (fun _ => .int 1) (by omega) hD (fun H' s => SqT.of (s _ _ ha.2.2)) ?_ ?_
      · rintro i y H1 H2 k k0 hi s1 ⟨rfl, hy⟩ hk hk0
        obtain ⟨d, hdi, hdg⟩ := hA.at_ hy
        rw [List.getD_eq_getElem?_getD, hdi] at hk hk0
        refine ⟨rfl, _, rfl, _, rfl, p, c, y, d, 1, m, rfl, hdg.to (.same s1), _, rfl, ?_⟩
        cases hw : wholeB 1 m d with
        | false => exact iteT (hk (by show (!wholeB 1 m d) = true; rw [hw]; rfl) _ (Same.refl _))
        | true => exact iteF (hk0 (by show (!wholeB 1 m d) = false; rw [hw]; rfl) _ (Same.refl _))
      · intro H1 s1 h1
        refine ⟨Nat.zero_le _, fun t ht => ?_⟩
        have nD := ne_of_none h1 ht
        rw [hA.len] at h1
        refine ⟨.list (((List.range ds.length).filter fun i => !wholeB 1 m (ds.getD i .none)).map fun _ => .int 1), .list [], .lst (SqL.of (by rw [upd_ne nD]; exact h1)) (dp_const _), .lst (SqL.of upd_same) .nil, shaped_const _, shaped_ints [], _, rfl, ?_⟩
        rw [eqv_map_nil, none_at ds (wholeB 1 m) .none]
        have s1 := s1.trans (same_new (o := .lst []) ht)
        generalize upd H1 t (.lst []) = H2 at s1 ⊢
        have q : ∀ H', Same H H' → Q (.bl (ds.all (wholeB 1 m) && ascI (ds.map asInt))) H' := q
        cases hall : ds.all (wholeB 1 m) with
        | false =>
          rw [hall, Bool.false_and] at q
          exact iteT (q _ s1)
        | true =>
          rw [hall, Bool.true_and] at q
          refine iteF ?_
          have hxs := ints_of_D hA hall
          generalize ds.map asInt = ns at hxs q
          subst hxs
          rw [List.length_map] at hxl
          refine ⟨_, rfl, a, _, rfl, .inr (SqT.of (s1 _ _ ha.2.2)), fun l hl => ?_⟩
          have s2 := s1.trans (same_new (o := .lst (ns.map V.int)) hl)
          have hl2 : upd H2 l (.lst (ns.map V.int)) l = some (.lst (ns.map V.int)) := upd_same
          generalize upd H2 l (.lst (ns.map V.int)) = H3 at s2 hl2 ⊢
          refine ⟨_, rfl, a, _, rfl, .inr (SqT.of (s2 _ _ ha.2.2)), fun l2 hll2 => ?_⟩
          have n2 := ne_of_none hl2 hll2
          have s3 := s2.trans (same_new (o := .lst (ns.map V.int)) hll2)
          have hl3 : upd H3 l2 (.lst (ns.map V.int)) l = some (.lst (ns.map V.int)) := by rw [upd_ne n2]; exact hl2
          have hl4 : upd H3 l2 (.lst (ns.map V.int)) l2 = some (.lst (ns.map V.int)) := upd_same
          generalize upd H3 l2 (.lst (ns.map V.int)) = H4 at s3 hl3 hl4 ⊢
          refine ⟨l2, ns, rfl, .inl (SqL.of hl4), by omega, fun st L hst nd hm hll => ?_⟩
          have nls : l ≠ st := ne_of_none hl3 hst
          refine ⟨st, _, _, rfl, upd_same, by omega, fun ns' r hpw hmem hlen hr => ?_⟩
          have nlr : l ≠ r := ne_of_none (by rw [upd_ne nls]; exact hl3) hr
          refine ⟨.list (ns.map .int), .list (ns'.map .int), .lst (SqL.of (by rw [upd_ne nlr, upd_ne nls]; exact hl3)) (dpIntsG _), .lst (SqL.of upd_same) (dpIntsG _), shaped_ints _, shaped_ints _, ?_⟩
          have e2 : PyData.eqv (.list (ns.map .int)) (.list (ns'.map .int)) = ascI ns := by
            rw [PyData.eqv, eqv_ints, Bool.eq_iff_iff, decide_eq_true_eq, ascI_iff]
            constructor
            · rintro rfl
              exact hpw
            · intro h
              exact asc_uniq h hpw fun k => by rw [hmem k, decide_eq_true_eq]
          rw [e2]
          exact q _ ((s3.trans (same_new hst)).trans (same_new hr))
    | _ => exact iteT (iteT (q _ (Same.refl _)))
end
end Ag

end
/-! ## LC -/
section
set_option linter.all false
set_option maxRecDepth 100000
set_option maxHeartbeats 4000000
namespace Ag
open PySem PySem.Spec PyProof.Rows L2
open SX (S S_len S_cat S_inj)
/-! ### the law's own look at what was heard -/
def lastLe (ms : List Int) (x : Int) : Bool := match ms.getLast? with
  | none => true
  | some y => decide (y ≤ x)
def topOk (ns ms : List Int) : Bool := match ns with
  | [] => true
  | x :: l => l.all (fun y => decide (y = x)) && lastLe ms x
def lseenB (many : Nat) (bt an aw up : PyData) : Bool :=
  ((endsL aw up).all (wholeB 0 many) && cntB many an) && (topOk ((endsL aw up).map asInt) (intsT an) && (!isN bt || (isT0 an && (endsL aw up).isEmpty)))
theorem asc_snoc : ∀ {l : List Int} {y : Int}, ascI (l ++ [y]) = true → ∀ x ∈ l, x < y
  | a :: l, y, h, x, hx => by
    rw [List.cons_append, ascI, Bool.and_eq_true, List.all_eq_true] at h
    rcases List.mem_cons.mp hx with rfl | hx
    · simpa using h.1 y (by simp)
    · exact asc_snoc h.2 x hx
  | [], _, _, x, hx => by cases hx
theorem whole_int {lo hi : Int} {d : PyData} (h : wholeB lo hi d = true) : d = .int (asInt d) ∧ lo ≤ asInt d ∧ asInt d ≤ hi := by
  cases d with
  | int i =>
    simp only [wholeB, Bool.and_eq_true, decide_eq_true_eq] at h
    exact ⟨rfl, h.1, h.2⟩
  | _ => simp [wholeB] at h
theorem int_whole {lo hi : Int} {d : PyData} (h : d = .int (asInt d)) (h1 : lo ≤ asInt d) (h2 : asInt d ≤ hi) : wholeB lo hi d = true := by
  rw [h]
  simp only [wholeB, Bool.and_eq_true, decide_eq_true_eq]
  exact ⟨h1, h2⟩
theorem cnt_last {i many : Int} (h : i ≤ many) (an : PyData) : cntB i an = (cntB many an && lastLe (intsT an) i) := by
  cases an with
  | tuple xs =>
    simp only [cntB, intsT]
    rw [Bool.eq_iff_iff]
    simp only [Bool.and_eq_true, List.all_eq_true]
    constructor
    · rintro ⟨a, b⟩
      refine ⟨⟨fun d hd => ?_, b⟩, ?_⟩
      · obtain ⟨e, h1, h2⟩ := whole_int (a d hd)
        exact int_whole e h1 (by omega)
      · unfold lastLe
        cases hl : (xs.map asInt).getLast? with
        | none => rfl
        | some y =>
          have hm := List.mem_of_getLast? hl
          obtain ⟨d, hd, rfl⟩ := List.mem_map.mp hm
          exact decide_eq_true (whole_int (a d hd)).2.2
    · rintro ⟨⟨a, b⟩, c⟩
      refine ⟨fun d hd => ?_, b⟩
      obtain ⟨e, h1, h2⟩ := whole_int (a d hd)
      refine int_whole e h1 ?_
      have hm : asInt d ∈ xs.map asInt := List.mem_map_of_mem hd
      generalize xs.map asInt = ms at b c hm
      unfold lastLe at c
      cases hl : ms.getLast? with
      | none =>
        rw [List.getLast?_eq_none_iff] at hl
        subst hl
        cases hm
      | some y =>
        rw [hl] at c
        have c : y ≤ i := of_decide_eq_true c
        obtain ⟨ini, rfl⟩ := List.getLast?_eq_some_iff.mp hl
        rcases List.mem_append.mp hm with hm | hm
        · have := asc_snoc b _ hm
          omega
        · rw [List.mem_singleton.mp hm]
          exact c
  | _ => rfl
theorem ends_empty (aw up : PyData) : (endsL aw up).isEmpty = (isN aw && isN up) := by
  unfold endsL
  cases isN aw <;> cases isN up <;> rfl
theorem num_whole {many : Nat} (hm : many ≤ 1000000000) : numE many = wholeB 0 many := by
  funext d
  unfold numE
  cases d with
  | int i =>
    refine show ((decide (0 ≤ i) && decide (i ≤ 1000000000)) && decide (i ≤ (many : Int))) = (decide (0 ≤ i) && decide (i ≤ (many : Int))) from ?_
    by_cases h : i ≤ (many : Int)
    · rw [decide_eq_true h, decide_eq_true (show i ≤ 1000000000 by omega)]
      simp
    · rw [decide_eq_false h]
      simp
  | _ => rfl
theorem seen_eq {many : Nat} {bt an aw up : PyData} (hm : many ≤ 1000000000) (hb : (isN bt || wholeB 0 1000000000 bt) = true) : lseenB many bt an aw up = seenB many bt an aw up := by
  unfold lseenB seenB
  rw [ends_empty]
  cases hn : isN bt with
  | true =>
    rw [if_pos rfl, Bool.not_true, Bool.false_or]
    cases ht : isT0 an with
    | false => simp
    | true =>
      have e : an = .tuple [] := by
        cases an with
        | tuple xs => cases xs with
          | nil => rfl
          | cons _ _ => simp [isT0] at ht
        | _ => simp [isT0] at ht
      subst e
      cases ha : isN aw with
      | false => simp
      | true =>
        cases hu : isN up with
        | false => simp
        | true =>
          have : endsL aw up = [] := by unfold endsL; rw [ha, hu]; rfl
          rw [this]
          rfl
  | false =>
    rw [hn, Bool.false_or] at hb
    rw [if_neg (by decide), hb, num_whole hm, Bool.not_false, Bool.true_or, Bool.and_true, Bool.true_and, Bool.and_assoc]
    have hl := ends_le aw up
    generalize endsL aw up = E at hl ⊢
    cases he : E.all (wholeB 0 many) with
    | false => rfl
    | true =>
      rw [Bool.true_and, Bool.true_and]
      rw [List.all_eq_true] at he
      match E, hl, he with
      | [], _, _ => simp [topOk, oneB, minE]
      | [x], _, he =>
        obtain ⟨_, h1, h2⟩ := whole_int (he x (by simp))
        simp only [List.map_cons, List.map_nil, topOk, oneB, minE, List.all_nil, Bool.true_and]
        rw [Int.min_eq_left h2]
        exact (cnt_last h2 an).symm
      | [x, y], _, he =>
        obtain ⟨_, h1, h2⟩ := whole_int (he x (by simp))
        obtain ⟨_, h3, h4⟩ := whole_int (he y (by simp))
        simp only [List.map_cons, List.map_nil, topOk, oneB, minE, List.all_nil, List.all_cons, Bool.and_true]
        by_cases hxy : asInt x = asInt y
        · rw [decide_eq_true hxy.symm, decide_eq_true hxy, Bool.true_and, Bool.true_and, ← hxy, Int.min_eq_left h2, Int.min_self]
          exact (cnt_last h2 an).symm
        · rw [decide_eq_false (fun e => hxy e.symm), decide_eq_false hxy]
          simp
theorem eqv_tup_nil (l : List Int) : PyData.eqv (.tuple (l.map PyData.int)) (.tuple []) = decide (l = []) := by
  cases l <;> simp [PyData.eqv, PyData.eqvAll]
theorem eqv_lst_nil (l : List Int) : PyData.eqv (.list (l.map PyData.int)) (.list []) = decide (l = []) := by
  cases l <;> simp [PyData.eqv, PyData.eqvAll]
theorem shaped_tup (cs : List Int) : SeqAt.shaped (.tuple (cs.map PyData.int)) = true := by
  simp [SeqAt.shaped, PyData.canLay0, PyData.depth, lay_ints, depth_ints]
theorem testIf {t : TT} {σ : L2.St} {H : Hp} {Q : Bool → Hp → Prop} (I : Bool → Hp → Prop) (h : ∀ Q' : Bool → Hp → Prop, (∀ b H', I b H' → Q' b H') → t σ H Q') (k : ∀ b H', I b H' → Q b H') : t σ H Q := h Q k
theorem cnt_ints {m : Int} {an : PyData} (h : cntB m an = true) : ∃ xs, an = .tuple xs ∧ xs.all (wholeB 1 m) = true := by
  cases an with
  | tuple xs =>
    rw [cntB, Bool.and_eq_true] at h
    exact ⟨xs, rfl, h.1⟩
  | _ => simp [cntB] at h
section
variable {P : Program} {w : World} {K : PySem.W.Frag} {mg : Str → Option Value} {base : Heap} {tn tw tb : Tok}
def spLSeen : Sp := fun vs H Q _ => ∃ p c v0 d0 v3 d3 v4 d4 v5 d5 q n b, ∃ many : Nat, vs = [v0, .int many, v3, v4, v5] ∧ Dg p c H v0 d0 ∧ Dg p c H v3 d3 ∧ Gd q d3 n b ∧ Dg p c H v4 d4 ∧ Dg p c H v5 d5 ∧ ∀ H', Same H H' → Q (.bl (lseenB many d0 d3 d4 d5)) H'
theorem ok_lseen {f f1 f2 : Addr} {fd fd1 fd2 : FuncData} (F : Fn K mg "_law_is_seen" s__law_is_seen ["_law_boot", "_law_many", "_law_replied", "_law_away", "_law_upto"] f fd) (B : Con mg tn tw tb)
    (F__law_is_whole : Fn K mg "_law_is_whole" s__law_is_whole ["_law_thing", "_law_low", "_law_high"] f1 fd1) (F__law_are_numbers : Fn K mg "_law_are_numbers" s__law_are_numbers ["_law_thing", "_law_high"] f2 fd2) :
    FnOk P w K mg base CX0 3 f fd ["_law_boot", "_law_many", "_law_replied", "_law_away", "_law_upto"] spLSeen := by
  have G__law_is_whole : FnOk P w K mg base CX0 1 f1 fd1 ["_law_thing", "_law_low", "_law_high"] spWhole := ok_whole F__law_is_whole B
  have G__law_are_numbers : FnOk P w K mg base CX0 2 f2 fd2 ["_law_thing", "_law_high"] spLNums := ok_lnums F__law_are_numbers B F__law_is_whole
  refine F.F.ok sc__law_is_seen (fun vs H Q E h => ?_) (fun cdv A outer s H vs Q E hr h => ?_)
  · obtain ⟨p, c, v0, d0, v3, d3, v4, d4, v5, d5, _, _, _, many, rfl, _⟩ := h
    rfl
  · obtain ⟨p, c, v0, d0, v3, d3, v4, d4, v5, d5, qq, n, b, many, rfl, g0, g3, k3, g4, g5, q⟩ := h
    refine ⟨_, (pss_cons (ps_setLc (i := 5) (own := [("_law_end", 6)]) rfl sc__law_is_seen.nd rfl rfl (sw_true rfl rfl rfl (by decide +kernel)) (pi_tup (pe_tup (pa_cons (pv 3) (pa_cons (pv 4) pa_nil)))) (blkOk_by (N := N__law_is_seen) (sc := defScope s__law_is_seen) (by decide +kernel)) (fun _ _ _ _ _ => (pg_name (i := 6) sc__law_is_seen.nd rfl (Or.inl rfl))) (fun _ _ _ _ _ => (pts_one (pt_cmpR op_notN (pv 6) pe_non (nomark _)))) (fun _ _ _ _ _ => (pv 6)))
      (pss_cons (ps_if (PW.pt (pw_or (pt_cmpR (op_neD hr.units) (pe_lc (own := [("_law_end", 6)]) rfl sc__law_is_seen.nd (pi_list (pv 5)) (blkOk_by (N := N__law_is_seen) (sc := defScope s__law_is_seen) (by decide +kernel)) (fun _ _ _ _ _ => (pg_name (i := 6) sc__law_is_seen.nd rfl (Or.inl rfl))) (fun _ _ _ _ _ => (pts_one (pt_not (pt_val (pe_call G__law_is_whole (hr.mono (by decide)) (by rfl) F__law_is_whole.g F__law_is_whole.F.kp F__law_is_whole.b .nil pass0 (pa_cons (pv 6) (pa_cons pe_int (pa_cons (pv 1) pa_nil)))))))) (fun _ _ _ _ _ => pe_int)) (pe_lst pa_nil) (nomark _)) (pw_or1 (pt_not (pt_val (pe_call G__law_are_numbers (hr.mono (by decide)) (by rfl) F__law_are_numbers.g F__law_are_numbers.F.kp F__law_are_numbers.b .nil pass0 (pa_cons (pv 2) (pa_cons (pv 1) pa_nil))))))))
      (pss_one (ps_ret pe_bl))
      pss_nil)
      (pss_cons (ps_if (PW.pt (pw_and (pt_cmpR (op_neD hr.units) (pv 5) (pe_lst pa_nil) (nomark _)) (pw_and1 (PW.pt (pw_or (pt_cmpR op_ne (pe_callB (cr_min rfl) (by rfl) B.n_min (by decide +kernel) (pa_cons (pv 5) pa_nil)) (pe_callB (cr_max rfl) (by rfl) B.n_max (by decide +kernel) (pa_cons (pv 5) pa_nil)) (nomark _)) (pw_or1 (PW.pt (pw_and (pt_cmpR (op_neD hr.units) (pv 2) (pe_tup pa_nil) (nomark _)) (pw_and1 (pt_cmpR op_gt (pe_ix ix_tup (pv 2) (pe_un un_neg pe_int) (fun _ _ => rfl)) (pe_ix ix_list (pv 5) pe_int (fun _ _ => rfl)) (nomark _)))))))))))
      (pss_one (ps_ret pe_bl))
      pss_nil)
      (pss_one (ps_ret (pe_or (pe_cmpR op_notN (pv 0) pe_non (nomark _)) (pe_one (pe_and (pe_cmpR (op_eqD hr.units) (pv 2) (pe_tup pa_nil) (nomark _)) (pe_one (pe_cmpR (op_eqD hr.units) (pv 5) (pe_lst pa_nil) (nomark _))))))))))), ?_⟩
    refine ⟨_, rfl, _, rfl, sz (by show 2 ≤ 16000000; decide), fun T hT => ?_⟩
    have s1 := same_new (o := .tup [v4, v5]) hT
    have hT1 : upd H T (.tup [v4, v5]) T = some (.tup [v4, v5]) := upd_same
    generalize upd H T (.tup [v4, v5]) = H1 at s1 hT1 ⊢
    refine ⟨T, rfl, ⟨_, SqT.of hT1⟩, fun D hD => ?_⟩
    refine lc_sel (walk_tup (K := K) (a := T) (xs := [v4, v5])) (fun i => !decide (([v4, v5] : List V).getD i .non = .non)) (fun i => ([v4, v5] : List V).getD i .non) (by show 2 ≤ _; decide) hD (fun H' s => SqT.of (s _ _ hT1)) ?_ ?_
    · rintro i y H4 H5 k kf hi s4 ⟨rfl, hy⟩ hk hk0
      have ey : ([v4, v5] : List V).getD i .non = y := by rw [List.getD_eq_getElem?_getD, hy]; rfl
      rw [ey] at hk hk0
      refine ⟨rfl, _, rfl, rfl, _, rfl, ?_⟩
      cases hn : decide (y = V.non) with
      | false => exact iteT ⟨_, rfl, hk (by rw [hn]; rfl) _ (Same.refl _)⟩
      | true => exact iteF (hk0 (by rw [hn]; rfl) _ (Same.refl _))
    intro H2 s2 h2
    have s2 := s1.trans s2
    rw [show ([v4, v5] : List V).length = 2 from rfl, sel_ends] at h2
    have hE := dg_ends (g4.to (.same s2)) (g5.to (.same s2))
    have hEl := ends_le d4 d5
    unfold lseenB at q
    generalize evsL v4 v5 = vs at h2 hE
    generalize endsL d4 d5 = E at hE hEl q
    -- all ends are numbers
    refine ⟨_, rfl, D, rfl, ⟨_, SqL.of h2⟩, fun D2 hD2 => ?_⟩
    refine lc_sel (walk_list (K := K) (a := D) (xs := vs)) (fun i => !wholeB 0 many (E.getD i .none)) (fun _ => .int 1) (by rw [hE.len]; omega) hD2 (fun H' s => SqL.of (s _ _ h2)) ?_ ?_
    · rintro i y H4 H5 k k0 hi s4 ⟨rfl, hy⟩ hk hk0
      obtain ⟨d, hdi, hdg⟩ := hE.at_ hy
      rw [List.getD_eq_getElem?_getD, hdi] at hk hk0
      refine ⟨rfl, _, rfl, _, rfl, p, c, y, d, 0, many, rfl, hdg.to (.same s4), _, rfl, ?_⟩
      cases hw : wholeB 0 many d with
      | false => exact iteT (hk (by show (!wholeB 0 many d) = true; rw [hw]; rfl) _ (Same.refl _))
      | true => exact iteF (hk0 (by show (!wholeB 0 many d) = false; rw [hw]; rfl) _ (Same.refl _))
    intro H3 s3 h3
    have h23 := s3 _ _ h2
    have s3 := s2.trans s3
    refine ⟨Nat.zero_le _, fun t ht => ?_⟩
    have nD := ne_of_none h3 ht
    rw [hE.len] at h3
    refine ⟨.list (((List.range E.length).filter fun i => !wholeB 0 many (E.getD i .none)).map fun _ => .int 1), .list [], .lst (SqL.of (by rw [upd_ne nD]; exact h3)) (dp_const _), .lst (SqL.of upd_same) .nil, shaped_const _, shaped_ints [], _, rfl, ?_⟩
    rw [eqv_map_nil, none_at E (wholeB 0 many) .none]
    have h24 := same_new (o := .lst []) ht _ _ h23
    have s4 := s3.trans (same_new (o := .lst []) ht)
    clear h3 h23 nD h2
    generalize upd H3 t (.lst []) = H4 at s4 h24 ⊢
    cases he : E.all (wholeB 0 many) with
    | false =>
      rw [he, Bool.false_and, Bool.false_and] at q
      exact iteT (iteT (q _ s4))
    | true =>
    rw [he, Bool.true_and] at q
    refine iteF ?_
    refine ⟨_, rfl, _, rfl, p, c, v3, d3, qq, _, _, many, rfl, g3.to (.same s4), k3, fun H5 s5 => ⟨_, rfl, ?_⟩⟩
    have h25 := s5 _ _ h24
    have s5 := s4.trans s5
    cases hc : cntB many d3 with
    | false =>
      rw [hc, Bool.false_and] at q
      exact iteT (q _ s5)
    | true =>
    rw [hc, Bool.true_and] at q
    refine iteF ?_
    obtain ⟨rs, rfl, hrs⟩ := cnt_ints hc
    have g3 := g3.to (.same s5)
    cases g3 with
    | @tup a3 zs _ ha3 hA3 =>
    have hvs := ints_of_D hE he
    have hzs := ints_of_D hA3 hrs
    have hns : (E.map asInt).length ≤ 2 := by rw [List.length_map]; exact hEl
    have hei : E.isEmpty = decide (E.map asInt = []) := by cases E <;> rfl
    have hti : isT0 (.tuple rs) = decide (rs.map asInt = []) := by cases rs <;> rfl
    have hii : intsT (.tuple rs) = rs.map asInt := rfl
    rw [hei, hti, hii] at q
    generalize E.map asInt = ns at hvs hns q
    generalize rs.map asInt = ms at hzs q
    subst hvs
    subst hzs
    unfold tNext
    dsimp only
    unfold tSeq
    dsimp only
    unfold tIfS
    refine testIf (fun b H' => Same H5 H' ∧ b = !topOk ns ms) (fun Q' hQ' => ?_) ?_
    · refine ⟨_, rfl, Nat.zero_le _, fun t2 ht2 => ?_⟩
      have nD := ne_of_none h25 ht2
      refine ⟨.list (ns.map .int), .list [], .lst (SqL.of (by rw [upd_ne nD]; exact h25)) (dpIntsG _), .lst (SqL.of upd_same) .nil, shaped_ints _, shaped_ints [], _, rfl, ?_⟩
      rw [eqv_lst_nil]
      have s6 := same_new (o := .lst []) ht2
      have h26 := s6 _ _ h25
      have ha6 := ha3.kp (.same s6)
      generalize upd H5 t2 (.lst []) = H6 at s6 h26 ha6 ⊢
      match ns, hns, h26, hQ' with
      | [], _, _, hQ' => exact iteF (hQ' _ _ ⟨s6, rfl⟩)
      | x :: l, hns, h26, hQ' =>
        refine iteT ?_
        refine ⟨_, rfl, D, x :: l, rfl, SqL.of h26, by simp, fun lo l1 l2 => ⟨_, rfl, D, x :: l, rfl, SqL.of h26, by simp, fun hi u1 u2 => ⟨rfl, _, rfl, ?_⟩⟩⟩
        have hmm : (!decide (V.int lo = V.int hi)) = !(l.all fun y => decide (y = x)) := by
          congr 1
          rw [Bool.eq_iff_iff, decide_eq_true_eq, List.all_eq_true]
          constructor
          · intro e y hy
            injection e with e
            have a1 := l2 y (List.mem_cons_of_mem _ hy)
            have a2 := u2 y (List.mem_cons_of_mem _ hy)
            have a3 := l2 x List.mem_cons_self
            have a4 := u2 x List.mem_cons_self
            exact decide_eq_true (by omega)
          · intro h
            have e1 : lo = x := by
              rcases List.mem_cons.mp l1 with e | e
              · exact e
              · exact of_decide_eq_true (h lo e)
            have e2 : hi = x := by
              rcases List.mem_cons.mp u1 with e | e
              · exact e
              · exact of_decide_eq_true (h hi e)
            rw [e1, e2]
        rw [hmm]
        cases hall : (l.all fun y => decide (y = x)) with
        | false =>
          exact iteT (hQ' _ _ ⟨s6, by simp only [topOk, hall]; rfl⟩)
        | true =>
          refine iteF ?_
          refine ⟨_, rfl, sz (Nat.zero_le _), fun t3 ht3 => ?_⟩
          refine ⟨.tuple (ms.map .int), .tuple [], .tup (SqT.of ((ha6.kp (.same (same_new ht3))).2.2)) (dpIntsG _), .tup (SqT.of upd_same) .nil, shaped_tup _, shaped_tup [], _, rfl, ?_⟩
          rw [eqv_tup_nil]
          have s7 := same_new (o := .tup []) ht3
          have h27 := s7 _ _ h26
          have ha7 := ha6.kp (.same s7)
          have s7 := s6.trans s7
          generalize upd H6 t3 (.tup []) = H7 at s7 h27 ha7 ⊢
          cases hl : ms.getLast? with
          | none =>
            have hl0 := List.getLast?_eq_none_iff.mp hl
            subst hl0
            refine iteF (hQ' _ _ ⟨s7, ?_⟩)
            simp only [topOk, hall, lastLe, List.getLast?_nil]
            rfl
          | some y =>
            obtain ⟨ini, rfl⟩ := List.getLast?_eq_some_iff.mp hl
            rw [decide_eq_false (by simp)]
            refine iteT ?_
            refine ⟨_, rfl, _, rfl, a3, _, _, .int y, rfl, rfl, SqT.of ha7.2.2, ?_, ?_⟩
            · rw [List.map_append]
              exact atI_last _ _
            refine ⟨_, rfl, D, _, _, .int x, rfl, rfl, SqL.of h27, atI_nat (j := 0) rfl, _, _, rfl, rfl, _, rfl, ?_⟩
            have e : decide (x < y) = !topOk (x :: l) (ini ++ [y]) := by
              simp only [topOk, hall, lastLe, hl, Bool.true_and]
              rw [Bool.eq_iff_iff]
              simp
            have hq := hQ' _ H7 ⟨s7, e⟩
            exact hq
    · rintro bb H6 ⟨s6, rfl⟩
      have h26 := s6 _ _ h25
      have ha6 := ha3.kp (.same s6)
      have s6 := s5.trans s6
      cases ht : topOk ns ms with
      | false =>
        rw [ht, Bool.false_and] at q
        exact iteT (q _ s6)
      | true =>
        rw [ht, Bool.true_and] at q
        refine iteF ?_
        refine ⟨_, rfl, rfl, _, rfl, ?_⟩
        rw [g0.isN]
        cases hb : isN d0 with
        | false =>
          rw [hb, Bool.not_false, Bool.true_or] at q
          exact iteT (q _ s6)
        | true =>
          rw [hb, Bool.not_true, Bool.false_or] at q
          refine iteF ?_
          refine ⟨_, rfl, sz (Nat.zero_le _), fun t3 ht3 => ?_⟩
          refine ⟨.tuple (ms.map .int), .tuple [], .tup (SqT.of ((ha6.kp (.same (same_new ht3))).2.2)) (dpIntsG _), .tup (SqT.of upd_same) .nil, shaped_tup _, shaped_tup [], _, rfl, ?_⟩
          rw [eqv_tup_nil]
          have s7 := same_new (o := .tup []) ht3
          have h27 := s7 _ _ h26
          have s7 := s6.trans s7
          generalize upd H6 t3 (.tup []) = H7 at s7 h27 ⊢
          cases hm : decide (ms = []) with
          | false =>
            rw [hm, Bool.false_and] at q
            exact iteF (q _ s7)
          | true =>
            rw [hm, Bool.true_and] at q
            refine iteT ?_
            refine ⟨_, rfl, Nat.zero_le _, fun t4 ht4 => ?_⟩
            have nD := ne_of_none h27 ht4
            refine ⟨.list (ns.map .int), .list [], .lst (SqL.of (by rw [upd_ne nD]; exact h27)) (dpIntsG _), .lst (SqL.of upd_same) .nil, shaped_ints _, shaped_ints [], ?_⟩
            rw [eqv_lst_nil]
            exact q _ (s7.trans (same_new ht4))
end
end Ag

end
/-! ## LD -/
section
set_option linter.all false
set_option maxRecDepth 100000
set_option maxHeartbeats 4000000
namespace Ag
open PySem PySem.Spec PyProof.Rows L2
open SX (S S_len S_cat S_inj)
theorem seen_no {many : Nat} {bt an aw up : PyData} (h1 : isN bt = false) (h2 : wholeB 0 1000000000 bt = false) : seenB many bt an aw up = false := by
  unfold seenB
  rw [h1, if_neg (by decide), h2, Bool.false_and]
section
variable {P : Program} {w : World} {K : PySem.W.Frag} {mg : Str → Option Value} {base : Heap} {tn tw tb : Tok}
def spLView : Sp := fun vs H Q _ => ∃ p c v d q n b, vs = [v] ∧ Dg p c H v d ∧ Gd q d n b ∧ ∀ H', Same H H' → Q (.bl (viewB d)) H'
theorem ok_lview {f f1 f2 f3 f4 : Addr} {fd fd1 fd2 fd3 fd4 : FuncData} (F : Fn K mg "_law_is_view" s__law_is_view ["_law_thing"] f fd) (B : Con mg tn tw tb)
    (F__law_is_word : Fn K mg "_law_is_word" s__law_is_word ["_law_thing"] f1 fd1) (F__law_is_whole : Fn K mg "_law_is_whole" s__law_is_whole ["_law_thing", "_law_low", "_law_high"] f2 fd2)
    (F__law_is_body : Fn K mg "_law_is_body" s__law_is_body ["_law_thing"] f3 fd3)
    (F__law_is_seen : Fn K mg "_law_is_seen" s__law_is_seen ["_law_boot", "_law_many", "_law_replied", "_law_away", "_law_upto"] f4 fd4) (G__law_is_seen : FnOk P w K mg base CX0 3 f4 fd4 ["_law_boot", "_law_many", "_law_replied", "_law_away", "_law_upto"] spLSeen) :
    FnOk P w K mg base CX0 4 f fd ["_law_thing"] spLView := by
  have G__law_is_whole : FnOk P w K mg base CX0 1 f2 fd2 ["_law_thing", "_law_low", "_law_high"] spWhole := ok_whole F__law_is_whole B
  have G__law_is_word : FnOk P w K mg base CX0 1 f1 fd1 ["_law_thing"] spLWord := ok_lword F__law_is_word B
  have G__law_is_body : FnOk P w K mg base CX0 1 f3 fd3 ["_law_thing"] spLBody := ok_lbody F__law_is_body B
  refine F.F.ok sc__law_is_view (fun vs H Q E h => ?_) (fun cdv A outer s H vs Q E hr h => ?_)
  · obtain ⟨p, c, x, d, _, _, _, rfl, _⟩ := h
    rfl
  · obtain ⟨p, c, x, d, qq, n, b, rfl, hd, hg, q⟩ := h
    refine ⟨_, (pss_cons (ps_if (PW.pt (pw_or (pt_not (pt_val (pe_callB call_isi (by rfl) B.n_isinstance (by decide +kernel) (pa_cons (pv 0) (pa_cons (pe_bltn (v := .ty "tuple") (by rfl) B.n_tuple (by decide +kernel) rfl) pa_nil))))) (pw_or (pt_cmpR op_ne (pe_callB call_len_seq (by rfl) B.n_len PySem.boot_len (pa_cons (pv 0) pa_nil)) pe_int (nomark _)) (pw_or1 (pt_not (pt_val (pe_call G__law_is_word (hr.mono (by decide)) (by rfl) F__law_is_word.g F__law_is_word.F.kp F__law_is_word.b .nil pass0 (pa_cons (pe_ix ix_tup (pv 0) pe_int (fun _ _ => rfl)) pa_nil))))))))
      (pss_one (ps_ret pe_bl))
      pss_nil)
      (pss_cons (ps_if (PW.pt (pw_and (pt_cmpR op_notN (pe_ix ix_tup (pv 0) pe_int (fun _ _ => rfl)) pe_non (nomark _)) (pw_and1 (pt_not (pt_val (pe_call G__law_is_whole (hr.mono (by decide)) (by rfl) F__law_is_whole.g F__law_is_whole.F.kp F__law_is_whole.b .nil pass0 (pa_cons (pe_ix ix_tup (pv 0) pe_int (fun _ _ => rfl)) (pa_cons pe_int (pa_cons (pe_op op_pow pe_int pe_int) pa_nil)))))))))
      (pss_one (ps_ret pe_bl))
      pss_nil)
      (pss_cons (ps_if (PW.pt (pw_or (pt_not (pt_val (pe_callB call_isi (by rfl) B.n_isinstance (by decide +kernel) (pa_cons (pe_ix ix_tup (pv 0) pe_int (fun _ _ => rfl)) (pa_cons (pe_bltn (v := .ty "tuple") (by rfl) B.n_tuple (by decide +kernel) rfl) pa_nil))))) (pw_or1 (pt_cmpR (op_neD hr.units) (pe_lc (own := [("_law_body_here", 1)]) rfl sc__law_is_view.nd (pi_tup (pe_ix ix_tup (pv 0) pe_int (fun _ _ => rfl))) (blkOk_by (N := N__law_is_view) (sc := defScope s__law_is_view) (by decide +kernel)) (fun _ _ _ _ _ => (pg_name (i := 1) sc__law_is_view.nd rfl (Or.inl rfl))) (fun _ _ _ _ _ => (pts_one (pt_not (pt_val (pe_call G__law_is_body (hr.mono (by decide)) (by rfl) F__law_is_body.g F__law_is_body.F.kp F__law_is_body.b .nil pass0 (pa_cons (pv 1) pa_nil)))))) (fun _ _ _ _ _ => pe_int)) (pe_lst pa_nil) (nomark _)))))
      (pss_one (ps_ret pe_bl))
      pss_nil)
      (pss_cons (ps_if (PW.pt (pw_or (pt_not (pt_val (pe_callB call_isi (by rfl) B.n_isinstance (by decide +kernel) (pa_cons (pe_ix ix_tup (pv 0) pe_int (fun _ _ => rfl)) (pa_cons (pe_bltn (v := .ty "str") (by rfl) B.n_str (by decide +kernel) rfl) pa_nil))))) (pw_or1 (pt_cmpR (op_notIn2 hr.units) (pe_ix ix_tup (pv 0) pe_int (fun _ _ => rfl)) (pe_tup (pa_cons pe_str (pa_cons pe_str pa_nil))) rfl))))
      (pss_one (ps_ret pe_bl))
      pss_nil)
      (pss_one (ps_ret (pe_call G__law_is_seen (hr.mono (by decide)) (by rfl) F__law_is_seen.g F__law_is_seen.F.kp F__law_is_seen.b .nil pass0 (pa_cons (pe_ix ix_tup (pv 0) pe_int (fun _ _ => rfl)) (pa_cons (pe_callB call_len_seq (by rfl) B.n_len PySem.boot_len (pa_cons (pe_ix ix_tup (pv 0) pe_int (fun _ _ => rfl)) pa_nil)) (pa_cons (pe_ix ix_tup (pv 0) pe_int (fun _ _ => rfl)) (pa_cons (pe_ix ix_tup (pv 0) pe_int (fun _ _ => rfl)) (pa_cons (pe_ix ix_tup (pv 0) pe_int (fun _ _ => rfl)) pa_nil)))))))))))), ?_⟩
    refine ⟨_, rfl, x, .ty "tuple", _, _, _, rfl, .ty "tuple", hd.tyx, isi_T d, _, rfl, ?_⟩
    cases hd with
    | @tup a xs ds ha hA =>
      have hgA := hg.untup.1
      refine iteF ?_
      refine ⟨_, rfl, a, xs, rfl, .inr (SqT.of ha.2.2), rfl, _, rfl, ?_⟩
      have hlen := hA.len
      by_cases h7 : ds.length = 7
      · have e7 : (!decide (V.int (xs.length : Nat) = V.int 7)) = false := by
          rw [hlen, h7]
          rfl
        rw [e7]
        refine iteF ?_
        obtain ⟨d0, d1, d2, d3, d4, d5, d6, rfl⟩ := len7 h7
        obtain ⟨x0, x1, x2, x3, x4, x5, x6, rfl⟩ := len7 (hlen.trans h7)
        match hA with
        | .cons g0 (.cons g1 (.cons g2 (.cons g3 (.cons g4 (.cons g5 (.cons g6 .nil)))))) =>
        have k0 := hgA.hd.1
        have k2 := hgA.hd.2.hd.2.hd.1
        have k3 := hgA.hd.2.hd.2.hd.2.hd.1
        have k6 := hgA.hd.2.hd.2.hd.2.hd.2.hd.2.hd.2.hd.1
        have q : ∀ H', Same H H' → Q (.bl ((wordB d0 && stB d6) && (bodiesB d2 && seenB (lenT d2) d1 d3 d4 d5))) H' := q
        refine ⟨_, rfl, a, _, _, x0, rfl, rfl, SqT.of ha.2.2, atI_nat (j := 0) rfl, p, c, x0, d0, qq, _, _, rfl, g0, k0, fun H1 s1 => ⟨_, rfl, ?_⟩⟩
        cases hw : wordB d0 with
        | false =>
          rw [hw, Bool.false_and, Bool.false_and] at q
          exact iteT (q _ s1)
        | true =>
        rw [hw, Bool.true_and] at q
        refine iteF ?_
        have ha1 := ha.kp (.same s1)
        have bad : isN d1 = false → wholeB 0 1000000000 d1 = false → ∀ H', Same H H' → Q (.bl false) H' := fun b1 b2 H' s' => by
          have := q H' s'
          rw [seen_no b1 b2, Bool.and_false, Bool.and_false] at this
          exact this
        unfold tNext
        dsimp only
        unfold tSeq
        dsimp only
        unfold tIfS
        refine testIf (fun b H' => H' = H1 ∧ b = !(isN d1 || wholeB 0 1000000000 d1)) (fun Q' hQ' => ?_) ?_
        · refine ⟨_, rfl, a, _, _, x1, rfl, rfl, SqT.of ha1.2.2, atI_nat (j := 1) rfl, rfl, _, rfl, ?_⟩
          rw [g1.isN]
          cases hb1 : isN d1 with
          | true => exact iteF (hQ' _ _ ⟨rfl, by rw [hb1]; rfl⟩)
          | false =>
            refine iteT ?_
            refine ⟨_, rfl, a, _, _, x1, rfl, rfl, SqT.of ha1.2.2, atI_nat (j := 1) rfl, _, _, rfl, rfl, ⟨by decide, by decide, by decide⟩, p, c, x1, d1, 0, 1000000000, rfl, g1.to (.same s1), _, rfl, ?_⟩
            exact hQ' _ _ ⟨rfl, by rw [hb1, Bool.false_or]⟩
        rintro bb H2 ⟨rfl, rfl⟩
        cases hbt : (isN d1 || wholeB 0 1000000000 d1) with
        | false =>
          rw [Bool.or_eq_false_iff] at hbt
          exact iteT (bad hbt.1 hbt.2 _ s1)
        | true =>
        refine iteF ?_
        refine ⟨_, rfl, a, _, _, x2, rfl, rfl, SqT.of ha1.2.2, atI_nat (j := 2) rfl, x2, .ty "tuple", _, _, _, rfl, .ty "tuple", (g2.to (.same s1)).tyx, isi_T d2, _, rfl, ?_⟩
        have g2 := g2.to (.same s1)
        cases g2 with
        | @tup a2 ys es hb hB =>
          obtain ⟨k2A, hel⟩ := k2.untup
          have hyl : ys.length ≤ 60 := by rw [hB.len]; exact hel
          refine iteF ?_
          refine ⟨_, rfl, a, _, _, .ref a2, rfl, rfl, SqT.of ha1.2.2, atI_nat (j := 2) rfl, a2, rfl, ⟨_, SqT.of hb.2.2⟩, fun D hD => ?_⟩
          refine lc_sel (walk_tup (K := K) (a := a2) (xs := ys)) (fun i => !bodyB (es.getD i .none)) (fun _ => .int 1) (by omega) hD (fun H' s => SqT.of (s _ _ hb.2.2)) ?_ ?_
          · rintro i y H4 H5 k k0 hi s4 ⟨rfl, hy⟩ hk hk0
            obtain ⟨d, hdi, hdg⟩ := hB.at_ hy
            rw [List.getD_eq_getElem?_getD, hdi] at hk hk0
            refine ⟨rfl, _, rfl, p, c, y, d, qq, _, _, rfl, hdg.to (.same s4), k2A.mem d (List.mem_of_getElem? hdi), fun H6 s6 => ⟨_, rfl, ?_⟩⟩
            cases hw : bodyB d with
            | false => exact iteT (hk (by show (!bodyB d) = true; rw [hw]; rfl) _ s6)
            | true => exact iteF (hk0 (by show (!bodyB d) = false; rw [hw]; rfl) _ s6)
          intro H3 s12 h3
          have s3 := s1.trans s12
          have ha3 := ha1.kp (.same s12)
          have hb3 := hb.kp (.same s12)
          refine ⟨Nat.zero_le _, fun t ht => ?_⟩
          have nD := ne_of_none h3 ht
          rw [hB.len] at h3
          refine ⟨.list (((List.range es.length).filter fun i => !bodyB (es.getD i .none)).map fun _ => .int 1), .list [], .lst (SqL.of (by rw [upd_ne nD]; exact h3)) (dp_const _), .lst (SqL.of upd_same) .nil, shaped_const _, shaped_ints [], _, rfl, ?_⟩
          rw [eqv_map_nil, none_at es bodyB .none]
          have s4n := same_new (o := .lst []) ht
          have ha4 := ha3.kp (.same s4n)
          have hb4 := hb3.kp (.same s4n)
          have s4 := s3.trans s4n
          clear h3 nD s4n
          generalize upd H3 t (.lst []) = H4 at s4 ha4 hb4 ⊢
          have q : ∀ H', Same H H' → Q (.bl (stB d6 && (es.all bodyB && seenB es.length d1 d3 d4 d5))) H' := q
          cases hbs : es.all bodyB with
          | false =>
            rw [hbs, Bool.false_and, Bool.and_false] at q
            exact iteT (q _ s4)
          | true =>
          rw [hbs, Bool.true_and] at q
          refine iteF ?_
          have g6 := g6.to (.same s4)
          refine ⟨_, rfl, a, _, _, x6, rfl, rfl, SqT.of ha4.2.2, atI_nat (j := 6) rfl, x6, .ty "str", _, _, _, rfl, .ty "str", g6.tyx, isi_S d6, _, rfl, ?_⟩
          have notS : isS d6 = false → stB d6 = false := fun h => by
            cases d6 with
            | str z => simp [isS] at h
            | _ => rfl
          cases hS : isS d6 with
          | false =>
            rw [notS hS, Bool.false_and] at q
            exact iteT (iteT (q _ s4))
          | true =>
          refine iteF ?_
          refine ⟨_, rfl, a, _, _, x6, rfl, rfl, SqT.of ha4.2.2, atI_nat (j := 6) rfl, sz (by show 2 ≤ 16000000; decide), fun t2 ht2 => ?_⟩
          have s5n := same_new (o := .tup [V.str (Str.ofString "open"), V.str (Str.ofString "broken")]) ht2
          refine ⟨p, c, d6, t2, _, _, g6.to (.same s5n), rfl, upd_same, _, rfl, ?_⟩
          refine show if (!stB d6) = true then _ else _ from ?_
          have ha5 := ha4.kp (.same s5n)
          have hb5 := hb4.kp (.same s5n)
          have s5 := s4.trans s5n
          clear s5n
          generalize upd H4 t2 (.tup [V.str (Str.ofString "open"), V.str (Str.ofString "broken")]) = H5 at s5 ha5 hb5 ⊢
          cases hst : stB d6 with
          | false =>
            rw [hst, Bool.false_and] at q
            exact iteT (q _ s5)
          | true =>
          rw [hst, Bool.true_and] at q
          refine iteF ?_
          have at5 : SqT K H5 a _ := SqT.of ha5.2.2
          refine ⟨_, rfl, a, _, _, x1, rfl, rfl, at5, atI_nat (j := 1) rfl, _, rfl, a, _, _, .ref a2, rfl, rfl, at5, atI_nat (j := 2) rfl, a2, ys, rfl, .inr (SqT.of hb5.2.2), _, rfl, a, _, _, x3, rfl, rfl, at5, atI_nat (j := 3) rfl, _, rfl, a, _, _, x4, rfl, rfl, at5, atI_nat (j := 4) rfl, _, rfl, a, _, _, x5, rfl, rfl, at5, atI_nat (j := 5) rfl, ?_⟩
          refine ⟨p, c, x1, d1, x3, d3, x4, d4, x5, d5, qq, _, _, ys.length, rfl, g1.to (.same s5), g3.to (.same s5), k3, g4.to (.same s5), g5.to (.same s5), fun H6 s6 => ?_⟩
          rw [hB.len, seen_eq (by omega) hbt]
          exact q _ (s5.trans s6)
        | _ =>
          have e : ∀ H', Same H H' → Q (.bl false) H' := fun H' s' => by
            have := q H' s'
            rw [show bodiesB _ = false from rfl, Bool.false_and, Bool.and_false] at this
            exact this
          exact iteT (iteT (e _ s1))
      · have e7 : (!decide (V.int (xs.length : Nat) = V.int 7)) = true := by
          rw [hlen]
          rw [decide_eq_false]
          · rfl
          · intro z
            injection z with z
            omega
        rw [e7]
        rw [view7 h7] at q
        exact iteT (iteT (q _ (Same.refl _)))
    | _ => exact iteT (iteT (q _ (Same.refl _)))
end
end Ag

end
/-! ## LE -/
section
set_option linter.all false
set_option maxRecDepth 100000
set_option maxHeartbeats 4000000
namespace Ag
open PySem PySem.Spec PyProof.Rows L2
open SX (S S_len S_cat S_inj)
theorem strs_of {P : List Nat → Prop} : ∀ {xs : List V}, (∀ (i : Nat) y, xs[i]? = some y → ∃ z, P z ∧ y = V.str (S z)) → ∃ zs : List (List Nat), xs = (zs.map S).map V.str ∧ ∀ z ∈ zs, P z
  | [], _ => ⟨[], rfl, fun _ h => by cases h⟩
  | x :: xs, h => by
    obtain ⟨z, hz, rfl⟩ := h 0 x rfl
    obtain ⟨zs, rfl, hp⟩ := strs_of (xs := xs) fun i y hy => h (i + 1) y (by simpa using hy)
    refine ⟨z :: zs, rfl, fun u hu => ?_⟩
    rcases List.mem_cons.mp hu with rfl | hu
    · exact hz
    · exact hp u hu
theorem joinL_nil : ∀ zs : List (List Nat), TL.joinL [] zs = zs.flatten
  | [] => rfl
  | [p] => by simp [TL.joinL]
  | p :: q :: r => by
    show p ++ ([] ++ TL.joinL [] (q :: r)) = _
    rw [joinL_nil (q :: r)]
    simp
theorem len_sum {zs : List (List Nat)} : ((zs.map S).map (·.length)).sum = zs.flatten.length := by
  rw [SX.lens, List.length_flatten]
theorem flat_le {zs : List (List Nat)} {k : Nat} (h : ∀ z ∈ zs, z.length ≤ k) : zs.flatten.length ≤ zs.length * k := by
  induction zs with
  | nil => simp
  | cons z zs ih =>
    have h1 := h z List.mem_cons_self
    have h2 := ih fun u hu => h u (List.mem_cons_of_mem _ hu)
    simp only [List.flatten_cons, List.length_append, List.length_cons, Nat.add_mul, Nat.one_mul]
    omega
theorem lc_some {J : It} {n : Nat} {G : Hp → Prop} {Y : Nat → Hp → V → Hp → Prop} (w : Walk J n G Y) {g : TG} {tt : TT} {te : TE} {vs : List Nat} {σ : L2.St} {H1 : Hp} {D : Addr} {Qd : Hp → Prop} (R : Hp → Prop) (v : V → Prop) (hn : n ≤ 16000000) (r0 : R H1) (rD : ∀ H o, R H → R (upd H D o)) (hG : ∀ H, R H → G H)
    (hs : ∀ i x H H' xs (k : VK) (k0 : Hp → Prop), i < n → R H → H D = some (.lst xs) → Y i H x H' → (∀ y H4, v y → R H4 → H4 D = some (.lst xs) → k y H4) → (∀ H4, R H4 → H4 D = some (.lst xs) → k0 H4) →
      g x (wipe σ vs) H' fun σ2 H2 => wipe σ2 vs = wipe σ vs ∧ tt σ2 H2 fun b H3 => if b = true then te σ2 H3 k else k0 H3)
    (hd : ∀ H xs, xs.length ≤ n → (∀ y ∈ xs, v y) → R H → H D = some (.lst xs) → Qd H) :
    ∃ W : Nat → Nat → Hp → Prop, (∃ m, W 0 m (upd H1 D (.lst []))) ∧ ∀ i m H, W i m H →
      (J.stop i H ∧ Qd H) ∨ (J.go i H ∧ ∃ Nx : Hp → Prop, (∀ H', Nx H' → ∃ m', m' < m ∧ W (i + 1) m' H') ∧ ∀ x H', J.yld i H x H' → g x (wipe σ vs) H' fun σ2 H2 => wipe σ2 vs = wipe σ vs ∧ tt σ2 H2 fun b H3 =>
        if b = true then te σ2 H3 fun y H4 => ∃ acc, H4 D = some (.lst acc) ∧ acc.length < sizeLine ∧ Nx (upd H4 D (.lst (acc ++ [y]))) else Nx H3) := by
  refine lc_it (g := g) (tt := tt) (te := te) (vs := vs) (σ := σ) w (fun i H => ∃ xs : List V, xs.length ≤ i ∧ (∀ y ∈ xs, v y) ∧ R H ∧ H D = some (.lst xs)) ⟨[], Nat.le_refl _, fun y h => by simp at h, rD _ _ r0, upd_same⟩ (fun i H hi p => ?_) (fun i x H H' hi p hy => ?_) (fun H p => ?_)
  · obtain ⟨xs, _, _, r, _⟩ := p
    exact hG H r
  · obtain ⟨xs, hl, hv, r, hD⟩ := p
    refine hs i x H H' xs _ _ hi r hD hy ?_ ?_
    · rintro y H4 hvy r4 h4
      refine ⟨xs, h4, ?_, xs ++ [y], by simp; omega, fun z hz => ?_, rD _ _ r4, upd_same⟩
      · rw [sizeLine_eq]; omega
      · rcases List.mem_append.mp hz with hz | hz
        · exact hv z hz
        · rw [List.mem_singleton.mp hz]
          exact hvy
    · rintro H4 r4 h4
      exact ⟨xs, by omega, hv, r4, h4⟩
  · obtain ⟨xs, hl, hv, r, hD⟩ := p
    exact hd H xs hl hv r hD
theorem emptyS : (Str.ofString "") = S [] := by decide +kernel
theorem tildeS : (Str.ofString "~") = S [126] := by decide +kernel
theorem aS : (Str.ofString "a") = S [97] := by decide +kernel
theorem bS : (Str.ofString "b") = S [98] := by decide +kernel
theorem menuS : (Str.ofString "abcxyz 019:,~!") = S [97,98,99,120,121,122,32,48,49,57,58,44,126,33] := by decide +kernel
theorem azzS : (Str.ofString "abcdefghijklmnopqrstuvwxyz") = S ((List.range 26).map (· + 97)) := by decide +kernel
def asc (l : List Nat) : Prop := l.all (· < 128) = true
theorem asc_flat {zs : List (List Nat)} (h : ∀ z ∈ zs, asc z) : asc zs.flatten := by
  unfold asc at *
  rw [List.all_flatten, List.all_eq_true]
  exact h
theorem okS {l : List Nat} (h : asc l) (h2 : l.length ≤ 300) : strOkB (S l) = true := by
  simp only [strOkB, Bool.and_eq_true, decide_eq_true_eq]
  exact ⟨h, by rw [show (S l).cps.size = l.length from List.size_toArray ..]; exact h2⟩
theorem szS (l : List Nat) : (S l).cps.size = l.length := List.size_toArray ..
theorem Gx.kp {p c : Addr} {H H' : Hp} (g : Gx p c H H') : Kp p c H H' := g.1
/-- any good data comes out -/
def Outs (p c : Addr) (H : Hp) (G : PyData → Prop) (Q : VK) : Prop := ∀ v d H', Gx p c H H' → Dg p c H' v d → G d → Q v H'
section
variable {P : Program} {w : World} {K : PySem.W.Frag} {mg : Str → Option Value} {base : Heap} {tn tw tb : Tok}
def okB (x : Str) : Prop := strOkB x = true ∧ x.cps.size ≤ 150
def spMkBody : Sp := fun vs H Q _ => ∃ (p c : Addr), vs = [.ref p] ∧ Dk p c H ∧ ∀ (x : Str) H', okB x → Gx p c H H' → Q (.str x) H'
theorem ok_mkbody {f f1 f2 : Addr} {fd fd1 fd2 : FuncData} (F : Fn K mg "_law_body" s__law_body ["_law_deck"] f fd) (B : Con mg tn tw tb) (F__law_draw : Fn K mg "_law_draw" s__law_draw ["_law_deck", "_law_many"] f1 fd1) (F__law_pick : Fn K mg "_law_pick" s__law_pick ["_law_deck", "_law_some_here"] f2 fd2) :
    FnOk P w K mg base CX0 3 f fd ["_law_deck"] spMkBody := by
  have G__law_draw : FnOk P w K mg base CX0 1 f1 fd1 ["_law_deck", "_law_many"] spDraw := ok_draw F__law_draw B.toBlt
  have G__law_pick : FnOk P w K mg base CX0 2 f2 fd2 ["_law_deck", "_law_some_here"] spPick := ok_pick F__law_pick B.toBlt F__law_draw
  refine F.F.ok sc__law_body (fun vs H Q E h => ?_) (fun cdv A outer s H vs Q E hr h => ?_)
  · obtain ⟨p, c, rfl, _⟩ := h
    rfl
  · obtain ⟨p, c, rfl, dk, q⟩ := h
    refine ⟨_, (pss_cons (ps_set (i := 1) sc__law_body.nd rfl (.inl rfl) (pe_call G__law_draw (hr.mono (by decide)) (by rfl) F__law_draw.g F__law_draw.F.kp F__law_draw.b .nil pass0 (pa_cons (pv 0) (pa_cons pe_int pa_nil))))
      (pss_cons (ps_if (pt_cmpR op_lt (pv 1) pe_int (nomark _))
      (pss_one (ps_ret (pe_join pe_str (pe_lc (own := [("_law_sign", 2)]) rfl sc__law_body.nd (pi_range1 (by rfl) B.n_range (pa_cons (pe_call G__law_draw (hr.mono (by decide)) (by rfl) F__law_draw.g F__law_draw.F.kp F__law_draw.b .nil pass0 (pa_cons (pv 0) (pa_cons pe_int pa_nil))) pa_nil)) (blkOk_by (N := N__law_body) (sc := defScope s__law_body) (by decide +kernel)) (fun _ _ _ _ _ => (pg_name (i := 2) sc__law_body.nd rfl (Or.inl rfl))) (fun _ _ _ _ _ => pts_nil) (fun _ _ _ _ _ => (pe_call G__law_pick (hr.mono (by decide)) (by rfl) F__law_pick.g F__law_pick.F.kp F__law_pick.b .nil pass0 (pa_cons (pv 0) (pa_cons pe_str pa_nil))))))))
      pss_nil)
      (pss_one (ps_ret (pe_call G__law_pick (hr.mono (by decide)) (by rfl) F__law_pick.g F__law_pick.F.kp F__law_pick.b .nil pass0 (pa_cons (pv 0) (pa_cons (pe_lst (pa_cons pe_str (pa_cons pe_str (pa_cons pe_str (pa_cons pe_str (pa_cons (pe_op op_rep_str pe_str pe_int) (pa_cons (pe_op op_rep_str pe_str pe_int) (pa_cons pe_str (pa_cons (pe_op op_rep_str pe_str pe_int) pa_nil))))))))) pa_nil))))))), ?_⟩
    refine ⟨_, rfl, p, c, 8, rfl, dk, by decide, by decide, fun way H1 hway g1 => ?_⟩
    refine ⟨_, rfl, _, _, rfl, rfl, _, rfl, ite2 (fun _ => ?_) (fun _ => ?_)⟩
    · refine ⟨⟨_, rfl⟩, _, rfl, p, c, 7, rfl, g1.2, by decide, by decide, fun m H2 hm g2 => ⟨_, rfl, by omega, by omega, fun D hD => ?_⟩⟩
      have g2 := g1.trans g2
      have nD := g2.2.ne hD
      have hD0 := g2.free dk hD
      have hmm : ((m : Int)).toNat = m := by simp
      refine lc_all (walk_range (lo := 0) (n := ((m : Int)).toNat)) (fun H' => Gx p c H H') (fun _ y => ∃ z, (asc z ∧ z.length ≤ 1) ∧ y = .str (S z)) (by rw [hmm]; omega) g2 (fun H' o g => g.put dk hD0 nD) (fun _ _ => trivial) ?_ ?_
      · rintro i x Ha Hb xs k hi g hxs ⟨rfl, rfl⟩ hk
        refine ⟨rfl, _, rfl, p, c, _, rfl, g.2, .inr ⟨_, congrArg V.str menuS, by decide, by decide, fun r d H8 hd g8 => ?_⟩⟩
        refine hk _ _ ⟨[d], ⟨?_, by simp⟩, rfl⟩ (g.trans g8) (g8.1 D _ nD.1 nD.2 hxs)
        have : ∀ d ∈ ([97,98,99,120,121,122,32,48,49,57,58,44,126,33] : List Nat), d < 128 := by decide
        have := this d (List.mem_of_getElem? hd)
        unfold asc
        simpa using this
      · rintro H' xs hl hv g hxs
        obtain ⟨zs, rfl, hz⟩ := strs_of (P := fun z => asc z ∧ z.length ≤ 1) (fun i y hy => hv i y hy)
        have hzl : zs.length = m := by rw [← hmm, ← hl]; simp
        have hfl : zs.flatten.length ≤ m := by
          have := flat_le (k := 1) fun z hz' => (hz z hz').2
          omega
        refine ⟨_, D, zs.map S, rfl, rfl, .inl (SqL.of hxs), ?_, ?_⟩
        · rw [len_sum, emptyS, S_len, List.length_nil, Nat.mul_zero]
          omega
        · rw [emptyS, SX.join_S, joinL_nil]
          exact q _ _ ⟨okS (asc_flat fun z hz' => (hz z hz').1) (by omega), by rw [szS]; omega⟩ g
    · have rp : ∀ n : Nat, n ≤ 150 → ∀ ch : Nat, ch < 128 → okB (S (List.replicate n [ch]).flatten) := by
        intro n hn ch hch
        have hl : (List.replicate n [ch]).flatten.length = n := by rw [List.length_flatten]; simp
        refine ⟨okS (asc_flat fun z hz => ?_) (by omega), by rw [szS]; omega⟩
        rw [(List.mem_replicate.mp hz).2]
        unfold asc
        simpa using hch
      refine ⟨_, rfl, [126], 9, congrArg V.str tildeS, rfl, by decide, by decide, by decide, [97], 150, congrArg V.str aS, rfl, by decide, by decide, by decide, [98], 30, congrArg V.str bS, rfl, by decide, by decide, by decide, sz (by show 8 ≤ 16000000; decide), fun a ha => ?_⟩
      have g2 := g1.trans (Gx.new (o := .lst [.str (Str.ofString ""), .str (Str.ofString "x"), .str (Str.ofString "ab"), .str (Str.ofString " "), .str (S (List.replicate 9 [126]).flatten), .str (S (List.replicate 150 [97]).flatten), .str (Str.ofString "0:,"), .str (S (List.replicate 30 [98]).flatten)]) g1.2 ha)
      have a2 := At.new (o := .lst [.str (Str.ofString ""), .str (Str.ofString "x"), .str (Str.ofString "ab"), .str (Str.ofString " "), .str (S (List.replicate 9 [126]).flatten), .str (S (List.replicate 150 [97]).flatten), .str (Str.ofString "0:,"), .str (S (List.replicate 30 [98]).flatten)]) g1.2 ha
      refine ⟨p, c, .ref a, rfl, g2.2, .inl ⟨a, _, rfl, a2, (by show 1 ≤ 8; decide), (by show 8 ≤ 100000; decide), fun r x H8 hx g8 => ?_⟩⟩
      have mem := List.mem_of_getElem? hx
      have fin : ∀ t : Str, okB t → x = .str t → Q x H8 := fun t ht e => by
        rw [e]
        exact q t H8 ht (g2.trans g8)
      simp only [List.mem_cons, List.not_mem_nil, or_false] at mem
      rcases mem with h | h | h | h | h | h | h | h
      · exact fin _ (by unfold okB; decide +kernel) h
      · exact fin _ (by unfold okB; decide +kernel) h
      · exact fin _ (by unfold okB; decide +kernel) h
      · exact fin _ (by unfold okB; decide +kernel) h
      · exact fin _ (rp 9 (by decide) 126 (by decide)) h
      · exact fin _ (rp 150 (by decide) 97 (by decide)) h
      · exact fin _ (by unfold okB; decide +kernel) h
      · exact fin _ (rp 30 (by decide) 98 (by decide)) h
def bodiesG (many : Nat) (d : PyData) : Prop := ∃ ds, d = .tuple ds ∧ ds.length = many ∧ (∀ q, GdA q ds 0 (many * 151)) ∧ ∀ d ∈ ds, ∃ x : Str, d = .str x ∧ okB x
def spMkBodies : Sp := fun vs H Q _ => ∃ (p c : Addr) (many : Nat), vs = [.ref p, .int many] ∧ Dk p c H ∧ many ≤ 40 ∧ Outs p c H (bodiesG many) Q
theorem strs_dg {p c : Addr} {H : Hp} : ∀ {xs : List V}, (∀ (i : Nat) y, xs[i]? = some y → ∃ x : Str, okB x ∧ y = V.str x) → ∃ ds, DgA p c H xs ds ∧ ds.length = xs.length ∧ (∀ q, GdA q ds 0 (xs.length * 151)) ∧ ∀ d ∈ ds, ∃ x : Str, d = .str x ∧ okB x
  | [], _ => ⟨[], .nil, rfl, fun _ => .nil, fun d hd => by cases hd⟩
  | x :: xs, h => by
    obtain ⟨z, hz, rfl⟩ := h 0 x rfl
    obtain ⟨ds, h1, h2, h3, h4⟩ := strs_dg (p := p) (c := c) (H := H) (xs := xs) fun i y hy => h (i + 1) y (by simpa using hy)
    refine ⟨.str z :: ds, .cons (.str z) h1, by simp [h2], fun q => .cons (b1 := 150) (.str hz.1 hz.2) (h3 q) ?_, fun d hd => ?_⟩
    · rw [List.length_cons]
      omega
    · rcases List.mem_cons.mp hd with rfl | hd
      · exact ⟨z, rfl, hz⟩
      · exact h4 d hd
theorem ok_mkbodies {f f1 : Addr} {fd fd1 : FuncData} (F : Fn K mg "_law_bodies" s__law_bodies ["_law_deck", "_law_many"] f fd) (B : Con mg tn tw tb) (F__law_body : Fn K mg "_law_body" s__law_body ["_law_deck"] f1 fd1)
    (G__law_body : FnOk P w K mg base CX0 3 f1 fd1 ["_law_deck"] spMkBody) : FnOk P w K mg base CX0 4 f fd ["_law_deck", "_law_many"] spMkBodies := by
  refine F.F.ok sc__law_bodies (fun vs H Q E h => ?_) (fun cdv A outer s H vs Q E hr h => ?_)
  · obtain ⟨p, c, m, rfl, _⟩ := h
    rfl
  · obtain ⟨p, c, m, rfl, dk, hm, q⟩ := h
    refine ⟨_, (pss_one (ps_ret (pe_callTy call_tuple_of (by rfl) B.n_tuple (by decide +kernel) (pa_cons (pe_lc (own := [("_law_turn", 2)]) rfl sc__law_bodies.nd (pi_range1 (by rfl) B.n_range (pa_cons (pv 1) pa_nil)) (blkOk_by (N := N__law_bodies) (sc := defScope s__law_bodies) (by decide +kernel)) (fun _ _ _ _ _ => (pg_name (i := 2) sc__law_bodies.nd rfl (Or.inl rfl))) (fun _ _ _ _ _ => pts_nil) (fun _ _ _ _ _ => (pe_call G__law_body (hr.mono (by decide)) (by rfl) F__law_body.g F__law_body.F.kp F__law_body.b .nil pass0 (pa_cons (pv 0) pa_nil)))) pa_nil)))), ?_⟩
    refine ⟨_, rfl, _, rfl, by omega, by omega, fun D hD => ?_⟩
    have nD := dk.ne hD
    have hmm : ((m : Int)).toNat = m := by simp
    refine lc_all (walk_range (lo := 0) (n := ((m : Int)).toNat)) (fun H' => Gx p c H H') (fun _ y => ∃ x : Str, okB x ∧ y = V.str x) (by rw [hmm]; omega) (Gx.refl dk) (fun H' o g => g.put dk hD nD) (fun _ _ => trivial) ?_ ?_
    · rintro i x Ha Hb xs k hi g hxs ⟨rfl, rfl⟩ hk
      exact ⟨rfl, _, rfl, p, c, rfl, g.2, fun x H8 hx g8 => hk _ _ ⟨x, hx, rfl⟩ (g.trans g8) (g8.1 D _ nD.1 nD.2 hxs)⟩
    · rintro H' xs hl hv g hxs
      refine ⟨D, xs, rfl, .inl ⟨SqL.of hxs, fun l hl2 => ?_⟩⟩
      obtain ⟨ds, h1, h2, h3, h4⟩ := strs_dg (p := p) (c := c) (H := upd H' l (.tup xs)) (fun i y hy => hv i y hy)
      have g2 := g.trans (Gx.new (o := .tup xs) g.2 hl2)
      refine q _ (.tuple ds) _ g2 (.tup (At.new g.2 hl2) h1) ⟨ds, rfl, by rw [h2, hl, hmm], fun q => ?_, h4⟩
      have := h3 q
      rw [hl, hmm] at this
      exact this
def spMkWord : Sp := fun vs H Q _ => ∃ (p c : Addr), vs = [.ref p] ∧ Dk p c H ∧ ∀ (x : Str) H', strOkB x = true → x.cps.size ≤ 10 → Gx p c H H' → Q (.str x) H'
theorem ok_mkword {f f2 f1 : Addr} {fd fd2 fd1 : FuncData} (F : Fn K mg "_law_word" s__law_word ["_law_deck"] f fd) (B : Con mg tn tw tb) (F__law_draw : Fn K mg "_law_draw" s__law_draw ["_law_deck", "_law_many"] f1 fd1) (F__law_pick : Fn K mg "_law_pick" s__law_pick ["_law_deck", "_law_some_here"] f2 fd2) :
    FnOk P w K mg base CX0 3 f fd ["_law_deck"] spMkWord := by
  have G__law_pick : FnOk P w K mg base CX0 2 f2 fd2 ["_law_deck", "_law_some_here"] spPick := ok_pick F__law_pick B.toBlt F__law_draw
  refine F.F.ok sc__law_word (fun vs H Q E h => ?_) (fun cdv A outer s H vs Q E hr h => ?_)
  · obtain ⟨p, c, rfl, _⟩ := h
    rfl
  · obtain ⟨p, c, rfl, dk, q⟩ := h
    refine ⟨_, (pss_cons (ps_setLc (i := 1) (own := [("_law_sign", 2)]) rfl sc__law_word.nd rfl rfl (sw_true rfl rfl rfl (by decide +kernel)) (pi_range1 (by rfl) B.n_range (pa_cons (pe_call G__law_pick (hr.mono (by decide)) (by rfl) F__law_pick.g F__law_pick.F.kp F__law_pick.b .nil pass0 (pa_cons (pv 0) (pa_cons (pe_lst (pa_cons pe_int (pa_cons pe_int (pa_cons pe_int (pa_cons pe_int pa_nil))))) pa_nil))) pa_nil)) (blkOk_by (N := N__law_word) (sc := defScope s__law_word) (by decide +kernel)) (fun _ _ _ _ _ => (pg_name (i := 2) sc__law_word.nd rfl (Or.inl rfl))) (fun _ _ _ _ _ => pts_nil) (fun _ _ _ _ _ => (pe_call G__law_pick (hr.mono (by decide)) (by rfl) F__law_pick.g F__law_pick.F.kp F__law_pick.b .nil pass0 (pa_cons (pv 0) (pa_cons pe_str pa_nil)))))
      (pss_one (ps_ret (pe_join pe_str (pv 1))))), ?_⟩
    refine ⟨_, rfl, sz (by show 4 ≤ 16000000; decide), fun a ha => ?_⟩
    have g1 := Gx.new (o := .lst [.int 3, .int 1, .int 10, .int 2]) dk ha
    have a1 := At.new (o := .lst [.int 3, .int 1, .int 10, .int 2]) dk ha
    refine ⟨p, c, .ref a, rfl, g1.2, .inl ⟨a, _, rfl, a1, (by show 1 ≤ 4; decide), (by show 4 ≤ 100000; decide), fun r x H2 hx g2 => ?_⟩⟩
    have g2 := g1.trans g2
    obtain ⟨m, hm, rfl⟩ : ∃ m : Nat, m ≤ 10 ∧ x = .int (m : Int) := by
      have mem := List.mem_of_getElem? hx
      simp only [List.mem_cons, List.not_mem_nil, or_false] at mem
      rcases mem with rfl | rfl | rfl | rfl
      · exact ⟨3, by decide, rfl⟩
      · exact ⟨1, by decide, rfl⟩
      · exact ⟨10, by decide, rfl⟩
      · exact ⟨2, by decide, rfl⟩
    refine ⟨_, rfl, by omega, by omega, fun D hD => ?_⟩
    have nD := g2.2.ne hD
    have hD0 := g2.free dk hD
    have hmm : ((m : Int)).toNat = m := by simp
    refine lc_all (walk_range (lo := 0) (n := ((m : Int)).toNat)) (fun H' => Gx p c H H') (fun _ y => ∃ z, (asc z ∧ z.length ≤ 1) ∧ y = .str (S z)) (by rw [hmm]; omega) g2 (fun H' o g => g.put dk hD0 nD) (fun _ _ => trivial) ?_ ?_
    · rintro i x Ha Hb xs k hi g hxs ⟨rfl, rfl⟩ hk
      refine ⟨rfl, _, rfl, p, c, _, rfl, g.2, .inr ⟨_, congrArg V.str azzS, by decide, by decide, fun r d H8 hd g8 => ?_⟩⟩
      refine hk _ _ ⟨[d], ⟨?_, by simp⟩, rfl⟩ (g.trans g8) (g8.1 D _ nD.1 nD.2 hxs)
      have := List.mem_of_getElem? hd
      obtain ⟨e, he, rfl⟩ := List.mem_map.mp this
      have he := List.mem_range.mp he
      unfold asc
      simp
      omega
    · rintro H' xs hl hv g hxs
      obtain ⟨zs, rfl, hz⟩ := strs_of (P := fun z => asc z ∧ z.length ≤ 1) (fun i y hy => hv i y hy)
      have hzl : zs.length = m := by rw [← hmm, ← hl]; simp
      have hfl : zs.flatten.length ≤ m := by
        have := flat_le (k := 1) fun z hz' => (hz z hz').2
        omega
      refine ⟨⟨_, rfl⟩, _, rfl, _, D, zs.map S, rfl, rfl, .inl (SqL.of hxs), ?_, ?_⟩
      · rw [len_sum, emptyS, S_len, List.length_nil, Nat.mul_zero]
        omega
      · rw [emptyS, SX.join_S, joinL_nil]
        exact q _ _ (okS (asc_flat fun z hz' => (hz z hz').1) (by omega)) (by rw [szS]; omega) g
def someG (many : Nat) (d : PyData) : Prop := ∃ ns : List Int, d = .tuple (ns.map .int) ∧ ns.length ≤ many ∧ ∀ k ∈ ns, 1 ≤ k ∧ k ≤ many
def spSome : Sp := fun vs H Q _ => ∃ (p c : Addr) (many : Nat), vs = [.ref p, .int many] ∧ Dk p c H ∧ many ≤ 41 ∧ Outs p c H (someG many) Q
theorem dg_ints {p c : Addr} {H : Hp} : ∀ ns : List Int, DgA p c H (ns.map V.int) (ns.map PyData.int)
  | [] => .nil
  | n :: ns => .cons (.int n) (dg_ints ns)
theorem gd_ints {q : Bool} {n : Nat} : ∀ {ns : List Int}, (∀ k ∈ ns, intOk k = true) → GdA q (ns.map PyData.int) n ns.length
  | [], _ => .nil
  | k :: ns, h => by
    rw [List.map_cons]
    exact .cons (b1 := 0) (.int (h k List.mem_cons_self)) (gd_ints fun j hj => h j (List.mem_cons_of_mem _ hj)) (by rw [List.length_cons]; omega)
theorem ints_some {many : Nat} : ∀ {xs : List V}, (∀ y ∈ xs, ∃ k : Int, (1 ≤ k ∧ k ≤ many) ∧ y = V.int k) → ∃ ns : List Int, xs = ns.map V.int ∧ ∀ k ∈ ns, 1 ≤ k ∧ k ≤ many
  | [], _ => ⟨[], rfl, fun _ h => by cases h⟩
  | x :: xs, h => by
    obtain ⟨k, hk, rfl⟩ := h x List.mem_cons_self
    obtain ⟨ns, rfl, hn⟩ := ints_some (xs := xs) fun y hy => h y (List.mem_cons_of_mem _ hy)
    refine ⟨k :: ns, rfl, fun j hj => ?_⟩
    rcases List.mem_cons.mp hj with rfl | hj
    · exact hk
    · exact hn j hj
theorem ok_some {f f1 : Addr} {fd fd1 : FuncData} (F : Fn K mg "_law_some" s__law_some ["_law_deck", "_law_many"] f fd) (B : Con mg tn tw tb) (F__law_draw : Fn K mg "_law_draw" s__law_draw ["_law_deck", "_law_many"] f1 fd1) :
    FnOk P w K mg base CX0 2 f fd ["_law_deck", "_law_many"] spSome := by
  have G__law_draw : FnOk P w K mg base CX0 1 f1 fd1 ["_law_deck", "_law_many"] spDraw := ok_draw F__law_draw B.toBlt
  refine F.F.ok sc__law_some (fun vs H Q E h => ?_) (fun cdv A outer s H vs Q E hr h => ?_)
  · obtain ⟨p, c, m, rfl, _⟩ := h
    rfl
  · obtain ⟨p, c, m, rfl, dk, hm, q⟩ := h
    refine ⟨_, (pss_cons (ps_set (i := 2) sc__law_some.nd rfl (.inr rfl) (pe_op op_add pe_int (pe_call G__law_draw (hr.mono (by decide)) (by rfl) F__law_draw.g F__law_draw.F.kp F__law_draw.b .nil pass0 (pa_cons (pv 0) (pa_cons pe_int pa_nil)))))
      (pss_one (ps_ret (pe_callTy call_tuple_of (by rfl) B.n_tuple (by decide +kernel) (pa_cons (pe_lc (own := [("_law_n", 3)]) rfl sc__law_some.nd (pi_range2 (by rfl) B.n_range (pa_cons pe_int (pa_cons (pe_op op_add (pv 1) pe_int) pa_nil))) (blkOk_by (N := N__law_some) (sc := defScope s__law_some) (by decide +kernel)) (fun _ _ _ _ _ => (pg_name (i := 3) sc__law_some.nd rfl (Or.inl rfl))) (fun _ _ _ _ _ => (pts_one (pt_cmpR op_lt (pe_call G__law_draw (hr.mono (by decide)) (by rfl) F__law_draw.g F__law_draw.F.kp F__law_draw.b .nil pass0 (pa_cons (pv 0) (pa_cons pe_int pa_nil))) (pv 2) (nomark _)))) (fun _ _ _ _ _ => (pv 3))) pa_nil))))), ?_⟩
    refine ⟨_, rfl, p, c, 4, rfl, dk, by decide, by decide, fun sh H1 hsh g1 => ⟨_, _, rfl, rfl, ?_⟩⟩
    refine ⟨_, rfl, _, _, rfl, rfl, 1, (m : Int) + 1, rfl, ?_, fun D hD => ?_⟩
    · omega
    have nD := g1.2.ne hD
    have hD0 := g1.free dk hD
    have hmm : ((m : Int) + 1 - 1).toNat = m := by omega
    refine lc_some (walk_range (lo := 1) (n := ((m : Int) + 1 - 1).toNat)) (fun H' => Gx p c H H') (fun y => ∃ k : Int, (1 ≤ k ∧ k ≤ m) ∧ y = V.int k) (by rw [hmm]; omega) g1 (fun H' o g => g.put dk hD0 nD) (fun _ _ => trivial) ?_ ?_
    · rintro i x Ha Hb xs k k0 hi g hxs ⟨rfl, rfl⟩ hk hk0
      rw [hmm] at hi
      refine ⟨rfl, _, rfl, p, c, 5, rfl, g.2, by decide, by decide, fun r H3 hr g3 => ?_⟩
      have hx3 := g3.1 D _ nD.1 nD.2 hxs
      refine ⟨_, rfl, _, _, rfl, rfl, _, rfl, ite2 (fun _ => ?_) (fun _ => ?_)⟩
      · exact ⟨_, rfl, hk _ _ ⟨1 + (i : Int), ⟨by omega, by omega⟩, rfl⟩ (g.trans g3) hx3⟩
      · exact hk0 _ (g.trans g3) hx3
    · rintro H' xs hl hv g hxs
      obtain ⟨ns, rfl, hn⟩ := ints_some hv
      refine ⟨D, _, rfl, .inl ⟨SqL.of hxs, fun l hl2 => ?_⟩⟩
      rw [hmm, List.length_map] at hl
      exact q _ (.tuple (ns.map .int)) _ (g.trans (Gx.new g.2 hl2)) (.tup (At.new g.2 hl2) (dg_ints ns)) ⟨ns, rfl, hl, hn⟩
end
end Ag

end
/-! ## LF -/
section
set_option linter.all false
set_option maxRecDepth 100000
set_option maxHeartbeats 4000000
namespace Ag
open PySem PySem.Spec PyProof.Rows L2
open SX (S S_len S_cat S_inj)
theorem At.to {p c a : Addr} {H H' : Hp} {o : HO} (h : At p c H a o) (g : Kp p c H H') : At p c H' a o := h.kp g
theorem Dg.lstE {p c t : Addr} {H : Hp} {ds : List PyData} (h : Dg p c H (.ref t) (.list ds)) : ∃ xs, At p c H t (.lst xs) ∧ DgA p c H xs ds := by
  cases h with
  | lst a b => exact ⟨_, a, b⟩
theorem Dg.tupE {p c t : Addr} {H : Hp} {ds : List PyData} (h : Dg p c H (.ref t) (.tuple ds)) : ∃ xs, At p c H t (.tup xs) ∧ DgA p c H xs ds := by
  cases h with
  | tup a b => exact ⟨_, a, b⟩
/-- small data of any kind -/
def oddB (d : PyData) : Bool := (okV true d || okV false d) && (decide (d.depth ≤ 3) && decide (d.bulk ≤ 400))
def oddG (d : PyData) : Prop := ∃ q, Gd q d 3 400
theorem odd_good {ds : List PyData} (h : ds.all oddB = true) {d : PyData} (hd : d ∈ ds) : oddG d := by
  have := List.all_eq_true.mp h d hd
  unfold oddB at this
  rw [Bool.and_eq_true, Bool.and_eq_true, decide_eq_true_eq, decide_eq_true_eq, Bool.or_eq_true] at this
  rcases this.1 with h1 | h1
  · exact ⟨true, h1, this.2.1, this.2.2⟩
  · exact ⟨false, h1, this.2.1, this.2.2⟩
section
variable {P : Program} {w : World} {K : PySem.W.Frag} {mg : Str → Option Value} {base : Heap} {tn tw tb : Tok}
def spOdd : Sp := fun vs H Q _ => ∃ (p c : Addr), vs = [.ref p] ∧ Dk p c H ∧ Outs p c H oddG Q
theorem ok_odd {f f2 f1 : Addr} {fd fd2 fd1 : FuncData} (F : Fn K mg "_law_odd" s__law_odd ["_law_deck"] f fd) (B : Con mg tn tw tb) (F__law_draw : Fn K mg "_law_draw" s__law_draw ["_law_deck", "_law_many"] f1 fd1) (F__law_pick : Fn K mg "_law_pick" s__law_pick ["_law_deck", "_law_some_here"] f2 fd2) :
    FnOk P w K mg base CX0 3 f fd ["_law_deck"] spOdd := by
  have G__law_pick : FnOk P w K mg base CX0 2 f2 fd2 ["_law_deck", "_law_some_here"] spPick := ok_pick F__law_pick B.toBlt F__law_draw
  refine F.F.ok sc__law_odd (fun vs H Q E h => ?_) (fun cdv A outer s H vs Q E hr h => ?_)
  · obtain ⟨p, c, rfl, _⟩ := h
    rfl
  · obtain ⟨p, c, rfl, dk, q⟩ := h
    refine ⟨_, (pss_cons (ps_set (i := 1) sc__law_odd.nd rfl (.inl rfl) (pe_lst (pa_cons pe_non (pa_cons pe_bl (pa_cons pe_bl (pa_cons (pe_un un_neg pe_int) (pa_cons pe_int (pa_cons pe_int (pa_cons pe_int (pa_cons (pe_op op_pow pe_int pe_int) (pa_cons (pe_op op_add (pe_op op_pow pe_int pe_int) pe_int) (pa_cons (pe_op op_pow pe_int pe_int) (pa_cons pe_str (pa_cons pe_str (pa_cons pe_str (pa_cons pe_str (pa_cons pe_str (pa_cons pe_str (pa_cons (pe_tup pa_nil) (pa_cons (pe_tup (pa_cons pe_int pa_nil)) (pa_cons (pe_tup (pa_cons pe_int pa_nil)) pa_nil)))))))))))))))))))))
      (pss_cons (ps_set (i := 1) sc__law_odd.nd rfl (.inl rfl) (pe_op op_cat (pv 1) (pe_lst (pa_cons (pe_lst pa_nil) (pa_cons pe_dnewK (pa_cons (pe_lst (pa_cons pe_str pa_nil)) (pa_cons (pe_disp (pps_cons pe_str pe_int pps_nil) (by rfl) (by rfl) (fun z => by cases z) (by decide)) (pa_cons (pe_tup (pa_cons pe_str pa_nil)) (pa_cons pe_str (pa_cons pe_str (pa_cons pe_str (pa_cons (pe_op op_rep_str pe_str pe_int) (pa_cons (pe_tup (pa_cons pe_int (pa_cons pe_int pa_nil))) (pa_cons (pe_tup (pa_cons pe_int (pa_cons pe_int pa_nil))) (pa_cons (pe_tup (pa_cons pe_non pa_nil)) (pa_cons (pe_tup (pa_cons pe_bl pa_nil)) (pa_cons pe_str (pa_cons pe_int pa_nil))))))))))))))))))
      (pss_one (ps_ret (pe_call G__law_pick (hr.mono (by decide)) (by rfl) F__law_pick.g F__law_pick.F.kp F__law_pick.b .nil pass0 (pa_cons (pv 0) (pa_cons (pe_op op_cat (pv 1) (pe_lst (pa_cons (pe_tup (pa_cons pe_str (pa_cons pe_int pa_nil))) (pa_cons (pe_tup (pa_cons pe_str pa_nil)) (pa_cons (pe_tup (pa_cons pe_str (pa_cons pe_int pa_nil))) (pa_cons (pe_tup (pa_cons pe_str pa_nil)) (pa_cons (pe_tup (pa_cons pe_str pa_nil)) (pa_cons (pe_tup (pa_cons (pe_tup (pa_cons pe_str pa_nil)) pa_nil)) (pa_cons (pe_tup (pa_cons (pe_tup pa_nil) (pa_cons (pe_tup pa_nil) pa_nil))) (pa_cons pe_int (pa_cons pe_int pa_nil))))))))))) pa_nil))))))), ?_⟩
    have g0 := Gx.refl dk
    refine ⟨_, rfl, _, _, rfl, rfl, ⟨by decide, by decide, by decide⟩, _, _, rfl, rfl, ⟨by decide, by decide, by decide⟩, _, _, rfl, rfl, _, _, rfl, rfl, ⟨by decide, by decide, by decide⟩, sz (by show 0 ≤ 16000000; decide), fun t1 ht1 => ?_⟩
    have s1 := same_new (o := .tup []) ht1
    have a1 := At.new (o := .tup []) g0.2 ht1
    have g1 := g0.trans (Gx.same g0.2 s1)
    have x1 : Dg p c (upd H t1 (.tup [])) (.ref t1) (.tuple []) := .tup a1 (.nil)
    generalize upd H t1 (.tup []) = H1 at g1 x1 ⊢
    refine ⟨sz (by show 1 ≤ 16000000; decide), fun t2 ht2 => ?_⟩
    have s2 := same_new (o := .tup [.int 0]) ht2
    have a2 := At.new (o := .tup [.int 0]) g1.2 ht2
    have g2 := g1.trans (Gx.same g1.2 s2)
    have x1 := x1.to (.same s2)
    have x2 : Dg p c (upd H1 t2 (.tup [.int 0])) (.ref t2) (.tuple [.int 0]) := .tup a2 (.cons (.int 0) (.nil))
    generalize upd H1 t2 (.tup [.int 0]) = H2 at g2 x2 x1 ⊢
    refine ⟨sz (by show 1 ≤ 16000000; decide), fun t3 ht3 => ?_⟩
    have s3 := same_new (o := .tup [.int 1]) ht3
    have a3 := At.new (o := .tup [.int 1]) g2.2 ht3
    have g3 := g2.trans (Gx.same g2.2 s3)
    have x1 := x1.to (.same s3)
    have x2 := x2.to (.same s3)
    have x3 : Dg p c (upd H2 t3 (.tup [.int 1])) (.ref t3) (.tuple [.int 1]) := .tup a3 (.cons (.int 1) (.nil))
    generalize upd H2 t3 (.tup [.int 1]) = H3 at g3 x3 x1 x2 ⊢
    refine ⟨sz (by show 19 ≤ 16000000; decide), fun t4 ht4 => ?_⟩
    have s4 := same_new (o := .lst [.non, .bl true, .bl false, .int (-1), .int 0, .int 1, .int 2, .int ((10 : Int) ^ (9 : Int).toNat), .int (((10 : Int) ^ (9 : Int).toNat) + 1), .int ((10 : Int) ^ (39 : Int).toNat), .str (Str.ofString ""), .str (Str.ofString "a"), .str (Str.ofString "A"), .str (Str.ofString "abcdefghijk"), .str (Str.ofString "a b"), .str (Str.ofString "a\n"), .ref t1, .ref t2, .ref t3]) ht4
    have a4 := At.new (o := .lst [.non, .bl true, .bl false, .int (-1), .int 0, .int 1, .int 2, .int ((10 : Int) ^ (9 : Int).toNat), .int (((10 : Int) ^ (9 : Int).toNat) + 1), .int ((10 : Int) ^ (39 : Int).toNat), .str (Str.ofString ""), .str (Str.ofString "a"), .str (Str.ofString "A"), .str (Str.ofString "abcdefghijk"), .str (Str.ofString "a b"), .str (Str.ofString "a\n"), .ref t1, .ref t2, .ref t3]) g3.2 ht4
    have g4 := g3.trans (Gx.same g3.2 s4)
    have x1 := x1.to (.same s4)
    have x2 := x2.to (.same s4)
    have x3 := x3.to (.same s4)
    have x4 : Dg p c (upd H3 t4 (.lst [.non, .bl true, .bl false, .int (-1), .int 0, .int 1, .int 2, .int ((10 : Int) ^ (9 : Int).toNat), .int (((10 : Int) ^ (9 : Int).toNat) + 1), .int ((10 : Int) ^ (39 : Int).toNat), .str (Str.ofString ""), .str (Str.ofString "a"), .str (Str.ofString "A"), .str (Str.ofString "abcdefghijk"), .str (Str.ofString "a b"), .str (Str.ofString "a\n"), .ref t1, .ref t2, .ref t3])) (.ref t4) (.list [.none, .bool true, .bool false, .int (-1), .int 0, .int 1, .int 2, .int ((10 : Int) ^ (9 : Int).toNat), .int (((10 : Int) ^ (9 : Int).toNat) + 1), .int ((10 : Int) ^ (39 : Int).toNat), .str (Str.ofString ""), .str (Str.ofString "a"), .str (Str.ofString "A"), .str (Str.ofString "abcdefghijk"), .str (Str.ofString "a b"), .str (Str.ofString "a\n"), .tuple [], .tuple [.int 0], .tuple [.int 1]]) := .lst a4 (.cons (.non) (.cons (.bl true) (.cons (.bl false) (.cons (.int (-1)) (.cons (.int 0) (.cons (.int 1) (.cons (.int 2) (.cons (.int ((10 : Int) ^ (9 : Int).toNat)) (.cons (.int (((10 : Int) ^ (9 : Int).toNat) + 1)) (.cons (.int ((10 : Int) ^ (39 : Int).toNat)) (.cons (.str (Str.ofString "")) (.cons (.str (Str.ofString "a")) (.cons (.str (Str.ofString "A")) (.cons (.str (Str.ofString "abcdefghijk")) (.cons (.str (Str.ofString "a b")) (.cons (.str (Str.ofString "a\n")) (.cons x1 (.cons x2 (.cons x3 (.nil))))))))))))))))))))
    generalize upd H3 t4 (.lst [.non, .bl true, .bl false, .int (-1), .int 0, .int 1, .int 2, .int ((10 : Int) ^ (9 : Int).toNat), .int (((10 : Int) ^ (9 : Int).toNat) + 1), .int ((10 : Int) ^ (39 : Int).toNat), .str (Str.ofString ""), .str (Str.ofString "a"), .str (Str.ofString "A"), .str (Str.ofString "abcdefghijk"), .str (Str.ofString "a b"), .str (Str.ofString "a\n"), .ref t1, .ref t2, .ref t3]) = H4 at g4 x4 ⊢
    have y1 := x4
    refine ⟨_, rfl, sz (by show 0 ≤ 16000000; decide), fun t5 ht5 => ?_⟩
    have s5 := same_new (o := .lst []) ht5
    have a5 := At.new (o := .lst []) g4.2 ht5
    have g5 := g4.trans (Gx.same g4.2 s5)
    have y1 := y1.to (.same s5)
    have x5 : Dg p c (upd H4 t5 (.lst [])) (.ref t5) (.list []) := .lst a5 (.nil)
    generalize upd H4 t5 (.lst []) = H5 at g5 x5 y1 ⊢
    refine fun t6 ht6 => ?_
    have s6 := same_new (o := .dK []) ht6
    have a6 := At.new (o := .dK []) g5.2 ht6
    have g6 := g5.trans (Gx.same g5.2 s6)
    have y1 := y1.to (.same s6)
    have x5 := x5.to (.same s6)
    have x6 : Dg p c (upd H5 t6 (.dK [])) (.ref t6) (.dict []) := .dic a6 .nil
    generalize upd H5 t6 (.dK []) = H6 at g6 x6 y1 x5 ⊢
    refine ⟨sz (by show 1 ≤ 16000000; decide), fun t7 ht7 => ?_⟩
    have s7 := same_new (o := .lst [.str (Str.ofString "a")]) ht7
    have a7 := At.new (o := .lst [.str (Str.ofString "a")]) g6.2 ht7
    have g7 := g6.trans (Gx.same g6.2 s7)
    have y1 := y1.to (.same s7)
    have x5 := x5.to (.same s7)
    have x6 := x6.to (.same s7)
    have x7 : Dg p c (upd H6 t7 (.lst [.str (Str.ofString "a")])) (.ref t7) (.list [.str (Str.ofString "a")]) := .lst a7 (.cons (.str (Str.ofString "a")) (.nil))
    generalize upd H6 t7 (.lst [.str (Str.ofString "a")]) = H7 at g7 x7 y1 x5 x6 ⊢
    refine fun t8 ht8 => ?_
    refine ⟨upd_same, [(Sum.inr (Str.ofString "a"), .int 1)], rfl, by show 1 ≤ 15; decide, ?_⟩
    rw [show mergeK [] [(Sum.inr (Str.ofString "a"), .int 1)] = [(Sum.inr (Str.ofString "a"), .int 1)] from by simp [mergeK, putK], upd_upd]
    have s8 := same_new (o := .dK [(Sum.inr (Str.ofString "a"), .int 1)]) ht8
    have a8 := At.new (o := .dK [(Sum.inr (Str.ofString "a"), .int 1)]) g7.2 ht8
    have g8 := g7.trans (Gx.same g7.2 s8)
    have y1 := y1.to (.same s8)
    have x5 := x5.to (.same s8)
    have x6 := x6.to (.same s8)
    have x7 := x7.to (.same s8)
    have x8 : Dg p c (upd H7 t8 (.dK [(Sum.inr (Str.ofString "a"), .int 1)])) (.ref t8) (.dict [(.str (Str.ofString "a"), .int 1)]) := .dic a8 (.cons (k := Sum.inr (Str.ofString "a")) (.int 1) (.nil))
    generalize upd H7 t8 (.dK [(Sum.inr (Str.ofString "a"), .int 1)]) = H8 at g8 x8 y1 x5 x6 x7 ⊢
    refine ⟨sz (by show 1 ≤ 16000000; decide), fun t9 ht9 => ?_⟩
    have s9 := same_new (o := .tup [.str (Str.ofString "a")]) ht9
    have a9 := At.new (o := .tup [.str (Str.ofString "a")]) g8.2 ht9
    have g9 := g8.trans (Gx.same g8.2 s9)
    have y1 := y1.to (.same s9)
    have x5 := x5.to (.same s9)
    have x6 := x6.to (.same s9)
    have x7 := x7.to (.same s9)
    have x8 := x8.to (.same s9)
    have x9 : Dg p c (upd H8 t9 (.tup [.str (Str.ofString "a")])) (.ref t9) (.tuple [.str (Str.ofString "a")]) := .tup a9 (.cons (.str (Str.ofString "a")) (.nil))
    generalize upd H8 t9 (.tup [.str (Str.ofString "a")]) = H9 at g9 x9 y1 x5 x6 x7 x8 ⊢
    refine ⟨[97], 151, congrArg V.str (by decide +kernel), rfl, by decide, by decide, by decide, sz (by show 2 ≤ 16000000; decide), fun t10 ht10 => ?_⟩
    have s10 := same_new (o := .tup [.int 1, .int 1]) ht10
    have a10 := At.new (o := .tup [.int 1, .int 1]) g9.2 ht10
    have g10 := g9.trans (Gx.same g9.2 s10)
    have y1 := y1.to (.same s10)
    have x5 := x5.to (.same s10)
    have x6 := x6.to (.same s10)
    have x7 := x7.to (.same s10)
    have x8 := x8.to (.same s10)
    have x9 := x9.to (.same s10)
    have x10 : Dg p c (upd H9 t10 (.tup [.int 1, .int 1])) (.ref t10) (.tuple [.int 1, .int 1]) := .tup a10 (.cons (.int 1) (.cons (.int 1) (.nil)))
    generalize upd H9 t10 (.tup [.int 1, .int 1]) = H10 at g10 x10 y1 x5 x6 x7 x8 x9 ⊢
    refine ⟨sz (by show 2 ≤ 16000000; decide), fun t11 ht11 => ?_⟩
    have s11 := same_new (o := .tup [.int 2, .int 1]) ht11
    have a11 := At.new (o := .tup [.int 2, .int 1]) g10.2 ht11
    have g11 := g10.trans (Gx.same g10.2 s11)
    have y1 := y1.to (.same s11)
    have x5 := x5.to (.same s11)
    have x6 := x6.to (.same s11)
    have x7 := x7.to (.same s11)
    have x8 := x8.to (.same s11)
    have x9 := x9.to (.same s11)
    have x10 := x10.to (.same s11)
    have x11 : Dg p c (upd H10 t11 (.tup [.int 2, .int 1])) (.ref t11) (.tuple [.int 2, .int 1]) := .tup a11 (.cons (.int 2) (.cons (.int 1) (.nil)))
    generalize upd H10 t11 (.tup [.int 2, .int 1]) = H11 at g11 x11 y1 x5 x6 x7 x8 x9 x10 ⊢
    refine ⟨sz (by show 1 ≤ 16000000; decide), fun t12 ht12 => ?_⟩
    have s12 := same_new (o := .tup [.non]) ht12
    have a12 := At.new (o := .tup [.non]) g11.2 ht12
    have g12 := g11.trans (Gx.same g11.2 s12)
    have y1 := y1.to (.same s12)
    have x5 := x5.to (.same s12)
    have x6 := x6.to (.same s12)
    have x7 := x7.to (.same s12)
    have x8 := x8.to (.same s12)
    have x9 := x9.to (.same s12)
    have x10 := x10.to (.same s12)
    have x11 := x11.to (.same s12)
    have x12 : Dg p c (upd H11 t12 (.tup [.non])) (.ref t12) (.tuple [.none]) := .tup a12 (.cons (.non) (.nil))
    generalize upd H11 t12 (.tup [.non]) = H12 at g12 x12 y1 x5 x6 x7 x8 x9 x10 x11 ⊢
    refine ⟨sz (by show 1 ≤ 16000000; decide), fun t13 ht13 => ?_⟩
    have s13 := same_new (o := .tup [.bl true]) ht13
    have a13 := At.new (o := .tup [.bl true]) g12.2 ht13
    have g13 := g12.trans (Gx.same g12.2 s13)
    have y1 := y1.to (.same s13)
    have x5 := x5.to (.same s13)
    have x6 := x6.to (.same s13)
    have x7 := x7.to (.same s13)
    have x8 := x8.to (.same s13)
    have x9 := x9.to (.same s13)
    have x10 := x10.to (.same s13)
    have x11 := x11.to (.same s13)
    have x12 := x12.to (.same s13)
    have x13 : Dg p c (upd H12 t13 (.tup [.bl true])) (.ref t13) (.tuple [.bool true]) := .tup a13 (.cons (.bl true) (.nil))
    generalize upd H12 t13 (.tup [.bl true]) = H13 at g13 x13 y1 x5 x6 x7 x8 x9 x10 x11 x12 ⊢
    refine ⟨sz (by show 15 ≤ 16000000; decide), fun t14 ht14 => ?_⟩
    have s14 := same_new (o := .lst [.ref t5, .ref t6, .ref t7, .ref t8, .ref t9, .str (Str.ofString "open"), .str (Str.ofString "broken"), .str (Str.ofString "closed"), .str (S (List.replicate 151 [97]).flatten), .ref t10, .ref t11, .ref t12, .ref t13, .str (Str.ofString "\n"), .int 41]) ht14
    have a14 := At.new (o := .lst [.ref t5, .ref t6, .ref t7, .ref t8, .ref t9, .str (Str.ofString "open"), .str (Str.ofString "broken"), .str (Str.ofString "closed"), .str (S (List.replicate 151 [97]).flatten), .ref t10, .ref t11, .ref t12, .ref t13, .str (Str.ofString "\n"), .int 41]) g13.2 ht14
    have g14 := g13.trans (Gx.same g13.2 s14)
    have y1 := y1.to (.same s14)
    have x5 := x5.to (.same s14)
    have x6 := x6.to (.same s14)
    have x7 := x7.to (.same s14)
    have x8 := x8.to (.same s14)
    have x9 := x9.to (.same s14)
    have x10 := x10.to (.same s14)
    have x11 := x11.to (.same s14)
    have x12 := x12.to (.same s14)
    have x13 := x13.to (.same s14)
    have x14 : Dg p c (upd H13 t14 (.lst [.ref t5, .ref t6, .ref t7, .ref t8, .ref t9, .str (Str.ofString "open"), .str (Str.ofString "broken"), .str (Str.ofString "closed"), .str (S (List.replicate 151 [97]).flatten), .ref t10, .ref t11, .ref t12, .ref t13, .str (Str.ofString "\n"), .int 41])) (.ref t14) (.list [.list [], .dict [], .list [.str (Str.ofString "a")], .dict [(.str (Str.ofString "a"), .int 1)], .tuple [.str (Str.ofString "a")], .str (Str.ofString "open"), .str (Str.ofString "broken"), .str (Str.ofString "closed"), .str (S (List.replicate 151 [97]).flatten), .tuple [.int 1, .int 1], .tuple [.int 2, .int 1], .tuple [.none], .tuple [.bool true], .str (Str.ofString "\n"), .int 41]) := .lst a14 (.cons x5 (.cons x6 (.cons x7 (.cons x8 (.cons x9 (.cons (.str (Str.ofString "open")) (.cons (.str (Str.ofString "broken")) (.cons (.str (Str.ofString "closed")) (.cons (.str (S (List.replicate 151 [97]).flatten)) (.cons x10 (.cons x11 (.cons x12 (.cons x13 (.cons (.str (Str.ofString "\n")) (.cons (.int 41) (.nil))))))))))))))))
    generalize upd H13 t14 (.lst [.ref t5, .ref t6, .ref t7, .ref t8, .ref t9, .str (Str.ofString "open"), .str (Str.ofString "broken"), .str (Str.ofString "closed"), .str (S (List.replicate 151 [97]).flatten), .ref t10, .ref t11, .ref t12, .ref t13, .str (Str.ofString "\n"), .int 41]) = H14 at g14 x14 y1 ⊢
    obtain ⟨xs1, at1, da1⟩ := Dg.lstE y1
    obtain ⟨xs2, at2, da2⟩ := Dg.lstE x14
    refine ⟨_, _, xs1, xs2, rfl, rfl, at1.2.2, at2.2.2, by rw [da1.len, da2.len]; exact sz (by decide +kernel), fun tc htc => ?_⟩
    have sc := same_new (o := .lst (xs1 ++ xs2)) htc
    have atc := At.new (o := .lst (xs1 ++ xs2)) g14.2 htc
    have gc := g14.trans (Gx.same g14.2 sc)
    have y2 := Dg.lst atc ((da1.to (.same sc)).app (da2.to (.same sc)))
    generalize upd H14 tc (.lst (xs1 ++ xs2)) = Hc at gc y2 ⊢
    refine ⟨_, rfl, _, rfl, sz (by show 2 ≤ 16000000; decide), fun t15 ht15 => ?_⟩
    have s15 := same_new (o := .tup [.str (Str.ofString "take"), .int 1]) ht15
    have a15 := At.new (o := .tup [.str (Str.ofString "take"), .int 1]) gc.2 ht15
    have g15 := gc.trans (Gx.same gc.2 s15)
    have y2 := y2.to (.same s15)
    have x15 : Dg p c (upd Hc t15 (.tup [.str (Str.ofString "take"), .int 1])) (.ref t15) (.tuple [.str (Str.ofString "take"), .int 1]) := .tup a15 (.cons (.str (Str.ofString "take")) (.cons (.int 1) (.nil)))
    generalize upd Hc t15 (.tup [.str (Str.ofString "take"), .int 1]) = H15 at g15 x15 y2 ⊢
    refine ⟨sz (by show 1 ≤ 16000000; decide), fun t16 ht16 => ?_⟩
    have s16 := same_new (o := .tup [.str (Str.ofString "begin")]) ht16
    have a16 := At.new (o := .tup [.str (Str.ofString "begin")]) g15.2 ht16
    have g16 := g15.trans (Gx.same g15.2 s16)
    have y2 := y2.to (.same s16)
    have x15 := x15.to (.same s16)
    have x16 : Dg p c (upd H15 t16 (.tup [.str (Str.ofString "begin")])) (.ref t16) (.tuple [.str (Str.ofString "begin")]) := .tup a16 (.cons (.str (Str.ofString "begin")) (.nil))
    generalize upd H15 t16 (.tup [.str (Str.ofString "begin")]) = H16 at g16 x16 y2 x15 ⊢
    refine ⟨sz (by show 2 ≤ 16000000; decide), fun t17 ht17 => ?_⟩
    have s17 := same_new (o := .tup [.str (Str.ofString "answer"), .int 1]) ht17
    have a17 := At.new (o := .tup [.str (Str.ofString "answer"), .int 1]) g16.2 ht17
    have g17 := g16.trans (Gx.same g16.2 s17)
    have y2 := y2.to (.same s17)
    have x15 := x15.to (.same s17)
    have x16 := x16.to (.same s17)
    have x17 : Dg p c (upd H16 t17 (.tup [.str (Str.ofString "answer"), .int 1])) (.ref t17) (.tuple [.str (Str.ofString "answer"), .int 1]) := .tup a17 (.cons (.str (Str.ofString "answer")) (.cons (.int 1) (.nil)))
    generalize upd H16 t17 (.tup [.str (Str.ofString "answer"), .int 1]) = H17 at g17 x17 y2 x15 x16 ⊢
    refine ⟨sz (by show 1 ≤ 16000000; decide), fun t18 ht18 => ?_⟩
    have s18 := same_new (o := .tup [.str (Str.ofString "leave")]) ht18
    have a18 := At.new (o := .tup [.str (Str.ofString "leave")]) g17.2 ht18
    have g18 := g17.trans (Gx.same g17.2 s18)
    have y2 := y2.to (.same s18)
    have x15 := x15.to (.same s18)
    have x16 := x16.to (.same s18)
    have x17 := x17.to (.same s18)
    have x18 : Dg p c (upd H17 t18 (.tup [.str (Str.ofString "leave")])) (.ref t18) (.tuple [.str (Str.ofString "leave")]) := .tup a18 (.cons (.str (Str.ofString "leave")) (.nil))
    generalize upd H17 t18 (.tup [.str (Str.ofString "leave")]) = H18 at g18 x18 y2 x15 x16 x17 ⊢
    refine ⟨sz (by show 1 ≤ 16000000; decide), fun t19 ht19 => ?_⟩
    have s19 := same_new (o := .tup [.str (Str.ofString "close")]) ht19
    have a19 := At.new (o := .tup [.str (Str.ofString "close")]) g18.2 ht19
    have g19 := g18.trans (Gx.same g18.2 s19)
    have y2 := y2.to (.same s19)
    have x15 := x15.to (.same s19)
    have x16 := x16.to (.same s19)
    have x17 := x17.to (.same s19)
    have x18 := x18.to (.same s19)
    have x19 : Dg p c (upd H18 t19 (.tup [.str (Str.ofString "close")])) (.ref t19) (.tuple [.str (Str.ofString "close")]) := .tup a19 (.cons (.str (Str.ofString "close")) (.nil))
    generalize upd H18 t19 (.tup [.str (Str.ofString "close")]) = H19 at g19 x19 y2 x15 x16 x17 x18 ⊢
    refine ⟨sz (by show 1 ≤ 16000000; decide), fun t20 ht20 => ?_⟩
    have s20 := same_new (o := .tup [.str (Str.ofString "begin")]) ht20
    have a20 := At.new (o := .tup [.str (Str.ofString "begin")]) g19.2 ht20
    have g20 := g19.trans (Gx.same g19.2 s20)
    have y2 := y2.to (.same s20)
    have x15 := x15.to (.same s20)
    have x16 := x16.to (.same s20)
    have x17 := x17.to (.same s20)
    have x18 := x18.to (.same s20)
    have x19 := x19.to (.same s20)
    have x20 : Dg p c (upd H19 t20 (.tup [.str (Str.ofString "begin")])) (.ref t20) (.tuple [.str (Str.ofString "begin")]) := .tup a20 (.cons (.str (Str.ofString "begin")) (.nil))
    generalize upd H19 t20 (.tup [.str (Str.ofString "begin")]) = H20 at g20 x20 y2 x15 x16 x17 x18 x19 ⊢
    refine ⟨sz (by show 1 ≤ 16000000; decide), fun t21 ht21 => ?_⟩
    have s21 := same_new (o := .tup [.ref t20]) ht21
    have a21 := At.new (o := .tup [.ref t20]) g20.2 ht21
    have g21 := g20.trans (Gx.same g20.2 s21)
    have y2 := y2.to (.same s21)
    have x15 := x15.to (.same s21)
    have x16 := x16.to (.same s21)
    have x17 := x17.to (.same s21)
    have x18 := x18.to (.same s21)
    have x19 := x19.to (.same s21)
    have x20 := x20.to (.same s21)
    have x21 : Dg p c (upd H20 t21 (.tup [.ref t20])) (.ref t21) (.tuple [.tuple [.str (Str.ofString "begin")]]) := .tup a21 (.cons x20 (.nil))
    generalize upd H20 t21 (.tup [.ref t20]) = H21 at g21 x21 y2 x15 x16 x17 x18 x19 ⊢
    refine ⟨sz (by show 0 ≤ 16000000; decide), fun t22 ht22 => ?_⟩
    have s22 := same_new (o := .tup []) ht22
    have a22 := At.new (o := .tup []) g21.2 ht22
    have g22 := g21.trans (Gx.same g21.2 s22)
    have y2 := y2.to (.same s22)
    have x15 := x15.to (.same s22)
    have x16 := x16.to (.same s22)
    have x17 := x17.to (.same s22)
    have x18 := x18.to (.same s22)
    have x19 := x19.to (.same s22)
    have x21 := x21.to (.same s22)
    have x22 : Dg p c (upd H21 t22 (.tup [])) (.ref t22) (.tuple []) := .tup a22 (.nil)
    generalize upd H21 t22 (.tup []) = H22 at g22 x22 y2 x15 x16 x17 x18 x19 x21 ⊢
    refine ⟨sz (by show 0 ≤ 16000000; decide), fun t23 ht23 => ?_⟩
    have s23 := same_new (o := .tup []) ht23
    have a23 := At.new (o := .tup []) g22.2 ht23
    have g23 := g22.trans (Gx.same g22.2 s23)
    have y2 := y2.to (.same s23)
    have x15 := x15.to (.same s23)
    have x16 := x16.to (.same s23)
    have x17 := x17.to (.same s23)
    have x18 := x18.to (.same s23)
    have x19 := x19.to (.same s23)
    have x21 := x21.to (.same s23)
    have x22 := x22.to (.same s23)
    have x23 : Dg p c (upd H22 t23 (.tup [])) (.ref t23) (.tuple []) := .tup a23 (.nil)
    generalize upd H22 t23 (.tup []) = H23 at g23 x23 y2 x15 x16 x17 x18 x19 x21 x22 ⊢
    refine ⟨sz (by show 2 ≤ 16000000; decide), fun t24 ht24 => ?_⟩
    have s24 := same_new (o := .tup [.ref t22, .ref t23]) ht24
    have a24 := At.new (o := .tup [.ref t22, .ref t23]) g23.2 ht24
    have g24 := g23.trans (Gx.same g23.2 s24)
    have y2 := y2.to (.same s24)
    have x15 := x15.to (.same s24)
    have x16 := x16.to (.same s24)
    have x17 := x17.to (.same s24)
    have x18 := x18.to (.same s24)
    have x19 := x19.to (.same s24)
    have x21 := x21.to (.same s24)
    have x22 := x22.to (.same s24)
    have x23 := x23.to (.same s24)
    have x24 : Dg p c (upd H23 t24 (.tup [.ref t22, .ref t23])) (.ref t24) (.tuple [.tuple [], .tuple []]) := .tup a24 (.cons x22 (.cons x23 (.nil)))
    generalize upd H23 t24 (.tup [.ref t22, .ref t23]) = H24 at g24 x24 y2 x15 x16 x17 x18 x19 x21 ⊢
    refine ⟨sz (by show 9 ≤ 16000000; decide), fun t25 ht25 => ?_⟩
    have s25 := same_new (o := .lst [.ref t15, .ref t16, .ref t17, .ref t18, .ref t19, .ref t21, .ref t24, .int 3, .int 40]) ht25
    have a25 := At.new (o := .lst [.ref t15, .ref t16, .ref t17, .ref t18, .ref t19, .ref t21, .ref t24, .int 3, .int 40]) g24.2 ht25
    have g25 := g24.trans (Gx.same g24.2 s25)
    have y2 := y2.to (.same s25)
    have x15 := x15.to (.same s25)
    have x16 := x16.to (.same s25)
    have x17 := x17.to (.same s25)
    have x18 := x18.to (.same s25)
    have x19 := x19.to (.same s25)
    have x21 := x21.to (.same s25)
    have x24 := x24.to (.same s25)
    have x25 : Dg p c (upd H24 t25 (.lst [.ref t15, .ref t16, .ref t17, .ref t18, .ref t19, .ref t21, .ref t24, .int 3, .int 40])) (.ref t25) (.list [.tuple [.str (Str.ofString "take"), .int 1], .tuple [.str (Str.ofString "begin")], .tuple [.str (Str.ofString "answer"), .int 1], .tuple [.str (Str.ofString "leave")], .tuple [.str (Str.ofString "close")], .tuple [.tuple [.str (Str.ofString "begin")]], .tuple [.tuple [], .tuple []], .int 3, .int 40]) := .lst a25 (.cons x15 (.cons x16 (.cons x17 (.cons x18 (.cons x19 (.cons x21 (.cons x24 (.cons (.int 3) (.cons (.int 40) (.nil))))))))))
    generalize upd H24 t25 (.lst [.ref t15, .ref t16, .ref t17, .ref t18, .ref t19, .ref t21, .ref t24, .int 3, .int 40]) = H25 at g25 x25 y2 ⊢
    obtain ⟨xs3, at3, da3⟩ := Dg.lstE y2
    obtain ⟨xs4, at4, da4⟩ := Dg.lstE x25
    refine ⟨_, _, xs3, xs4, rfl, rfl, at3.2.2, at4.2.2, by rw [da3.len, da4.len]; exact sz (by decide +kernel), fun td htd => ?_⟩
    have sd := same_new (o := .lst (xs3 ++ xs4)) htd
    have atd := At.new (o := .lst (xs3 ++ xs4)) g25.2 htd
    have gd := g25.trans (Gx.same g25.2 sd)
    have da := (da3.to (.same sd)).app (da4.to (.same sd))
    refine ⟨p, c, .ref td, rfl, gd.2, .inl ⟨td, _, rfl, atd, by rw [da.len]; decide +kernel, by rw [da.len]; decide +kernel, fun r x H9 hx g9 => ?_⟩⟩
    obtain ⟨d, hd, hdg⟩ := da.at_ hx
    exact q x d H9 (gd.trans g9) (hdg.to g9.kp) (odd_good (by decide +kernel) (List.mem_of_getElem? hd))
end
end Ag

end
/-! ## LG -/
section
set_option linter.all false
set_option maxRecDepth 100000
set_option maxHeartbeats 4000000
namespace Ag
open PySem PySem.Spec PyProof.Rows L2
open SX (S S_len S_cat S_inj)
mutual
/-- no bools, lists and dicts, ints from 0 to 10 ** 9, short tuples -/
def clnB : PyData → Bool
  | .none => true
  | .bool _ => false
  | .int i => decide (0 ≤ i) && decide (i ≤ 1000000000)
  | .str x => strOkB x
  | .list _ => false
  | .tuple xs => decide (xs.length ≤ 50) && clnA xs
  | .dict _ => false
def clnA : List PyData → Bool
  | [] => true
  | x :: xs => clnB x && clnA xs
end
mutual
theorem cln_ok {q : Bool} : ∀ d : PyData, clnB d = true → okV q d = true
  | .none, _ => by simp [okV]
  | .bool _, h => by simp [clnB] at h
  | .int i, h => by
    simp only [clnB, Bool.and_eq_true, decide_eq_true_eq] at h
    simp only [okV, intOk, Bool.and_eq_true, decide_eq_true_eq]
    omega
  | .str x, h => by simpa only [okV, clnB] using h
  | .list _, h => by simp [clnB] at h
  | .tuple xs, h => by
    simp only [clnB, Bool.and_eq_true, decide_eq_true_eq] at h
    simp only [okV, Bool.and_eq_true, decide_eq_true_eq]
    exact ⟨by omega, clnA_ok xs h.2⟩
  | .dict _, h => by simp [clnB] at h
theorem clnA_ok {q : Bool} : ∀ xs : List PyData, clnA xs = true → okVA q xs = true
  | [], _ => by simp [okVA]
  | x :: xs, h => by
    simp only [clnA, Bool.and_eq_true] at h
    simp only [okVA, Bool.and_eq_true]
    exact ⟨cln_ok x h.1, clnA_ok xs h.2⟩
end
theorem clnA_at : ∀ {ds : List PyData} {i : Nat} {d : PyData}, clnA ds = true → ds[i]? = some d → clnB d = true
  | x :: xs, 0, d, h, e => by
    simp only [clnA, Bool.and_eq_true] at h
    simp at e
    subst e
    exact h.1
  | x :: xs, i + 1, d, h, e => by
    simp only [clnA, Bool.and_eq_true] at h
    exact clnA_at (i := i) h.2 (by simpa using e)
  | [], i, d, _, e => by simp at e
def endG (many : Nat) (d : PyData) : Prop := d = .none ∨ ∃ k : Nat, k ≤ many ∧ d = .int (k : Int)
section
variable {P : Program} {w : World} {K : PySem.W.Frag} {mg : Str → Option Value} {base : Heap} {tn tw tb : Tok}
theorem someG.mono {m n : Nat} {d : PyData} (h : someG m d) (hmn : m ≤ n) : someG n d := by
  obtain ⟨ns, rfl, h1, h2⟩ := h
  exact ⟨ns, rfl, by omega, fun k hk => by have := h2 k hk; omega⟩
def spSeenM : Sp := fun vs H Q _ => ∃ (p c : Addr) (many : Nat), vs = [.ref p, .int many] ∧ Dk p c H ∧ many ≤ 40 ∧ ∀ a v3 v4 v5 d3 d4 d5 H', Gx p c H H' → At p c H' a (.tup [v3, v4, v5]) → Dg p c H' v3 d3 → Dg p c H' v4 d4 → Dg p c H' v5 d5 → someG many d3 → endG many d4 → endG many d5 → Q (.ref a) H'
theorem ok_seenM {f f1 f2 f3 : Addr} {fd fd1 fd2 fd3 : FuncData} (F : Fn K mg "_law_seen" s__law_seen ["_law_deck", "_law_many"] f fd) (B : Con mg tn tw tb) (F__law_draw : Fn K mg "_law_draw" s__law_draw ["_law_deck", "_law_many"] f1 fd1) (F__law_pick : Fn K mg "_law_pick" s__law_pick ["_law_deck", "_law_some_here"] f2 fd2)
    (F__law_some : Fn K mg "_law_some" s__law_some ["_law_deck", "_law_many"] f3 fd3) : FnOk P w K mg base CX0 3 f fd ["_law_deck", "_law_many"] spSeenM := by
  have G__law_draw : FnOk P w K mg base CX0 1 f1 fd1 ["_law_deck", "_law_many"] spDraw := ok_draw F__law_draw B.toBlt
  have G__law_pick : FnOk P w K mg base CX0 2 f2 fd2 ["_law_deck", "_law_some_here"] spPick := ok_pick F__law_pick B.toBlt F__law_draw
  have G__law_some : FnOk P w K mg base CX0 2 f3 fd3 ["_law_deck", "_law_many"] spSome := ok_some F__law_some B F__law_draw
  refine F.F.ok sc__law_seen (fun vs H Q E h => ?_) (fun cdv A outer s H vs Q E hr h => ?_)
  · obtain ⟨p, c, m, rfl, _⟩ := h
    rfl
  · obtain ⟨p, c, m, rfl, dk, hm, q⟩ := h
    refine ⟨_, (pss_cons (ps_par (i := 2) (j := 3) (by rfl) sc__law_seen.nd rfl rfl (by decide) rfl rfl (pa_cons (pe_call G__law_draw (hr.mono (by decide)) (by rfl) F__law_draw.g F__law_draw.F.kp F__law_draw.b .nil pass0 (pa_cons (pv 0) (pa_cons pe_int pa_nil))) (pa_cons (pe_call G__law_draw (hr.mono (by decide)) (by rfl) F__law_draw.g F__law_draw.F.kp F__law_draw.b .nil pass0 (pa_cons (pv 0) (pa_cons (pe_op op_add (pv 1) pe_int) pa_nil))) pa_nil)) (by rfl))
      (pss_cons (ps_if (pt_cmpR op_eq (pv 2) pe_int (nomark _))
      (pss_one (ps_ret (pe_tup (pa_cons (pe_tup pa_nil) (pa_cons pe_non (pa_cons pe_non pa_nil))))))
      pss_nil)
      (pss_cons (ps_if (pt_cmpR op_lt (pv 2) pe_int (nomark _))
      (pss_one (ps_ret (pe_tup (pa_cons (pe_call G__law_some (hr.mono (by decide)) (by rfl) F__law_some.g F__law_some.F.kp F__law_some.b .nil pass0 (pa_cons (pv 0) (pa_cons (pe_call G__law_pick (hr.mono (by decide)) (by rfl) F__law_pick.g F__law_pick.F.kp F__law_pick.b .nil pass0 (pa_cons (pv 0) (pa_cons (pe_lst (pa_cons (pv 1) (pa_cons (pv 3) pa_nil))) pa_nil))) pa_nil))) (pa_cons pe_non (pa_cons pe_non pa_nil))))))
      pss_nil)
      (pss_one (ps_ret (pe_tup (pa_cons (pe_call G__law_some (hr.mono (by decide)) (by rfl) F__law_some.g F__law_some.F.kp F__law_some.b .nil pass0 (pa_cons (pv 0) (pa_cons (pe_call G__law_pick (hr.mono (by decide)) (by rfl) F__law_pick.g F__law_pick.F.kp F__law_pick.b .nil pass0 (pa_cons (pv 0) (pa_cons (pe_lst (pa_cons (pv 3) (pa_cons (pe_call G__law_draw (hr.mono (by decide)) (by rfl) F__law_draw.g F__law_draw.F.kp F__law_draw.b .nil pass0 (pa_cons (pv 0) (pa_cons (pe_op op_add (pv 3) pe_int) pa_nil))) pa_nil))) pa_nil))) pa_nil))) (pa_cons (pe_ifExp (pt_cmpR op_ne (pv 2) pe_int (nomark _)) (pv 3) pe_non) (pa_cons (pe_ifExp (pt_cmpR op_gt (pv 2) pe_int (nomark _)) (pv 3) pe_non) pa_nil))))))))), ?_⟩
    refine ⟨_, rfl, p, c, 6, rfl, dk, by decide, by decide, fun way H1 hway g1 => ?_⟩
    refine ⟨_, rfl, _, rfl, _, _, rfl, rfl, p, c, (m : Int) + 1, rfl, g1.2, by omega, by omega, fun e H2 he g2 => ⟨_, _, rfl, ?_⟩⟩
    have g2 := g1.trans g2
    have hem : e ≤ m := by omega
    have s3 : 3 ≤ sizeLine := sz (by decide)
    refine ⟨_, rfl, rfl, _, rfl, ite2 (fun _ => ?_) (fun _ => ?_)⟩
    · refine ⟨sz (by show 0 ≤ 16000000; decide), fun t ht => ?_⟩
      have g3 := g2.trans (Gx.new (o := .tup []) g2.2 ht)
      have a3 := At.new (o := .tup []) g2.2 ht
      generalize upd H2 t (.tup []) = H3 at g3 a3 ⊢
      refine ⟨s3, fun t2 ht2 => ?_⟩
      have s4 := same_new (o := .tup [.ref t, .non, .non]) ht2
      exact q t2 _ _ _ (.tuple []) .none .none _ (g3.trans (Gx.new g3.2 ht2)) (At.new g3.2 ht2) (.tup (a3.kp (.same s4)) .nil) .non .non ⟨[], rfl, by simp, fun k hk => by cases hk⟩ (.inl rfl) (.inl rfl)
    refine ⟨_, rfl, _, _, rfl, rfl, _, rfl, ite2 (fun _ => ?_) (fun _ => ?_)⟩
    · refine ⟨_, rfl, _, rfl, _, rfl, _, rfl, sz (by show 2 ≤ 16000000; decide), fun l hl => ?_⟩
      have g3 := g2.trans (Gx.new (o := .lst [.int (m : Int), .int (e : Int)]) g2.2 hl)
      have a3 := At.new (o := .lst [.int (m : Int), .int (e : Int)]) g2.2 hl
      generalize upd H2 l (.lst [.int (m : Int), .int (e : Int)]) = H3 at g3 a3 ⊢
      refine ⟨p, c, .ref l, rfl, g3.2, .inl ⟨l, _, rfl, a3, (by show 1 ≤ 2; decide), (by show 2 ≤ 100000; decide), fun r x H4 hx g4 => ?_⟩⟩
      have g4 := g3.trans g4
      obtain ⟨k, hk, rfl⟩ : ∃ k : Nat, k ≤ m ∧ x = .int (k : Int) := by
        have mem := List.mem_of_getElem? hx
        simp only [List.mem_cons, List.not_mem_nil, or_false] at mem
        rcases mem with rfl | rfl
        · exact ⟨m, Nat.le_refl _, rfl⟩
        · exact ⟨e, hem, rfl⟩
      refine ⟨p, c, k, rfl, g4.2, by omega, fun v d H5 g5 hd hs => ?_⟩
      have g5 := g4.trans g5
      refine ⟨s3, fun t2 ht2 => ?_⟩
      have s6 := same_new (o := .tup [v, .non, .non]) ht2
      exact q t2 _ _ _ d .none .none _ (g5.trans (Gx.new g5.2 ht2)) (At.new g5.2 ht2) (hd.to (.same s6)) .non .non (hs.mono hk) (.inl rfl) (.inl rfl)
    · refine ⟨_, rfl, _, rfl, _, rfl, _, rfl, _, rfl, _, _, rfl, rfl, p, c, (e : Int) + 1, rfl, g2.2, by omega, by omega, fun e2 H3 he2 g3 => ⟨sz (by show 2 ≤ 16000000; decide), fun l hl => ?_⟩⟩
      have g3 := g2.trans g3
      have g4 := g3.trans (Gx.new (o := .lst [.int (e : Int), .int (e2 : Int)]) g3.2 hl)
      have a4 := At.new (o := .lst [.int (e : Int), .int (e2 : Int)]) g3.2 hl
      generalize upd H3 l (.lst [.int (e : Int), .int (e2 : Int)]) = H4 at g4 a4 ⊢
      refine ⟨p, c, .ref l, rfl, g4.2, .inl ⟨l, _, rfl, a4, (by show 1 ≤ 2; decide), (by show 2 ≤ 100000; decide), fun r x H5 hx g5 => ?_⟩⟩
      have g5 := g4.trans g5
      obtain ⟨k, hk, rfl⟩ : ∃ k : Nat, k ≤ m ∧ x = .int (k : Int) := by
        have mem := List.mem_of_getElem? hx
        simp only [List.mem_cons, List.not_mem_nil, or_false] at mem
        rcases mem with rfl | rfl
        · exact ⟨e, hem, rfl⟩
        · exact ⟨e2, by omega, rfl⟩
      refine ⟨p, c, k, rfl, g5.2, by omega, fun v d H6 g6 hd hs => ?_⟩
      have g6 := g5.trans g6
      have fin : ∀ (v4 v5 : V) (d4 d5 : PyData), (v4 = .non ∧ d4 = .none ∨ v4 = .int (e : Int) ∧ d4 = .int (e : Int)) → (v5 = .non ∧ d5 = .none ∨ v5 = .int (e : Int) ∧ d5 = .int (e : Int)) →
          3 ≤ sizeLine ∧ ∀ t, H6 t = none → Q (.ref t) (upd H6 t (.tup [v, v4, v5])) := by
        intro v4 v5 d4 d5 h4 h5
        refine ⟨s3, fun t2 ht2 => ?_⟩
        have s7 := same_new (o := .tup [v, v4, v5]) ht2
        refine q t2 _ _ _ d d4 d5 _ (g6.trans (Gx.new g6.2 ht2)) (At.new g6.2 ht2) (hd.to (.same s7)) ?_ ?_ (hs.mono hk) ?_ ?_
        · rcases h4 with ⟨rfl, rfl⟩ | ⟨rfl, rfl⟩
          · exact .non
          · exact .int _
        · rcases h5 with ⟨rfl, rfl⟩ | ⟨rfl, rfl⟩
          · exact .non
          · exact .int _
        · rcases h4 with ⟨_, rfl⟩ | ⟨_, rfl⟩
          · exact .inl rfl
          · exact .inr ⟨e, hem, rfl⟩
        · rcases h5 with ⟨_, rfl⟩ | ⟨_, rfl⟩
          · exact .inl rfl
          · exact .inr ⟨e, hem, rfl⟩
      refine ⟨_, rfl, rfl, _, rfl, ite2 (fun _ => ?_) (fun _ => ?_)⟩
      · refine ⟨_, rfl, _, rfl, _, _, rfl, rfl, _, rfl, ite2 (fun _ => ?_) (fun _ => ?_)⟩
        · exact ⟨_, rfl, fin _ _ _ _ (.inr ⟨rfl, rfl⟩) (.inr ⟨rfl, rfl⟩)⟩
        · exact fin _ _ _ _ (.inr ⟨rfl, rfl⟩) (.inl ⟨rfl, rfl⟩)
      · refine ⟨_, rfl, _, _, rfl, rfl, _, rfl, ite2 (fun _ => ?_) (fun _ => ?_)⟩
        · exact ⟨_, rfl, fin _ _ _ _ (.inl ⟨rfl, rfl⟩) (.inr ⟨rfl, rfl⟩)⟩
        · exact fin _ _ _ _ (.inl ⟨rfl, rfl⟩) (.inl ⟨rfl, rfl⟩)
end
end Ag

end
/-! ## LH -/
section
set_option linter.all false
set_option maxRecDepth 100000
set_option maxHeartbeats 4000000
namespace Ag
open PySem PySem.Spec PyProof.Rows L2
open SX (S S_len S_cat S_inj)
theorem openS : (Str.ofString "open") = S [111,112,101,110] := by decide +kernel
theorem clnA_ints : ∀ {ns : List Int} {many : Nat}, many ≤ 100 → (∀ k ∈ ns, 1 ≤ k ∧ k ≤ many) → clnA (ns.map PyData.int) = true
  | [], _, _, _ => by simp [clnA]
  | n :: ns, m, hm, h => by
    have h1 := h n List.mem_cons_self
    rw [List.map_cons]
    simp only [clnA, clnB, Bool.and_eq_true, decide_eq_true_eq]
    exact ⟨by omega, clnA_ints hm fun k hk => h k (List.mem_cons_of_mem _ hk)⟩
theorem bulk_ints : ∀ ns : List Int, PyData.bulkAll (ns.map PyData.int) = ns.length
  | [] => by simp [PyData.bulkAll]
  | n :: ns => by
    rw [List.map_cons]
    simp only [PyData.bulkAll, PyData.bulk, bulk_ints ns, List.length_cons]
    omega
theorem clnA_strs : ∀ {ds : List PyData}, (∀ d ∈ ds, ∃ x : Str, d = .str x ∧ okB x) → clnA ds = true
  | [], _ => by simp [clnA]
  | d :: ds, h => by
    obtain ⟨x, rfl, hx⟩ := h d List.mem_cons_self
    simp only [clnA, clnB, Bool.and_eq_true]
    exact ⟨hx.1, clnA_strs fun d hd => h d (List.mem_cons_of_mem _ hd)⟩
structure Cl (d : PyData) (n b : Nat) : Prop where
  cl : clnB d = true
  dp : d.depth ≤ n
  bk : d.bulk ≤ b
theorem Cl.gd {d : PyData} {n b : Nat} (h : Cl d n b) (q : Bool) : Gd q d n b := ⟨cln_ok d h.cl, h.dp, h.bk⟩
def viewG (d : PyData) : Prop := ∃ ds, d = .tuple ds ∧ ds.length = 7 ∧ Cl d 2 7000
theorem mk_view {x : Str} {d1 d2 d3 d4 d5 : PyData} {y : Str} {many : Nat} (hm : many ≤ 40) (hx : strOkB x = true) (hx2 : x.cps.size ≤ 10) (h1 : d1 = .none ∨ ∃ k : Nat, k ≤ 1000000 ∧ d1 = .int (k : Int)) (h2 : bodiesG many d2) (h3 : someG many d3) (h4 : endG many d4) (h5 : endG many d5)
    (hy : strOkB y = true) (hy2 : y.cps.size ≤ 10) : viewG (.tuple [.str x, d1, d2, d3, d4, d5, .str y]) := by
  refine ⟨_, rfl, rfl, ?_, ?_, ?_⟩
  · obtain ⟨ds, rfl, l2, _, c2⟩ := h2
    obtain ⟨ns, rfl, l3, c3⟩ := h3
    have e1 : clnB d1 = true := by
      rcases h1 with rfl | ⟨k, hk, rfl⟩
      · simp [clnB]
      · simp only [clnB, Bool.and_eq_true, decide_eq_true_eq]; omega
    have ee : ∀ {d}, endG many d → clnB d = true := fun {d} h => by
      rcases h with rfl | ⟨k, hk, rfl⟩
      · simp [clnB]
      · simp only [clnB, Bool.and_eq_true, decide_eq_true_eq]; omega
    have e2 : clnB (.tuple ds) = true := by
      simp only [clnB, Bool.and_eq_true, decide_eq_true_eq]
      exact ⟨by omega, clnA_strs c2⟩
    have e3 : clnB (.tuple (ns.map .int)) = true := by
      simp only [clnB, Bool.and_eq_true, decide_eq_true_eq]
      exact ⟨by rw [List.length_map]; omega, clnA_ints (by omega) c3⟩
    have e0 : clnB (.str x) = true := by simpa only [clnB] using hx
    have e6 : clnB (.str y) = true := by simpa only [clnB] using hy
    rw [clnB]
    simp only [clnA, e0, e1, e2, e3, ee h4, ee h5, e6]
    rfl
  · obtain ⟨ds, rfl, l2, c2, _⟩ := h2
    obtain ⟨ns, rfl, l3, c3⟩ := h3
    have ee : ∀ {d}, endG many d → d.depth = 0 := fun {d} h => by
      rcases h with rfl | ⟨k, hk, rfl⟩ <;> simp [PyData.depth]
    have e1 : d1.depth = 0 := by rcases h1 with rfl | ⟨k, hk, rfl⟩ <;> simp [PyData.depth]
    have e2 := (c2 true).dp
    simp only [PyData.depth, PyData.depthAll, ee h4, ee h5, e1, depth_ints]
    omega
  · obtain ⟨ds, rfl, l2, c2, _⟩ := h2
    obtain ⟨ns, rfl, l3, c3⟩ := h3
    have ee : ∀ {d}, endG many d → d.bulk = 0 := fun {d} h => by
      rcases h with rfl | ⟨k, hk, rfl⟩ <;> simp [PyData.bulk]
    have e1 : d1.bulk = 0 := by rcases h1 with rfl | ⟨k, hk, rfl⟩ <;> simp [PyData.bulk]
    have e2 := (c2 true).bk
    simp only [PyData.bulk, PyData.bulkAll, ee h4, ee h5, e1, bulk_ints]
    have : many * 151 ≤ 40 * 151 := Nat.mul_le_mul_right _ hm
    omega
section
variable {P : Program} {w : World} {K : PySem.W.Frag} {mg : Str → Option Value} {base : Heap} {tn tw tb : Tok}
def spDrawn : Sp := fun vs H Q _ => ∃ (p c : Addr) (many : Nat), vs = [.ref p, .int many] ∧ Dk p c H ∧ many ≤ 40 ∧ Outs p c H viewG Q
theorem ok_drawn {f f1 f2 f3 f4 f5 : Addr} {fd fd1 fd2 fd3 fd4 fd5 : FuncData} (F : Fn K mg "_law_drawn_view" s__law_drawn_view ["_law_deck", "_law_many"] f fd) (B : Con mg tn tw tb) (F__law_draw : Fn K mg "_law_draw" s__law_draw ["_law_deck", "_law_many"] f1 fd1) (F__law_pick : Fn K mg "_law_pick" s__law_pick ["_law_deck", "_law_some_here"] f2 fd2)
    (F__law_seen : Fn K mg "_law_seen" s__law_seen ["_law_deck", "_law_many"] f3 fd3) (G__law_seen : FnOk P w K mg base CX0 3 f3 fd3 ["_law_deck", "_law_many"] spSeenM)
    (F__law_word : Fn K mg "_law_word" s__law_word ["_law_deck"] f4 fd4) (G__law_word : FnOk P w K mg base CX0 3 f4 fd4 ["_law_deck"] spMkWord)
    (F__law_bodies : Fn K mg "_law_bodies" s__law_bodies ["_law_deck", "_law_many"] f5 fd5) (G__law_bodies : FnOk P w K mg base CX0 4 f5 fd5 ["_law_deck", "_law_many"] spMkBodies) : FnOk P w K mg base CX0 5 f fd ["_law_deck", "_law_many"] spDrawn := by
  have G__law_draw : FnOk P w K mg base CX0 1 f1 fd1 ["_law_deck", "_law_many"] spDraw := ok_draw F__law_draw B.toBlt
  have G__law_pick : FnOk P w K mg base CX0 2 f2 fd2 ["_law_deck", "_law_some_here"] spPick := ok_pick F__law_pick B.toBlt F__law_draw
  refine F.F.ok sc__law_drawn_view (fun vs H Q E h => ?_) (fun cdv A outer s H vs Q E hr h => ?_)
  · obtain ⟨p, c, m, rfl, _⟩ := h
    rfl
  · obtain ⟨p, c, m, rfl, dk, hm, q⟩ := h
    refine ⟨_, (pss_cons (ps_asg (pe_call G__law_seen (hr.mono (by decide)) (by rfl) F__law_seen.g F__law_seen.F.kp F__law_seen.b .nil pass0 (pa_cons (pv 0) (pa_cons (pv 1) pa_nil))) (pg_tup rfl (pgs_cons (pg_name (i := 2) sc__law_drawn_view.nd rfl (Or.inl rfl)) (pgs_cons (pg_name (i := 3) sc__law_drawn_view.nd rfl (Or.inl rfl)) (pgs_cons (pg_name (i := 4) sc__law_drawn_view.nd rfl (Or.inl rfl)) pgs_nil)))))
      (pss_cons (ps_set (i := 5) sc__law_drawn_view.nd rfl (.inl rfl) (pe_call G__law_pick (hr.mono (by decide)) (by rfl) F__law_pick.g F__law_pick.F.kp F__law_pick.b .nil pass0 (pa_cons (pv 0) (pa_cons (pe_lst (pa_cons pe_int (pa_cons pe_int (pa_cons pe_int (pa_cons (pe_op op_sub (pe_op op_pow pe_int pe_int) pe_int) (pa_cons (pe_call G__law_draw (hr.mono (by decide)) (by rfl) F__law_draw.g F__law_draw.F.kp F__law_draw.b .nil pass0 (pa_cons (pv 0) (pa_cons pe_int pa_nil))) pa_nil)))))) pa_nil))))
      (C8.pss_cut (ps_if (PW.pt (pw_and (pt_cmpR (op_eqD hr.units) (pv 2) (pe_tup pa_nil) (nomark _)) (pw_and (pt_cmpR op_isN (pv 3) pe_non (nomark _)) (pw_and (pt_cmpR op_isN (pv 4) pe_non (nomark _)) (pw_and1 (pt_cmpR op_eq (pe_call G__law_draw (hr.mono (by decide)) (by rfl) F__law_draw.g F__law_draw.F.kp F__law_draw.b .nil pass0 (pa_cons (pv 0) (pa_cons pe_int pa_nil))) pe_int (nomark _)))))))
      (pss_one (ps_set (i := 5) sc__law_drawn_view.nd rfl (.inl rfl) pe_non))
      pss_nil)
      (pss_one (ps_ret (pe_tup (pa_cons (pe_call G__law_word (hr.mono (by decide)) (by rfl) F__law_word.g F__law_word.F.kp F__law_word.b .nil pass0 (pa_cons (pv 0) pa_nil)) (pa_cons (pv 5) (pa_cons (pe_call G__law_bodies (hr.mono (by decide)) (by rfl) F__law_bodies.g F__law_bodies.F.kp F__law_bodies.b .nil pass0 (pa_cons (pv 0) (pa_cons (pv 1) pa_nil))) (pa_cons (pv 2) (pa_cons (pv 3) (pa_cons (pv 4) (pa_cons (pe_call G__law_pick (hr.mono (by decide)) (by rfl) F__law_pick.g F__law_pick.F.kp F__law_pick.b .nil pass0 (pa_cons (pv 0) (pa_cons (pe_lst (pa_cons pe_str (pa_cons pe_str pa_nil))) pa_nil))) pa_nil))))))))))))), ?_⟩
    refine ⟨_, rfl, _, rfl, p, c, m, rfl, dk, hm, fun a v3 v4 v5 d3 d4 d5 H1 g1 ha h3 h4 h5 k3 k4 k5 => ?_⟩
    refine ⟨a, _, rfl, SqT.of ha.2.2, rfl, _, _, rfl, _, _, rfl, _, _, rfl, rfl, ?_⟩
    -- the boot
    refine ⟨_, rfl, _, _, rfl, rfl, ⟨by decide, by decide, by decide⟩, _, _, rfl, rfl, _, rfl, p, c, 1000, rfl, g1.2, by decide, by decide, fun bt H2 hbt g2 => ⟨sz (by show 5 ≤ 16000000; decide), fun l hl => ?_⟩⟩
    have g12 := g1.trans g2
    have g3 := g12.trans (Gx.new (o := .lst [.int 1, .int 2, .int 0, .int ((10 : Int) ^ (6 : Int).toNat - 2), .int (bt : Int)]) g12.2 hl)
    have a3 := At.new (o := .lst [.int 1, .int 2, .int 0, .int ((10 : Int) ^ (6 : Int).toNat - 2), .int (bt : Int)]) g12.2 hl
    have k2 : Kp p c H1 (upd H2 l (.lst [.int 1, .int 2, .int 0, .int ((10 : Int) ^ (6 : Int).toNat - 2), .int (bt : Int)])) := g2.kp.trans (.same (same_new hl))
    have h3 := h3.to k2
    have h4 := h4.to k2
    have h5 := h5.to k2
    clear k2
    generalize upd H2 l (.lst [.int 1, .int 2, .int 0, .int ((10 : Int) ^ (6 : Int).toNat - 2), .int (bt : Int)]) = H3 at g3 a3 h3 h4 h5 ⊢
    refine ⟨p, c, .ref l, rfl, g3.2, .inl ⟨l, _, rfl, a3, (by show 1 ≤ 5; decide), (by show 5 ≤ 100000; decide), fun r x H4 hx g4 => ?_⟩⟩
    obtain ⟨k, hk, rfl⟩ : ∃ k : Nat, k ≤ 1000000 ∧ x = .int (k : Int) := by
      have mem := List.mem_of_getElem? hx
      simp only [List.mem_cons, List.not_mem_nil, or_false] at mem
      rcases mem with rfl | rfl | rfl | rfl | rfl
      · exact ⟨1, by decide, rfl⟩
      · exact ⟨2, by decide, rfl⟩
      · exact ⟨0, by decide, rfl⟩
      · exact ⟨999998, by decide, congrArg V.int (by decide +kernel)⟩
      · exact ⟨bt, by omega, rfl⟩
    have h3 := h3.to g4.kp
    have h4 := h4.to g4.kp
    have h5 := h5.to g4.kp
    have g4 := g3.trans g4
    refine ⟨fun σ H' => ∃ v1 d1, σ = [some (.ref p), some (.int (m : Int)), some v3, some v4, some v5, some v1] ∧ Gx p c H H' ∧ Dg p c H' v1 d1 ∧ (d1 = .none ∨ ∃ k : Nat, k ≤ 1000000 ∧ d1 = .int (k : Int)) ∧ Dg p c H' v3 d3 ∧ Dg p c H' v4 d4 ∧ Dg p c H' v5 d5, ?_, ?_⟩
    · have no : ∀ H', Gx p c H4 H' → ∃ v1 d1, ([some (.ref p), some (.int (m : Int)), some v3, some v4, some v5, some (.int (k : Int))] : L2.St) = [some (.ref p), some (.int (m : Int)), some v3, some v4, some v5, some v1] ∧ Gx p c H H' ∧ Dg p c H' v1 d1 ∧ (d1 = .none ∨ ∃ k : Nat, k ≤ 1000000 ∧ d1 = .int (k : Int)) ∧ Dg p c H' v3 d3 ∧ Dg p c H' v4 d4 ∧ Dg p c H' v5 d5 :=
        fun H' g => ⟨_, _, rfl, g4.trans g, .int (k : Int), .inr ⟨k, hk, rfl⟩, h3.to g.kp, h4.to g.kp, h5.to g.kp⟩
      obtain ⟨ns, rfl, _⟩ := id k3
      cases h3 with
      | @tup a3 xs _ ha3 hA3 =>
      have e3 : xs = ns.map V.int := by
        have : ∀ {xs : List V} {ns : List Int}, DgA p c H4 xs (ns.map PyData.int) → xs = ns.map V.int := by
          intro xs
          induction xs with
          | nil =>
            intro ns h
            cases ns with
            | nil => rfl
            | cons _ _ => cases h
          | cons x xs ih =>
            intro ns h
            cases ns with
            | nil => cases h
            | cons n ns =>
              cases h with
              | cons h1 h2 =>
                cases h1
                rw [List.map_cons, ← ih h2]
        exact this hA3
      subst e3
      refine ⟨_, rfl, sz (by show 0 ≤ 16000000; decide), fun t ht => ?_⟩
      have gt := Gx.new (o := .tup []) g4.2 ht
      refine ⟨.tuple (ns.map .int), .tuple [], .tup (SqT.of ((ha3.kp gt.kp).2.2)) (dpIntsG _), .tup (SqT.of upd_same) .nil, shaped_tup _, shaped_tup [], _, rfl, ?_⟩
      refine ite2 (fun _ => ?_) (fun _ => iteF (no _ gt))
      refine ⟨_, rfl, rfl, _, rfl, ite2 (fun _ => ?_) (fun _ => iteF (no _ gt))⟩
      refine ⟨_, rfl, rfl, _, rfl, ite2 (fun _ => ?_) (fun _ => iteF (no _ gt))⟩
      refine ⟨_, rfl, p, c, 2, rfl, gt.2, by decide, by decide, fun z H5 hz g5 => ?_⟩
      have g5 := gt.trans g5
      refine ⟨rfl, _, rfl, ite2 (fun _ => ?_) (fun _ => no _ g5)⟩
      exact ⟨_, _, rfl, g4.trans g5, .non, .inl rfl, .tup (ha3.kp g5.kp) (hA3.to g5.kp), h4.to g5.kp, h5.to g5.kp⟩
    · rintro σ H5 ⟨v1, d1, rfl, g5, h1, k1, h3, h4, h5⟩
      refine ⟨_, rfl, p, c, rfl, g5.2, fun x H6 hx hx2 g6 => ?_⟩
      have h1 := h1.to g6.kp
      have h3 := h3.to g6.kp
      have h4 := h4.to g6.kp
      have h5 := h5.to g6.kp
      have g6 := g5.trans g6
      refine ⟨_, rfl, _, rfl, _, rfl, p, c, m, rfl, g6.2, hm, fun v2 d2 H7 g7 h2 k2 => ?_⟩
      have h1 := h1.to g7.kp
      have h3 := h3.to g7.kp
      have h4 := h4.to g7.kp
      have h5 := h5.to g7.kp
      have g7 := g6.trans g7
      refine ⟨_, rfl, _, rfl, _, rfl, _, rfl, sz (by show 2 ≤ 16000000; decide), fun l2 hl2 => ?_⟩
      have s8 := same_new (o := .lst [.str (Str.ofString "open"), .str (Str.ofString "broken")]) hl2
      have g8 := g7.trans (Gx.same g7.2 s8)
      have a8 := At.new (o := .lst [.str (Str.ofString "open"), .str (Str.ofString "broken")]) g7.2 hl2
      refine ⟨p, c, .ref l2, rfl, g8.2, .inl ⟨l2, _, rfl, a8, (by show 1 ≤ 2; decide), (by show 2 ≤ 100000; decide), fun r y H9 hy g9 => ?_⟩⟩
      obtain ⟨y, rfl, hy1, hy2⟩ : ∃ z : Str, y = .str z ∧ strOkB z = true ∧ z.cps.size ≤ 10 := by
        have mem := List.mem_of_getElem? hy
        simp only [List.mem_cons, List.not_mem_nil, or_false] at mem
        rcases mem with rfl | rfl
        · exact ⟨_, rfl, by decide +kernel, by decide +kernel⟩
        · exact ⟨_, rfl, by decide +kernel, by decide +kernel⟩
      have kk := (Kp.same s8).trans g9.kp
      have g9 := g8.trans g9
      refine ⟨sz (by show 7 ≤ 16000000; decide), fun t ht => ?_⟩
      have st := same_new (o := .tup [.str x, v1, v2, v3, v4, v5, .str y]) ht
      have kk := kk.trans (.same st)
      exact q _ _ _ (g9.trans (Gx.same g9.2 st)) (.tup (At.new g9.2 ht) (.cons (.str x) (.cons (h1.to kk) (.cons (h2.to kk) (.cons (h3.to kk) (.cons (h4.to kk) (.cons (h5.to kk) (.cons (.str y) .nil))))))))
        (mk_view hm hx hx2 k1 k2 k3 k4 k5 hy1 hy2)
end
end Ag

end
/-! ## LI -/
section
set_option linter.all false
set_option maxRecDepth 100000
set_option maxHeartbeats 4000000
namespace Ag
open PySem PySem.Spec PyProof.Rows L2
open SX (S S_len S_cat S_inj)
theorem log_small {n : Nat} (h : n < 2 ^ 200) : ((n : Nat) : Int).natAbs.log2 < 1920 := by
  rw [Int.natAbs_natCast]
  by_cases z : n = 0
  · subst z; decide
  · have h2 : n < 2 ^ 1920 := Nat.lt_of_lt_of_le h (Nat.pow_le_pow_right (by decide) (by decide))
    exact (Nat.log2_lt z).mpr h2
/-! ### tuples cut and joined -/
theorem cutV_to (xs : List V) (b : Nat) : cutV xs none (some (b : Int)) = xs.take b := by
  unfold cutV
  rw [HT.sIx_none, HT.sIx_nat, List.drop_zero, Nat.sub_zero]
  by_cases hb : b ≤ xs.length
  · rw [Nat.min_eq_left hb]
  · rw [Nat.min_eq_right (by omega), List.take_of_length_le (Nat.le_refl _), List.take_of_length_le (by omega)]
theorem cutV_from (xs : List V) {a : Nat} (ha : a ≤ xs.length) : cutV xs (some (a : Int)) none = xs.drop a := by
  unfold cutV
  rw [sIx_at ha, HT.sIx_none, List.take_of_length_le (by rw [List.length_drop]; exact Nat.le_refl _)]
section
variable {K : PySem.W.Frag} {p c a b : Addr} {H : Hp} {xs ys : List V} {Q : VK}
theorem sl_any {lo hi : Option Int} (dk : Dk p c H) (ha : At p c H a (.tup xs)) (k : ∀ a' H', Same H H' → At p c H' a' (.tup (cutV xs lo hi)) → Q (.ref a') H') : rSlA K (.ref a) lo hi H Q := by
  refine ⟨a, xs, rfl, SqT.of ha.2.2, fun hw => k a H (Same.refl _) ?_, fun hw t ht => k t _ (same_new ht) (At.new dk ht)⟩
  have e : cutV xs lo hi = xs := by
    unfold cutV
    rw [hw.1, hw.2, List.drop_zero, Nat.sub_zero, List.take_length]
  rw [e]
  exact ha
theorem cat_any (dk : Dk p c H) (ha : At p c H a (.tup xs)) (hb : At p c H b (.tup ys)) (hz : xs.length + ys.length ≤ 1000000) (k : ∀ a' H', Same H H' → At p c H' a' (.tup (xs ++ ys)) → Q (.ref a') H') : rCatA K (.ref a) (.ref b) H Q := by
  refine ⟨a, b, xs, ys, rfl, rfl, SqT.of ha.2.2, SqT.of hb.2.2, sz (by omega), fun hx => k b H (Same.refl _) ?_, fun hx hy => k a H (Same.refl _) ?_, fun hx hy t ht => k t _ (same_new ht) (At.new dk ht)⟩
  · rw [hx]
    exact hb
  · rw [hy, List.append_nil]
    exact ha
end
theorem eqv_t0 (ds : List PyData) : (!PyData.eqv (.tuple ds) (.tuple [])) = decide (ds ≠ []) := by
  cases ds <;> simp [PyData.eqv, PyData.eqvAll]
def bentG (d r : PyData) : Prop := ∃ q, Gd q r (d.depth + 3) (2 * d.bulk + 400)
theorem bulk_split {ds : List PyData} {i : Nat} {d : PyData} (h : ds[i]? = some d) : PyData.bulkAll ds = PyData.bulkAll (ds.take i) + (d.bulk + 1) + PyData.bulkAll (ds.drop (i + 1)) ∧ d.depth ≤ PyData.depthAll ds := by
  have hi := (List.getElem?_eq_some_iff.mp h).1
  have he := (List.getElem?_eq_some_iff.mp h).2
  have e : ds = ds.take i ++ d :: ds.drop (i + 1) := by
    rw [← he, List.getElem_cons_drop, List.take_append_drop]
  refine ⟨?_, ?_⟩
  · have := bulk_app (ds.take i) (d :: ds.drop (i + 1))
    rw [← e] at this
    rw [this]
    simp only [PyData.bulkAll]
    omega
  · have key : ∀ (l : List PyData), d ∈ l → d.depth ≤ PyData.depthAll l := by
      intro l
      induction l with
      | nil => intro h; cases h
      | cons x l ih =>
        intro h
        simp only [PyData.depthAll]
        rcases List.mem_cons.mp h with rfl | h
        · omega
        · have := ih h
          omega
    exact key ds (List.mem_of_getElem? h)
section
variable {P : Program} {w : World} {K : PySem.W.Frag} {mg : Str → Option Value} {base : Heap} {tn tw tb : Tok}
def spBent : Nat → Sp
  | 0 => fun _ _ _ _ => False
  | n + 1 => fun vs H Q _ => ∃ (p c : Addr) (v : V) (d : PyData), vs = [.ref p, v] ∧ Dk p c H ∧ Dg p c H v d ∧ clnB d = true ∧ d.depth ≤ n ∧ d.depth ≤ 50 ∧ Outs p c H (bentG d) Q
theorem ok_bent {f f1 f2 f3 : Addr} {fd fd1 fd2 fd3 : FuncData} (F : Fn K mg "_law_bent" s__law_bent ["_law_deck", "_law_thing"] f fd) (B : Con mg tn tw tb) (F__law_draw : Fn K mg "_law_draw" s__law_draw ["_law_deck", "_law_many"] f1 fd1) (F__law_pick : Fn K mg "_law_pick" s__law_pick ["_law_deck", "_law_some_here"] f2 fd2)
    (F__law_odd : Fn K mg "_law_odd" s__law_odd ["_law_deck"] f3 fd3) (n : Nat) : FnOk P w K mg base CX0 (3 + n) f fd ["_law_deck", "_law_thing"] (spBent n) := by
  induction n with
  | zero => exact ⟨fun _ _ _ _ h => h.elim, fun _ _ _ _ _ _ _ _ _ _ _ _ _ h => h.elim⟩
  | succ n G__law_bent =>
    have G__law_draw : FnOk P w K mg base CX0 1 f1 fd1 ["_law_deck", "_law_many"] spDraw := ok_draw F__law_draw B.toBlt
    have G__law_pick : FnOk P w K mg base CX0 2 f2 fd2 ["_law_deck", "_law_some_here"] spPick := ok_pick F__law_pick B.toBlt F__law_draw
    have G__law_odd : FnOk P w K mg base CX0 3 f3 fd3 ["_law_deck"] spOdd := ok_odd F__law_odd B F__law_draw F__law_pick
    have F__law_bent := F
    refine F.F.ok sc__law_bent (fun vs H Q E h => ?_) (fun cdv A outer s H vs Q E hr h => ?_)
    · obtain ⟨p, c, v, d, rfl, _⟩ := h
      rfl
    · obtain ⟨p, c, x, d, rfl, dk, hd, hcl, hdn, hd50, q⟩ := h
      refine ⟨_, (pss_cons (ps_set (i := 2) sc__law_bent.nd rfl (.inl rfl) (pe_call G__law_draw (hr.mono (by show _ ≤ 3 + n; omega)) (by rfl) F__law_draw.g F__law_draw.F.kp F__law_draw.b .nil pass0 (pa_cons (pv 0) (pa_cons pe_int pa_nil))))
      (pss_cons (ps_if (PW.pt (pw_and (pt_val (pe_callB call_isi (by rfl) B.n_isinstance (by decide +kernel) (pa_cons (pv 1) (pa_cons (pe_bltn (v := .ty "tuple") (by rfl) B.n_tuple (by decide +kernel) rfl) pa_nil)))) (pw_and (pt_cmpR (op_neG hr.units) (pv 1) (pe_tup pa_nil) (nomark _)) (pw_and1 (pt_cmpR op_gt (pv 2) pe_int (nomark _))))))
      (pss_cons (ps_set (i := 3) sc__law_bent.nd rfl (.inl rfl) (pe_call G__law_draw (hr.mono (by show _ ≤ 3 + n; omega)) (by rfl) F__law_draw.g F__law_draw.F.kp F__law_draw.b .nil pass0 (pa_cons (pv 0) (pa_cons (pe_callB call_len_seq (by rfl) B.n_len PySem.boot_len (pa_cons (pv 1) pa_nil)) pa_nil))))
        (pss_cons (ps_if (pt_cmpR op_lt (pv 2) pe_int (nomark _))
        (pss_one (ps_ret (pe_ifExp (pt_cmpR op_eq (pv 2) pe_int (nomark _)) (pe_op op_catA (pe_slice sl_tupA (pv 1) po_none (po_some (pe_op op_add (pv 3) pe_int))) (pe_slice sl_tupA (pv 1) (po_some (pv 3)) po_none)) (pe_op op_catA (pe_slice sl_tupA (pv 1) po_none (po_some (pv 3))) (pe_slice sl_tupA (pv 1) (po_some (pe_op op_add (pv 3) pe_int)) po_none)))))
        pss_nil)
        (pss_one (ps_ret (pe_op op_catA (pe_op op_catA (pe_slice sl_tupA (pv 1) po_none (po_some (pv 3))) (pe_tup (pa_cons (pe_call G__law_bent (hr.mono (by show _ ≤ 3 + n; omega)) (by rfl) F__law_bent.g F__law_bent.F.kp F__law_bent.b .nil pass0 (pa_cons (pv 0) (pa_cons (pe_ix ix_tup (pv 1) (pv 3) (fun _ _ => rfl)) pa_nil))) pa_nil))) (pe_slice sl_tupA (pv 1) (po_some (pe_op op_add (pv 3) pe_int)) po_none))))))
      pss_nil)
      (pss_cons (ps_if (PW.pt (pw_and (pt_cmpR op_eq (pv 2) pe_int (nomark _)) (pw_and1 (pt_val (pe_callB call_isi (by rfl) B.n_isinstance (by decide +kernel) (pa_cons (pv 1) (pa_cons (pe_bltn (v := .ty "tuple") (by rfl) B.n_tuple (by decide +kernel) rfl) pa_nil)))))))
      (pss_one (ps_ret (pe_callTy call_list_of (by rfl) B.n_list (by decide +kernel) (pa_cons (pv 1) pa_nil))))
      pss_nil)
      (pss_cons (ps_if (PW.pt (pw_and (pt_val (pe_callB call_isi (by rfl) B.n_isinstance (by decide +kernel) (pa_cons (pv 1) (pa_cons (pe_bltn (v := .ty "int") (by rfl) B.n_int (by decide +kernel) rfl) pa_nil)))) (pw_and1 (pt_cmpR op_lt (pv 2) pe_int (nomark _)))))
      (pss_one (ps_ret (pe_call G__law_pick (hr.mono (by show _ ≤ 3 + n; omega)) (by rfl) F__law_pick.g F__law_pick.F.kp F__law_pick.b .nil pass0 (pa_cons (pv 0) (pa_cons (pe_lst (pa_cons (pe_op op_add (pv 1) pe_int) (pa_cons (pe_op op_sub (pv 1) pe_int) (pa_cons (pe_cmpR op_eq (pv 1) pe_int (nomark _)) (pa_cons (pe_callTy call_str_int (by rfl) B.n_str (by decide +kernel) (pa_cons (pv 1) pa_nil)) (pa_cons (pe_op op_add (pv 1) pe_int) pa_nil)))))) pa_nil)))))
      pss_nil)
      (pss_one (ps_ret (pe_call G__law_odd (hr.mono (by show _ ≤ 3 + n; omega)) (by rfl) F__law_odd.g F__law_odd.F.kp F__law_odd.b .nil pass0 (pa_cons (pv 0) pa_nil)))))))), ?_⟩
      refine ⟨_, rfl, p, c, 9, rfl, dk, by decide, by decide, fun way H1 hway g1 => ?_⟩
      have hd1 := hd.to g1.kp
      dsimp only [gName]
      unfold tSeq
      dsimp only
      unfold tIfS
      refine testIf (fun b H' => Same H1 H' ∧ (b = true → isT d = true ∧ isT0 d = false)) (fun Q' hQ' => ?_) ?_
      · refine ⟨_, rfl, x, .ty "tuple", _, _, _, rfl, .ty "tuple", hd1.tyx, isi_T d, _, rfl, ?_⟩
        cases hT : isT d with
        | false => exact iteF (hQ' _ _ ⟨Same.refl _, fun z => by cases z⟩)
        | true =>
          refine iteT ?_
          refine ⟨_, rfl, sz (by show 0 ≤ 16000000; decide), fun t ht => ?_⟩
          have gt := Gx.new (o := .tup []) g1.2 ht
          have sh : SeqAt.shaped d = true := (Gd.mk (n := 50) (cln_ok d hcl) hd50 (Nat.le_refl _)).shaped (by decide)
          refine ⟨p, c, d, .tuple [], hd1.to gt.kp, .tup (At.new g1.2 ht) .nil, sh, shaped_tup [], _, rfl, ?_⟩
          cases d with
          | tuple ds =>
            rw [eqv_t0]
            refine ite2 (fun h => ?_) (fun _ => hQ' _ _ ⟨same_new ht, fun z => by cases z⟩)
            have hne : ds ≠ [] := of_decide_eq_true h
            refine ⟨_, rfl, _, _, rfl, rfl, _, rfl, hQ' _ _ ⟨same_new ht, fun _ => ⟨rfl, ?_⟩⟩⟩
            cases ds with
            | nil => exact absurd rfl hne
            | cons _ _ => rfl
          | _ => simp [isT] at hT
      rintro b1 H2 ⟨s2, hb1⟩
      have hd2 := hd1.to (.same s2)
      have g2 := g1.trans (Gx.same g1.2 s2)
      clear hd1 hd
      refine ite2 (fun h => ?_) (fun _ => ?_)
      · -- inside of it
        obtain ⟨hT, hT0⟩ := hb1 h
        cases hd2 with
        | @tup a xs ds ha hA =>
          have hlen := hA.len
          have hcl2 := hcl
          simp only [clnB, Bool.and_eq_true, decide_eq_true_eq] at hcl2
          obtain ⟨hl50, hclA⟩ := hcl2
          have hne : 1 ≤ ds.length := by
            cases ds with
            | nil => simp [isT0] at hT0
            | cons _ _ => simp
          refine ⟨_, rfl, _, rfl, a, xs, rfl, .inr (SqT.of ha.2.2), p, c, (xs.length : Int), rfl, g2.2, by omega, by omega, fun i H3 hi g3 => ?_⟩
          have hi' : i < ds.length := by omega
          have ha3 := ha.kp g3.kp
          have hA3 := hA.to g3.kp
          have g3 := g2.trans g3
          have ok : ∀ q, okVA q ds = true := fun q => clnA_ok ds hclA
          have gA : ∀ q, GdA q ds (PyData.depthAll ds) (PyData.bulkAll ds) := fun q => ⟨ok q, Nat.le_refl _, Nat.le_refl _⟩
          have edp : (PyData.tuple ds).depth = PyData.depthAll ds + 1 := by simp [PyData.depth]
          have ebk : (PyData.tuple ds).bulk = PyData.bulkAll ds := by simp [PyData.bulk]
          have ei : ((i : Int) + 1) = ((i + 1 : Nat) : Int) := by omega
          refine ⟨_, rfl, _, _, rfl, rfl, _, rfl, ite2 (fun _ => ?_) (fun _ => ?_)⟩
          · refine ⟨_, rfl, rfl, _, rfl, ite2 (fun _ => ?_) (fun _ => ?_)⟩
            · -- an item twice
              refine ⟨_, rfl, _, rfl, _, _, rfl, rfl, _, rfl, sl_any g3.2 ha3 fun a1 H4 s4 h1 => ?_⟩
              have g4 := g3.trans (Gx.same g3.2 s4)
              rw [ei, cutV_to] at h1
              refine ⟨_, rfl, _, rfl, _, rfl, ?_⟩
              dsimp only [tNoPart]
              refine sl_any g4.2 (ha3.kp (.same s4)) fun a2 H5 s5 h2 => ?_
              have g5 := g4.trans (Gx.same g4.2 s5)
              rw [cutV_from xs (by omega)] at h2
              refine cat_any g5.2 (h1.kp (.same s5)) h2 (by simp only [List.length_take, List.length_drop]; omega) fun a3 H6 s6 h3 => ?_
              have hA6 := ((hA3.to (.same s4)).to (.same s5)).to (.same s6)
              refine q _ _ _ (g5.trans (Gx.same g5.2 s6)) (.tup h3 ((hA6.take (i + 1)).app (hA6.drop i))) ⟨true, ?_⟩
              have := Gd.tup (((gA true).take (i + 1)).app ((gA true).drop i) (Nat.le_refl _)) (by rw [List.length_append, List.length_take, List.length_drop]; omega)
              exact this.mono (by rw [edp]; omega) (by rw [ebk]; omega)
            · -- an item left out
              refine ⟨_, rfl, _, rfl, _, rfl, sl_any g3.2 ha3 fun a1 H4 s4 h1 => ?_⟩
              have g4 := g3.trans (Gx.same g3.2 s4)
              rw [cutV_to] at h1
              refine ⟨_, rfl, _, rfl, _, _, rfl, rfl, _, rfl, ?_⟩
              dsimp only [tNoPart]
              refine sl_any g4.2 (ha3.kp (.same s4)) fun a2 H5 s5 h2 => ?_
              have g5 := g4.trans (Gx.same g4.2 s5)
              rw [ei, cutV_from xs (by omega)] at h2
              refine cat_any g5.2 (h1.kp (.same s5)) h2 (by simp only [List.length_take, List.length_drop]; omega) fun a3 H6 s6 h3 => ?_
              have hA6 := ((hA3.to (.same s4)).to (.same s5)).to (.same s6)
              refine q _ _ _ (g5.trans (Gx.same g5.2 s6)) (.tup h3 ((hA6.take i).app (hA6.drop (i + 1)))) ⟨true, ?_⟩
              have := Gd.tup (((gA true).take i).app ((gA true).drop (i + 1)) (Nat.le_refl _)) (by rw [List.length_append, List.length_take, List.length_drop]; omega)
              exact this.mono (by rw [edp]; omega) (by rw [ebk]; omega)
          · -- an item bent
            obtain ⟨y, hy⟩ : ∃ y, xs[i]? = some y := ⟨xs[i]'(by omega), List.getElem?_eq_getElem (by omega)⟩
            refine ⟨_, rfl, _, rfl, _, rfl, sl_any g3.2 ha3 fun a1 H4 s4 h1 => ?_⟩
            have g4 := g3.trans (Gx.same g3.2 s4)
            rw [cutV_to] at h1
            have ha4 := ha3.kp (.same s4)
            have hA4 := hA3.to (.same s4)
            obtain ⟨dy, hdy, hgy⟩ := hA4.at_ hy
            obtain ⟨eb, ed⟩ := bulk_split hdy
            refine ⟨_, rfl, _, rfl, _, rfl, a, xs, _, y, rfl, rfl, SqT.of ha4.2.2, atI_nat hy, ?_⟩
            cases n with
            | zero => rw [edp] at hdn; omega
            | succ n =>
            refine ⟨p, c, y, dy, rfl, g4.2, hgy, clnA_at hclA hdy, by rw [edp] at hdn; omega, by rw [edp] at hd50; omega, fun r dr H5 g5 hr5 kr => ⟨sz (by show 1 ≤ 16000000; decide), fun t ht => ?_⟩⟩
            have h1 := h1.kp g5.kp
            have ha5 := ha4.kp g5.kp
            have hA5 := hA4.to g5.kp
            have g5 := g4.trans g5
            have st := same_new (o := .tup [r]) ht
            have g6 := g5.trans (Gx.same g5.2 st)
            have h6 := At.new (o := .tup [r]) g5.2 ht
            have hr6 := hr5.to (.same st)
            have h1 := h1.kp (.same st)
            have ha6 := ha5.kp (.same st)
            have hA6 := hA5.to (.same st)
            generalize upd H5 t (.tup [r]) = H6 at g6 h6 hr6 h1 ha6 hA6 ⊢
            refine cat_any g6.2 h1 h6 (by simp only [List.length_take, List.length_cons, List.length_nil]; omega) fun a3 H7 s7 h3 => ?_
            have g7 := g6.trans (Gx.same g6.2 s7)
            refine ⟨_, rfl, _, rfl, _, _, rfl, rfl, _, rfl, ?_⟩
            dsimp only [tNoPart]
            refine sl_any g7.2 (ha6.kp (.same s7)) fun a4 H8 s8 h4 => ?_
            have g8 := g7.trans (Gx.same g7.2 s8)
            rw [ei, cutV_from xs (by omega)] at h4
            refine cat_any g8.2 (h3.kp (.same s8)) h4 (by simp only [List.length_take, List.length_drop, List.length_append, List.length_cons, List.length_nil]; omega) fun a5 H9 s9 h5 => ?_
            have kk := ((Kp.same (p := p) (c := c) s7).trans (.same s8)).trans (.same s9)
            have hA9 := hA6.to kk
            obtain ⟨qq, hq⟩ := kr
            refine q _ _ _ (g8.trans (Gx.same g8.2 s9)) (.tup h5 (((hA9.take i).app (.cons (hr6.to kk) .nil)).app (hA9.drop (i + 1)))) ⟨qq, ?_⟩
            have e1 : GdA qq (ds.take i) (PyData.depthAll ds + 3) (PyData.bulkAll (ds.take i)) := ⟨((gA qq).take i).ok, by have := ((gA qq).take i).dp; omega, Nat.le_refl _⟩
            have e2 : GdA qq (ds.drop (i + 1)) (PyData.depthAll ds + 3) (PyData.bulkAll (ds.drop (i + 1))) := ⟨((gA qq).drop (i + 1)).ok, by have := ((gA qq).drop (i + 1)).dp; omega, Nat.le_refl _⟩
            have e3 : GdA qq [dr] (PyData.depthAll ds + 3) (2 * dy.bulk + 401) := .cons (b2 := 0) (hq.mono (by omega) (Nat.le_refl _)) .nil (by omega)
            have := Gd.tup ((e1.app e3 (Nat.le_refl _)).app e2 (Nat.le_refl _)) (by simp only [List.length_append, List.length_take, List.length_drop, List.length_cons, List.length_nil]; omega)
            exact this.mono (by rw [edp]; omega) (by rw [ebk]; omega)
        | _ => simp [isT] at hT
      · try unfold tNext
        try dsimp only
        refine testIf (fun b H' => H' = H2 ∧ (b = true → isT d = true)) (fun Q' hQ' => ?_) ?_
        · refine ⟨_, rfl, rfl, _, rfl, ite2 (fun _ => ?_) (fun _ => hQ' _ _ ⟨rfl, fun z => by cases z⟩)⟩
          refine ⟨_, rfl, x, .ty "tuple", _, _, _, rfl, .ty "tuple", hd2.tyx, isi_T d, _, rfl, hQ' _ _ ⟨rfl, fun z => z⟩⟩
        rintro b2 H3 ⟨rfl, hb2⟩
        refine ite2 (fun h => ?_) (fun _ => ?_)
        · have hT := hb2 h
          cases hd2 with
          | @tup a xs ds ha hA =>
            refine ⟨_, rfl, a, xs, rfl, .inr (SqT.of ha.2.2), fun l hl => ?_⟩
            have sl := same_new (o := .lst xs) hl
            refine q _ (.list ds) _ (g2.trans (Gx.same g2.2 sl)) (.lst (At.new g2.2 hl) (hA.to (.same sl))) ⟨false, ?_⟩
            simp only [clnB, Bool.and_eq_true] at hcl
            have gl := Gd.lst ⟨clnA_ok ds hcl.2, Nat.le_refl _, Nat.le_refl _⟩
            exact gl.mono (by simp only [PyData.depth]; omega) (by simp only [PyData.bulk]; omega)
          | _ => simp [isT] at hT
        · try unfold tNext
          try dsimp only
          refine testIf (fun b H' => H' = H3 ∧ (b = true → isI d = true)) (fun Q' hQ' => ?_) ?_
          · refine ⟨_, rfl, x, .ty "int", _, _, _, rfl, .ty "int", hd2.tyx, isi_I d, _, rfl, ?_⟩
            refine ite2 (fun hi => ?_) (fun _ => hQ' _ _ ⟨rfl, fun z => by cases z⟩)
            exact ⟨_, rfl, _, _, rfl, rfl, _, rfl, hQ' _ _ ⟨rfl, fun _ => hi⟩⟩
          rintro b3 H4 ⟨rfl, hb3⟩
          refine ite2 (fun h => ?_) (fun _ => ?_)
          · have hI := hb3 h
            cases hd2 with
            | int i =>
              simp only [clnB, Bool.and_eq_true, decide_eq_true_eq] at hcl
              obtain ⟨k, rfl⟩ := Int.eq_ofNat_of_zero_le hcl.1
              have hk : k ≤ 1000000000 := by omega
              refine ⟨_, rfl, _, rfl, _, _, rfl, rfl, _, rfl, _, _, rfl, rfl, _, rfl, rfl, _, rfl, _, rfl, log_small (Nat.lt_of_le_of_lt hk (by decide)), _, rfl, _, _, rfl, rfl, sz (by show 5 ≤ 16000000; decide), fun l hl => ?_⟩
              have g5 := g2.trans (Gx.new (o := .lst [.int ((k : Int) + 1), .int ((k : Int) - 1), .bl (decide (V.int (k : Int) = V.int 1)), .str (Str.ofString (toString (k : Int))), .int ((k : Int) + 2)]) g2.2 hl)
              have a5 := At.new (o := .lst [.int ((k : Int) + 1), .int ((k : Int) - 1), .bl (decide (V.int (k : Int) = V.int 1)), .str (Str.ofString (toString (k : Int))), .int ((k : Int) + 2)]) g2.2 hl
              refine ⟨p, c, .ref l, rfl, g5.2, .inl ⟨l, _, rfl, a5, (by show 1 ≤ 5; decide), (by show 5 ≤ 100000; decide), fun r y H6 hy g6 => ?_⟩⟩
              have g6 := g5.trans g6
              have mem := List.mem_of_getElem? hy
              simp only [List.mem_cons, List.not_mem_nil, or_false] at mem
              have it : ∀ j : Int, -1 ≤ j → j ≤ 1000000002 → bentG (.int (k : Int)) (.int j) := fun j h1 h2 => ⟨true, .int (by simp only [intOk, Bool.and_eq_true, decide_eq_true_eq]; omega)⟩
              rcases mem with rfl | rfl | rfl | rfl | rfl
              · exact q _ _ _ g6 (.int _) (it _ (by omega) (by omega))
              · exact q _ _ _ g6 (.int _) (it _ (by omega) (by omega))
              · exact q _ _ _ g6 (.bl _) ⟨true, .bl⟩
              · rw [toStrN]
                refine q _ _ _ g6 (.str _) ⟨true, .strL (List.all_eq_true.mpr fun c hc => ?_) ?_ ?_⟩
                · have := numL_all k c hc
                  simp
                  omega
                · have := numLen (k := 10) (n := k) (by decide) (by omega)
                  omega
                · have := numLen (k := 10) (n := k) (by decide) (by omega)
                  omega
              · exact q _ _ _ g6 (.int _) (it _ (by omega) (by omega))
            | bl b => simp [clnB] at hcl
            | _ => simp [isI] at hI
          · refine ⟨_, rfl, p, c, rfl, g2.2, fun v dr H5 g5 hv hr => ?_⟩
            obtain ⟨qq, hq⟩ := hr
            exact q _ _ _ (g2.trans g5) hv ⟨qq, hq.mono (by omega) (by omega)⟩
end
end Ag

end
/-! ## LJ -/
section
set_option linter.all false
set_option maxRecDepth 100000
set_option maxHeartbeats 4000000
namespace Ag
open PySem PySem.Spec PyProof.Rows L2
open SX (S S_len S_cat S_inj)
def oddF (d : PyData) : Bool := okV false d && (decide (d.depth ≤ 3) && decide (d.bulk ≤ 400))
theorem odd_f {ds : List PyData} (h : ds.all oddF = true) {d : PyData} (hd : d ∈ ds) : Gd false d 3 400 := by
  have := List.all_eq_true.mp h d hd
  unfold oddF at this
  rw [Bool.and_eq_true, Bool.and_eq_true, decide_eq_true_eq, decide_eq_true_eq] at this
  exact ⟨this.1, this.2.1, this.2.2⟩
theorem someG.gd {many : Nat} {d : PyData} (h : someG many d) (hm : many ≤ 50) (q : Bool) : Gd q d 3 400 := by
  obtain ⟨ns, rfl, h1, h2⟩ := h
  exact (Gd.tup (n := 0) (gd_ints fun k hk => by have := h2 k hk; simp only [intOk, Bool.and_eq_true, decide_eq_true_eq]; omega) (by rw [List.length_map]; omega)).mono (by decide) (by omega)
theorem intOkN {i : Int} (h : -1 ≤ i) (h2 : i ≤ 10000000000) : intOk i = true := by
  simp only [intOk, Bool.and_eq_true, decide_eq_true_eq]
  omega
def nearG (d : PyData) : Prop := Gd false d 5 20000
section
variable {P : Program} {w : World} {K : PySem.W.Frag} {mg : Str → Option Value} {base : Heap} {tn tw tb : Tok}
/-- picking from a list of data -/
theorem pick_D {p c l : Addr} {H : Hp} {ds : List PyData} {Q : VK} (dk : Dk p c H) (h : Dg p c H (.ref l) (.list ds)) (h1 : 1 ≤ ds.length) (h2 : ds.length ≤ 100000) (k : ∀ x d H', d ∈ ds → Gx p c H H' → Dg p c H' x d → Q x H') : spPick [.ref p, .ref l] H Q E0 := by
  obtain ⟨xs, ha, hA⟩ := Dg.lstE h
  refine ⟨p, c, .ref l, rfl, dk, .inl ⟨l, xs, rfl, ha, by rw [hA.len]; exact h1, by rw [hA.len]; exact h2, fun r x H' hx g => ?_⟩⟩
  obtain ⟨d, hd, hg⟩ := hA.at_ hx
  exact k x d H' (List.mem_of_getElem? hd) g (hg.to g.kp)
def spNear : Sp := fun vs H Q _ => ∃ (p c : Addr), vs = [.ref p] ∧ Dk p c H ∧ Outs p c H nearG Q
theorem ok_near {f f1 f2 f3 f4 : Addr} {fd fd1 fd2 fd3 fd4 : FuncData} (F : Fn K mg "_law_near" s__law_near ["_law_deck"] f fd) (B : Con mg tn tw tb) (F__law_draw : Fn K mg "_law_draw" s__law_draw ["_law_deck", "_law_many"] f1 fd1) (F__law_pick : Fn K mg "_law_pick" s__law_pick ["_law_deck", "_law_some_here"] f2 fd2)
    (F__law_some : Fn K mg "_law_some" s__law_some ["_law_deck", "_law_many"] f3 fd3) (F__law_bodies : Fn K mg "_law_bodies" s__law_bodies ["_law_deck", "_law_many"] f4 fd4) (G__law_bodies : FnOk P w K mg base CX0 4 f4 fd4 ["_law_deck", "_law_many"] spMkBodies) : FnOk P w K mg base CX0 5 f fd ["_law_deck"] spNear := by
  have G__law_draw : FnOk P w K mg base CX0 1 f1 fd1 ["_law_deck", "_law_many"] spDraw := ok_draw F__law_draw B.toBlt
  have G__law_pick : FnOk P w K mg base CX0 2 f2 fd2 ["_law_deck", "_law_some_here"] spPick := ok_pick F__law_pick B.toBlt F__law_draw
  have G__law_some : FnOk P w K mg base CX0 2 f3 fd3 ["_law_deck", "_law_many"] spSome := ok_some F__law_some B F__law_draw
  refine F.F.ok sc__law_near (fun vs H Q E h => ?_) (fun cdv A outer s H vs Q E hr h => ?_)
  · obtain ⟨p, c, rfl, _⟩ := h
    rfl
  · obtain ⟨p, c, rfl, dk, q⟩ := h
    refine ⟨_, (pss_cons (ps_set (i := 1) sc__law_near.nd rfl (.inl rfl) (pe_call G__law_draw (hr.mono (by decide)) (by rfl) F__law_draw.g F__law_draw.F.kp F__law_draw.b .nil pass0 (pa_cons (pv 0) (pa_cons pe_int pa_nil))))
      (pss_cons (ps_set (i := 2) sc__law_near.nd rfl (.inl rfl) (pe_lst (pa_cons pe_non (pa_cons pe_non (pa_cons pe_int (pa_cons (pv 1) (pa_cons (pe_op op_add (pv 1) pe_int) (pa_cons (pe_call G__law_draw (hr.mono (by decide)) (by rfl) F__law_draw.g F__law_draw.F.kp F__law_draw.b .nil pass0 (pa_cons (pv 0) (pa_cons (pe_op op_add (pv 1) pe_int) pa_nil))) (pa_cons (pe_un un_neg pe_int) (pa_cons pe_bl pa_nil))))))))))
      (pss_cons (ps_set (i := 3) sc__law_near.nd rfl (.inl rfl) (pe_lst (pa_cons (pe_call G__law_some (hr.mono (by decide)) (by rfl) F__law_some.g F__law_some.F.kp F__law_some.b .nil pass0 (pa_cons (pv 0) (pa_cons (pe_op op_add (pv 1) pe_int) pa_nil))) (pa_cons (pe_call G__law_some (hr.mono (by decide)) (by rfl) F__law_some.g F__law_some.F.kp F__law_some.b .nil pass0 (pa_cons (pv 0) (pa_cons (pv 1) pa_nil))) (pa_cons (pe_tup (pa_cons pe_int pa_nil)) (pa_cons (pe_tup (pa_cons pe_int (pa_cons pe_int pa_nil))) (pa_cons (pe_tup (pa_cons (pv 1) pa_nil)) (pa_cons (pe_tup (pa_cons (pv 1) (pa_cons pe_int pa_nil))) (pa_cons (pe_lst (pa_cons pe_int pa_nil)) (pa_cons (pe_tup (pa_cons pe_bl pa_nil)) (pa_cons (pe_tup pa_nil) pa_nil)))))))))))
      (pss_cons (ps_set (i := 4) sc__law_near.nd rfl (.inl rfl) (pe_call G__law_pick (hr.mono (by decide)) (by rfl) F__law_pick.g F__law_pick.F.kp F__law_pick.b .nil pass0 (pa_cons (pv 0) (pa_cons (pe_lst (pa_cons pe_non (pa_cons pe_int (pa_cons pe_int (pa_cons (pe_op op_pow pe_int pe_int) (pa_cons (pe_op op_add (pe_op op_pow pe_int pe_int) pe_int) (pa_cons (pe_un un_neg pe_int) (pa_cons pe_bl (pa_cons pe_str (pa_cons pe_int pa_nil)))))))))) pa_nil))))
      (pss_cons (ps_set (i := 5) sc__law_near.nd rfl (.inl rfl) (pe_call G__law_pick (hr.mono (by decide)) (by rfl) F__law_pick.g F__law_pick.F.kp F__law_pick.b .nil pass0 (pa_cons (pv 0) (pa_cons (pe_lst (pa_cons pe_str (pa_cons pe_str (pa_cons pe_str (pa_cons pe_str (pa_cons pe_str (pa_cons pe_str (pa_cons pe_str (pa_cons pe_str (pa_cons pe_non pa_nil)))))))))) pa_nil))))
      (pss_cons (ps_set (i := 6) sc__law_near.nd rfl (.inl rfl) (pe_call G__law_bodies (hr.mono (by decide)) (by rfl) F__law_bodies.g F__law_bodies.F.kp F__law_bodies.b .nil pass0 (pa_cons (pv 0) (pa_cons (pv 1) pa_nil))))
      (C8.pss_cut (ps_if (pt_cmpR op_eq (pe_call G__law_draw (hr.mono (by decide)) (by rfl) F__law_draw.g F__law_draw.F.kp F__law_draw.b .nil pass0 (pa_cons (pv 0) (pa_cons pe_int pa_nil))) pe_int (nomark _))
      (pss_one (ps_set (i := 6) sc__law_near.nd rfl (.inl rfl) (pe_op op_catA (pv 6) (pe_tup (pa_cons (pe_call G__law_pick (hr.mono (by decide)) (by rfl) F__law_pick.g F__law_pick.F.kp F__law_pick.b .nil pass0 (pa_cons (pv 0) (pa_cons (pe_lst (pa_cons (pe_op op_rep_str pe_str pe_int) (pa_cons pe_str (pa_cons pe_non (pa_cons (pe_tup (pa_cons pe_str pa_nil)) (pa_cons pe_int (pa_cons (pe_op op_rep_str pe_str pe_int) (pa_cons pe_str (pa_cons pe_str pa_nil))))))))) pa_nil))) pa_nil)))))
      pss_nil)
      (pss_cons (ps_set (i := 7) sc__law_near.nd rfl (.inl rfl) (pe_call G__law_pick (hr.mono (by decide)) (by rfl) F__law_pick.g F__law_pick.F.kp F__law_pick.b .nil pass0 (pa_cons (pv 0) (pa_cons (pe_lst (pa_cons pe_str (pa_cons pe_str (pa_cons pe_str (pa_cons pe_str (pa_cons pe_str (pa_cons pe_str (pa_cons pe_bl (pa_cons (pe_tup (pa_cons pe_str pa_nil)) pa_nil))))))))) pa_nil))))
      (pss_one (ps_ret (pe_tup (pa_cons (pv 5) (pa_cons (pv 4) (pa_cons (pv 6) (pa_cons (pe_call G__law_pick (hr.mono (by decide)) (by rfl) F__law_pick.g F__law_pick.F.kp F__law_pick.b .nil pass0 (pa_cons (pv 0) (pa_cons (pv 3) pa_nil))) (pa_cons (pe_call G__law_pick (hr.mono (by decide)) (by rfl) F__law_pick.g F__law_pick.F.kp F__law_pick.b .nil pass0 (pa_cons (pv 0) (pa_cons (pv 2) pa_nil))) (pa_cons (pe_call G__law_pick (hr.mono (by decide)) (by rfl) F__law_pick.g F__law_pick.F.kp F__law_pick.b .nil pass0 (pa_cons (pv 0) (pa_cons (pv 2) pa_nil))) (pa_cons (pv 7) pa_nil)))))))))))))))))), ?_⟩
    refine ⟨_, rfl, p, c, 6, rfl, dk, by decide, by decide, fun m H1 hm g1 => ?_⟩
    have hm : m ≤ 5 := by omega
    -- the ends
    refine ⟨_, rfl, _, rfl, _, _, rfl, rfl, _, rfl, _, rfl, _, _, rfl, rfl, p, c, (m : Int) + 1, rfl, g1.2, by omega, by omega, fun e H2 he g2 => ⟨_, rfl, sz (by show 8 ≤ 16000000; decide), fun le hle => ?_⟩⟩
    have g2 := g1.trans g2
    have g3 := g2.trans (Gx.new (o := .lst [.non, .non, .int 0, .int (m : Int), .int ((m : Int) + 1), .int (e : Int), .int (-1), .bl true]) g2.2 hle)
    have ye : Dg p c (upd H2 le (.lst [.non, .non, .int 0, .int (m : Int), .int ((m : Int) + 1), .int (e : Int), .int (-1), .bl true])) (.ref le) (.list [.none, .none, .int 0, .int (m : Int), .int ((m : Int) + 1), .int (e : Int), .int (-1), .bool true]) :=
      .lst (At.new g2.2 hle) (.cons .non (.cons .non (.cons (.int 0) (.cons (.int _) (.cons (.int _) (.cons (.int _) (.cons (.int _) (.cons (.bl true) .nil))))))))
    generalize upd H2 le (.lst [.non, .non, .int 0, .int (m : Int), .int ((m : Int) + 1), .int (e : Int), .int (-1), .bl true]) = H3 at g3 ye ⊢
    have ke : ∀ d ∈ ([.none, .none, .int 0, .int (m : Int), .int ((m : Int) + 1), .int (e : Int), .int (-1), .bool true] : List PyData), Gd false d 3 400 := by
      intro d hd
      simp only [List.mem_cons, List.not_mem_nil, or_false] at hd
      rcases hd with rfl | rfl | rfl | rfl | rfl | rfl | rfl | rfl
      · exact .non
      · exact .non
      · exact .int (intOkN (by omega) (by omega))
      · exact .int (intOkN (by omega) (by omega))
      · exact .int (intOkN (by omega) (by omega))
      · exact .int (intOkN (by omega) (by omega))
      · exact .int (intOkN (by omega) (by omega))
      · exact .bl
    have le1 : 1 ≤ ([.none, .none, .int 0, .int (m : Int), .int ((m : Int) + 1), .int (e : Int), .int (-1), .bool true] : List PyData).length := by show 1 ≤ 8; decide
    have le2 : ([.none, .none, .int 0, .int (m : Int), .int ((m : Int) + 1), .int (e : Int), .int (-1), .bool true] : List PyData).length ≤ 100000 := by show 8 ≤ 100000; decide
    generalize ([.none, .none, .int 0, .int (m : Int), .int ((m : Int) + 1), .int (e : Int), .int (-1), .bool true] : List PyData) = des at ye ke le1 le2
    -- the answers
    refine ⟨_, rfl, _, rfl, _, _, rfl, rfl, p, c, m + 1, rfl, g3.2, by omega, fun v1 d1 H3b g3b h1 k1 => ⟨_, rfl, _, rfl, p, c, m, rfl, g3b.2, by omega, fun v2 d2 H4 g4 h2 k2 => ?_⟩⟩
    have ye := (ye.to g3b.kp).to g4.kp
    have h1 := h1.to g4.kp
    have g4 := (g3.trans g3b).trans g4
    refine ⟨sz (by show 1 ≤ 16000000; decide), fun ta1 hta1 => ?_⟩
    have sa1 := same_new (o := .tup [.int 0]) hta1
    have aa1 := At.new (o := .tup [.int 0]) g4.2 hta1
    have ga1 := g4.trans (Gx.same g4.2 sa1)
    have ye := ye.to (.same sa1)
    have h1 := h1.to (.same sa1)
    have h2 := h2.to (.same sa1)
    have xa1 : Dg p c (upd H4 ta1 (.tup [.int 0])) (.ref ta1) (.tuple [.int 0]) := .tup aa1 (.cons (.int 0) (.nil))
    generalize upd H4 ta1 (.tup [.int 0]) = Ha1 at ga1 xa1 ye h1 h2 ⊢
    refine ⟨sz (by show 2 ≤ 16000000; decide), fun ta2 hta2 => ?_⟩
    have sa2 := same_new (o := .tup [.int 1, .int 1]) hta2
    have aa2 := At.new (o := .tup [.int 1, .int 1]) ga1.2 hta2
    have ga2 := ga1.trans (Gx.same ga1.2 sa2)
    have ye := ye.to (.same sa2)
    have h1 := h1.to (.same sa2)
    have h2 := h2.to (.same sa2)
    have xa1 := xa1.to (.same sa2)
    have xa2 : Dg p c (upd Ha1 ta2 (.tup [.int 1, .int 1])) (.ref ta2) (.tuple [.int 1, .int 1]) := .tup aa2 (.cons (.int 1) (.cons (.int 1) (.nil)))
    generalize upd Ha1 ta2 (.tup [.int 1, .int 1]) = Ha2 at ga2 xa2 ye h1 h2 xa1 ⊢
    refine ⟨_, rfl, sz (by show 1 ≤ 16000000; decide), fun ta3 hta3 => ?_⟩
    have sa3 := same_new (o := .tup [.int (m : Int)]) hta3
    have aa3 := At.new (o := .tup [.int (m : Int)]) ga2.2 hta3
    have ga3 := ga2.trans (Gx.same ga2.2 sa3)
    have ye := ye.to (.same sa3)
    have h1 := h1.to (.same sa3)
    have h2 := h2.to (.same sa3)
    have xa1 := xa1.to (.same sa3)
    have xa2 := xa2.to (.same sa3)
    have xa3 : Dg p c (upd Ha2 ta3 (.tup [.int (m : Int)])) (.ref ta3) (.tuple [.int (m : Int)]) := .tup aa3 (.cons (.int (m : Int)) (.nil))
    generalize upd Ha2 ta3 (.tup [.int (m : Int)]) = Ha3 at ga3 xa3 ye h1 h2 xa1 xa2 ⊢
    refine ⟨_, rfl, sz (by show 2 ≤ 16000000; decide), fun ta4 hta4 => ?_⟩
    have sa4 := same_new (o := .tup [.int (m : Int), .int 1]) hta4
    have aa4 := At.new (o := .tup [.int (m : Int), .int 1]) ga3.2 hta4
    have ga4 := ga3.trans (Gx.same ga3.2 sa4)
    have ye := ye.to (.same sa4)
    have h1 := h1.to (.same sa4)
    have h2 := h2.to (.same sa4)
    have xa1 := xa1.to (.same sa4)
    have xa2 := xa2.to (.same sa4)
    have xa3 := xa3.to (.same sa4)
    have xa4 : Dg p c (upd Ha3 ta4 (.tup [.int (m : Int), .int 1])) (.ref ta4) (.tuple [.int (m : Int), .int 1]) := .tup aa4 (.cons (.int (m : Int)) (.cons (.int 1) (.nil)))
    generalize upd Ha3 ta4 (.tup [.int (m : Int), .int 1]) = Ha4 at ga4 xa4 ye h1 h2 xa1 xa2 xa3 ⊢
    refine ⟨sz (by show 1 ≤ 16000000; decide), fun ta5 hta5 => ?_⟩
    have sa5 := same_new (o := .lst [.int 1]) hta5
    have aa5 := At.new (o := .lst [.int 1]) ga4.2 hta5
    have ga5 := ga4.trans (Gx.same ga4.2 sa5)
    have ye := ye.to (.same sa5)
    have h1 := h1.to (.same sa5)
    have h2 := h2.to (.same sa5)
    have xa1 := xa1.to (.same sa5)
    have xa2 := xa2.to (.same sa5)
    have xa3 := xa3.to (.same sa5)
    have xa4 := xa4.to (.same sa5)
    have xa5 : Dg p c (upd Ha4 ta5 (.lst [.int 1])) (.ref ta5) (.list [.int 1]) := .lst aa5 (.cons (.int 1) (.nil))
    generalize upd Ha4 ta5 (.lst [.int 1]) = Ha5 at ga5 xa5 ye h1 h2 xa1 xa2 xa3 xa4 ⊢
    refine ⟨sz (by show 1 ≤ 16000000; decide), fun ta6 hta6 => ?_⟩
    have sa6 := same_new (o := .tup [.bl true]) hta6
    have aa6 := At.new (o := .tup [.bl true]) ga5.2 hta6
    have ga6 := ga5.trans (Gx.same ga5.2 sa6)
    have ye := ye.to (.same sa6)
    have h1 := h1.to (.same sa6)
    have h2 := h2.to (.same sa6)
    have xa1 := xa1.to (.same sa6)
    have xa2 := xa2.to (.same sa6)
    have xa3 := xa3.to (.same sa6)
    have xa4 := xa4.to (.same sa6)
    have xa5 := xa5.to (.same sa6)
    have xa6 : Dg p c (upd Ha5 ta6 (.tup [.bl true])) (.ref ta6) (.tuple [.bool true]) := .tup aa6 (.cons (.bl true) (.nil))
    generalize upd Ha5 ta6 (.tup [.bl true]) = Ha6 at ga6 xa6 ye h1 h2 xa1 xa2 xa3 xa4 xa5 ⊢
    refine ⟨sz (by show 0 ≤ 16000000; decide), fun ta7 hta7 => ?_⟩
    have sa7 := same_new (o := .tup []) hta7
    have aa7 := At.new (o := .tup []) ga6.2 hta7
    have ga7 := ga6.trans (Gx.same ga6.2 sa7)
    have ye := ye.to (.same sa7)
    have h1 := h1.to (.same sa7)
    have h2 := h2.to (.same sa7)
    have xa1 := xa1.to (.same sa7)
    have xa2 := xa2.to (.same sa7)
    have xa3 := xa3.to (.same sa7)
    have xa4 := xa4.to (.same sa7)
    have xa5 := xa5.to (.same sa7)
    have xa6 := xa6.to (.same sa7)
    have xa7 : Dg p c (upd Ha6 ta7 (.tup [])) (.ref ta7) (.tuple []) := .tup aa7 (.nil)
    generalize upd Ha6 ta7 (.tup []) = Ha7 at ga7 xa7 ye h1 h2 xa1 xa2 xa3 xa4 xa5 xa6 ⊢
    refine ⟨sz (by show 9 ≤ 16000000; decide), fun ta8 hta8 => ?_⟩
    have sa8 := same_new (o := .lst [v1, v2, .ref ta1, .ref ta2, .ref ta3, .ref ta4, .ref ta5, .ref ta6, .ref ta7]) hta8
    have aa8 := At.new (o := .lst [v1, v2, .ref ta1, .ref ta2, .ref ta3, .ref ta4, .ref ta5, .ref ta6, .ref ta7]) ga7.2 hta8
    have ga8 := ga7.trans (Gx.same ga7.2 sa8)
    have ye := ye.to (.same sa8)
    have h1 := h1.to (.same sa8)
    have h2 := h2.to (.same sa8)
    have xa1 := xa1.to (.same sa8)
    have xa2 := xa2.to (.same sa8)
    have xa3 := xa3.to (.same sa8)
    have xa4 := xa4.to (.same sa8)
    have xa5 := xa5.to (.same sa8)
    have xa6 := xa6.to (.same sa8)
    have xa7 := xa7.to (.same sa8)
    have xa8 : Dg p c (upd Ha7 ta8 (.lst [v1, v2, .ref ta1, .ref ta2, .ref ta3, .ref ta4, .ref ta5, .ref ta6, .ref ta7])) (.ref ta8) (.list [d1, d2, .tuple [.int 0], .tuple [.int 1, .int 1], .tuple [.int (m : Int)], .tuple [.int (m : Int), .int 1], .list [.int 1], .tuple [.bool true], .tuple []]) := .lst aa8 (.cons h1 (.cons h2 (.cons xa1 (.cons xa2 (.cons xa3 (.cons xa4 (.cons xa5 (.cons xa6 (.cons xa7 (.nil))))))))))
    generalize upd Ha7 ta8 (.lst [v1, v2, .ref ta1, .ref ta2, .ref ta3, .ref ta4, .ref ta5, .ref ta6, .ref ta7]) = Ha8 at ga8 xa8 ye h1 h2 ⊢
    have ya := xa8
    have ka : ∀ d ∈ ([d1, d2, .tuple [.int 0], .tuple [.int 1, .int 1], .tuple [.int (m : Int)], .tuple [.int (m : Int), .int 1], .list [.int 1], .tuple [.bool true], .tuple []] : List PyData), Gd false d 3 400 := by
      intro d hd
      simp only [List.mem_cons, List.not_mem_nil, or_false] at hd
      have im : Gd false (.int (m : Int)) 0 0 := .int (intOkN (by omega) (by omega))
      have i1 : Gd false (.int 1) 0 0 := .int (by decide +kernel)
      rcases hd with rfl | rfl | rfl | rfl | rfl | rfl | rfl | rfl | rfl
      · exact k1.gd (by omega) _
      · exact k2.gd (by omega) _
      · exact odd_f (ds := [.tuple [.int 0]]) (by decide +kernel) (by simp)
      · exact odd_f (ds := [.tuple [.int 1, .int 1]]) (by decide +kernel) (by simp)
      · exact (Gd.tup (b := 10) (.cons (b2 := 0) im .nil (by decide)) (by show 1 ≤ 60; decide)).mono (by decide) (by decide)
      · exact (Gd.tup (b := 10) (.cons (b2 := 1) im (.cons (b2 := 0) i1 .nil (by decide)) (by decide)) (by show 2 ≤ 60; decide)).mono (by decide) (by decide)
      · exact odd_f (ds := [.list [.int 1]]) (by decide +kernel) (by simp)
      · exact odd_f (ds := [.tuple [.bool true]]) (by decide +kernel) (by simp)
      · exact odd_f (ds := [.tuple []]) (by decide +kernel) (by simp)
    have la1 : 1 ≤ ([d1, d2, .tuple [.int 0], .tuple [.int 1, .int 1], .tuple [.int (m : Int)], .tuple [.int (m : Int), .int 1], .list [.int 1], .tuple [.bool true], .tuple []] : List PyData).length := by show 1 ≤ 9; decide
    have la2 : ([d1, d2, .tuple [.int 0], .tuple [.int 1, .int 1], .tuple [.int (m : Int)], .tuple [.int (m : Int), .int 1], .list [.int 1], .tuple [.bool true], .tuple []] : List PyData).length ≤ 100000 := by show 9 ≤ 100000; decide
    generalize ([d1, d2, .tuple [.int 0], .tuple [.int 1, .int 1], .tuple [.int (m : Int)], .tuple [.int (m : Int), .int 1], .list [.int 1], .tuple [.bool true], .tuple []] : List PyData) = das at ya ka la1 la2
    have g5 := ga8
    have H5e : Ha8 = Ha8 := rfl
    generalize Ha8 = H5 at g5 ya ye ⊢
    -- the boot
    refine ⟨_, rfl, _, _, rfl, rfl, ⟨by decide, by decide, by decide⟩, _, _, rfl, rfl, ⟨by decide, by decide, by decide⟩, _, _, rfl, rfl, _, rfl, sz (by show 9 ≤ 16000000; decide), fun tb1 htb1 => ?_⟩
    have sb1 := same_new (o := .lst [.non, .int 1, .int 0, .int ((10 : Int) ^ (9 : Int).toNat), .int (((10 : Int) ^ (9 : Int).toNat) + 1), .int (-1), .bl true, .str (Str.ofString "1"), .int 5]) htb1
    have ab1 := At.new (o := .lst [.non, .int 1, .int 0, .int ((10 : Int) ^ (9 : Int).toNat), .int (((10 : Int) ^ (9 : Int).toNat) + 1), .int (-1), .bl true, .str (Str.ofString "1"), .int 5]) g5.2 htb1
    have gb1 := g5.trans (Gx.same g5.2 sb1)
    have ye := ye.to (.same sb1)
    have ya := ya.to (.same sb1)
    have xb1 : Dg p c (upd H5 tb1 (.lst [.non, .int 1, .int 0, .int ((10 : Int) ^ (9 : Int).toNat), .int (((10 : Int) ^ (9 : Int).toNat) + 1), .int (-1), .bl true, .str (Str.ofString "1"), .int 5])) (.ref tb1) (.list [.none, .int 1, .int 0, .int ((10 : Int) ^ (9 : Int).toNat), .int (((10 : Int) ^ (9 : Int).toNat) + 1), .int (-1), .bool true, .str (Str.ofString "1"), .int 5]) := .lst ab1 (.cons (.non) (.cons (.int 1) (.cons (.int 0) (.cons (.int ((10 : Int) ^ (9 : Int).toNat)) (.cons (.int (((10 : Int) ^ (9 : Int).toNat) + 1)) (.cons (.int (-1)) (.cons (.bl true) (.cons (.str (Str.ofString "1")) (.cons (.int 5) (.nil))))))))))
    generalize upd H5 tb1 (.lst [.non, .int 1, .int 0, .int ((10 : Int) ^ (9 : Int).toNat), .int (((10 : Int) ^ (9 : Int).toNat) + 1), .int (-1), .bl true, .str (Str.ofString "1"), .int 5]) = Hb1 at gb1 xb1 ye ya ⊢
    refine pick_D (gb1).2 xb1 (by decide +kernel) (by decide +kernel) fun vb db H6 hdb g6 hb => ?_
    have kb : Gd false db 3 400 := odd_f (by decide +kernel) hdb
    have ye := ye.to g6.kp
    have ya := ya.to g6.kp
    have g6 := (gb1).trans g6
    -- the name
    refine ⟨_, rfl, sz (by show 9 ≤ 16000000; decide), fun tn1 htn1 => ?_⟩
    have sn1 := same_new (o := .lst [.str (Str.ofString "ann"), .str (Str.ofString "a"), .str (Str.ofString "abcdefghij"), .str (Str.ofString "abcdefghijk"), .str (Str.ofString ""), .str (Str.ofString "Ann"), .str (Str.ofString "a1"), .str (Str.ofString "z"), .non]) htn1
    have an1 := At.new (o := .lst [.str (Str.ofString "ann"), .str (Str.ofString "a"), .str (Str.ofString "abcdefghij"), .str (Str.ofString "abcdefghijk"), .str (Str.ofString ""), .str (Str.ofString "Ann"), .str (Str.ofString "a1"), .str (Str.ofString "z"), .non]) g6.2 htn1
    have gn1 := g6.trans (Gx.same g6.2 sn1)
    have ye := ye.to (.same sn1)
    have ya := ya.to (.same sn1)
    have hb := hb.to (.same sn1)
    have xn1 : Dg p c (upd H6 tn1 (.lst [.str (Str.ofString "ann"), .str (Str.ofString "a"), .str (Str.ofString "abcdefghij"), .str (Str.ofString "abcdefghijk"), .str (Str.ofString ""), .str (Str.ofString "Ann"), .str (Str.ofString "a1"), .str (Str.ofString "z"), .non])) (.ref tn1) (.list [.str (Str.ofString "ann"), .str (Str.ofString "a"), .str (Str.ofString "abcdefghij"), .str (Str.ofString "abcdefghijk"), .str (Str.ofString ""), .str (Str.ofString "Ann"), .str (Str.ofString "a1"), .str (Str.ofString "z"), .none]) := .lst an1 (.cons (.str (Str.ofString "ann")) (.cons (.str (Str.ofString "a")) (.cons (.str (Str.ofString "abcdefghij")) (.cons (.str (Str.ofString "abcdefghijk")) (.cons (.str (Str.ofString "")) (.cons (.str (Str.ofString "Ann")) (.cons (.str (Str.ofString "a1")) (.cons (.str (Str.ofString "z")) (.cons (.non) (.nil))))))))))
    generalize upd H6 tn1 (.lst [.str (Str.ofString "ann"), .str (Str.ofString "a"), .str (Str.ofString "abcdefghij"), .str (Str.ofString "abcdefghijk"), .str (Str.ofString ""), .str (Str.ofString "Ann"), .str (Str.ofString "a1"), .str (Str.ofString "z"), .non]) = Hn1 at gn1 xn1 ye ya hb ⊢
    refine pick_D (gn1).2 xn1 (by decide +kernel) (by decide +kernel) fun vn dn H7 hdn g7 hn => ?_
    have kn : Gd false dn 3 400 := odd_f (by decide +kernel) hdn
    have ye := ye.to g7.kp
    have ya := ya.to g7.kp
    have hb := hb.to g7.kp
    have g7 := (gn1).trans g7
    -- the bodies
    refine ⟨_, rfl, _, rfl, p, c, m, rfl, g7.2, by omega, fun vB dB H8 g8 hB kB => ?_⟩
    have ye := ye.to g8.kp
    have ya := ya.to g8.kp
    have hb := hb.to g8.kp
    have hn := hn.to g8.kp
    have g8 := g7.trans g8
    obtain ⟨bs, rfl, lB, cB, _⟩ := kB
    refine ⟨fun σ H' => ∃ vB dB, σ = [some (.ref p), some (.int (m : Int)), some (.ref le), some (.ref ta8), some vb, some vn, some vB, none] ∧ Gx p c H H' ∧ Dg p c H' vB dB ∧ Gd false dB 4 10000 ∧ Dg p c H' (.ref le) (.list des) ∧ Dg p c H' (.ref ta8) (.list das) ∧ Dg p c H' vb db ∧ Dg p c H' vn dn, ?_, ?_⟩
    · have k0 : Gd false (.tuple bs) 4 10000 := (Gd.tup (cB false) (by omega)).mono (by decide) (by have : m * 151 ≤ 5 * 151 := Nat.mul_le_mul_right _ hm; omega)
      refine ⟨_, rfl, p, c, 4, rfl, g8.2, by decide, by decide, fun z H8b hz g8b => ?_⟩
      have ye := ye.to g8b.kp
      have ya := ya.to g8b.kp
      have hb := hb.to g8b.kp
      have hn := hn.to g8b.kp
      have hB := hB.to g8b.kp
      have g8 := g8.trans g8b
      refine ⟨rfl, _, rfl, ite2 (fun _ => ?_) (fun _ => ⟨vB, _, rfl, g8, hB, k0, ye, ya, hb, hn⟩)⟩
      refine ⟨_, rfl, _, rfl, [97], 151, congrArg V.str (by decide +kernel), rfl, by decide, by decide, by decide, sz (by show 1 ≤ 16000000; decide), fun te1 hte1 => ?_⟩
      have se1 := same_new (o := .tup [.str (Str.ofString "a")]) hte1
      have ae1 := At.new (o := .tup [.str (Str.ofString "a")]) g8.2 hte1
      have ge1 := g8.trans (Gx.same g8.2 se1)
      have ye := ye.to (.same se1)
      have ya := ya.to (.same se1)
      have hb := hb.to (.same se1)
      have hn := hn.to (.same se1)
      have hB := hB.to (.same se1)
      have xe1 : Dg p c (upd H8b te1 (.tup [.str (Str.ofString "a")])) (.ref te1) (.tuple [.str (Str.ofString "a")]) := .tup ae1 (.cons (.str (Str.ofString "a")) (.nil))
      generalize upd H8b te1 (.tup [.str (Str.ofString "a")]) = He1 at ge1 xe1 ye ya hb hn hB ⊢
      refine ⟨[97], 150, congrArg V.str (by decide +kernel), rfl, by decide, by decide, by decide, sz (by show 8 ≤ 16000000; decide), fun te2 hte2 => ?_⟩
      have se2 := same_new (o := .lst [.str (S (List.replicate 151 [97]).flatten), .str (Str.ofString "a\n"), .non, .ref te1, .int 1, .str (S (List.replicate 150 [97]).flatten), .str (Str.ofString "~"), .str (Str.ofString " ")]) hte2
      have ae2 := At.new (o := .lst [.str (S (List.replicate 151 [97]).flatten), .str (Str.ofString "a\n"), .non, .ref te1, .int 1, .str (S (List.replicate 150 [97]).flatten), .str (Str.ofString "~"), .str (Str.ofString " ")]) ge1.2 hte2
      have ge2 := ge1.trans (Gx.same ge1.2 se2)
      have ye := ye.to (.same se2)
      have ya := ya.to (.same se2)
      have hb := hb.to (.same se2)
      have hn := hn.to (.same se2)
      have hB := hB.to (.same se2)
      have xe1 := xe1.to (.same se2)
      have xe2 : Dg p c (upd He1 te2 (.lst [.str (S (List.replicate 151 [97]).flatten), .str (Str.ofString "a\n"), .non, .ref te1, .int 1, .str (S (List.replicate 150 [97]).flatten), .str (Str.ofString "~"), .str (Str.ofString " ")])) (.ref te2) (.list [.str (S (List.replicate 151 [97]).flatten), .str (Str.ofString "a\n"), .none, .tuple [.str (Str.ofString "a")], .int 1, .str (S (List.replicate 150 [97]).flatten), .str (Str.ofString "~"), .str (Str.ofString " ")]) := .lst ae2 (.cons (.str (S (List.replicate 151 [97]).flatten)) (.cons (.str (Str.ofString "a\n")) (.cons (.non) (.cons xe1 (.cons (.int 1) (.cons (.str (S (List.replicate 150 [97]).flatten)) (.cons (.str (Str.ofString "~")) (.cons (.str (Str.ofString " ")) (.nil)))))))))
      generalize upd He1 te2 (.lst [.str (S (List.replicate 151 [97]).flatten), .str (Str.ofString "a\n"), .non, .ref te1, .int 1, .str (S (List.replicate 150 [97]).flatten), .str (Str.ofString "~"), .str (Str.ofString " ")]) = He2 at ge2 xe2 ye ya hb hn hB ⊢
      refine pick_D (ge2).2 xe2 (by decide +kernel) (by decide +kernel) fun vx dx Hx hdx gx hx => ⟨sz (by show 1 ≤ 16000000; decide), fun t ht => ?_⟩
      have kx : Gd false dx 3 400 := odd_f (by decide +kernel) hdx
      have st := same_new (o := .tup [vx]) ht
      have kk := gx.kp.trans (.same st)
      have ye := ye.to kk
      have ya := ya.to kk
      have hb := hb.to kk
      have hn := hn.to kk
      have hB := hB.to kk
      have hx := hx.to (.same st)
      have gx := (ge2).trans gx
      have gt := gx.trans (Gx.same gx.2 st)
      have ht2 := At.new (o := .tup [vx]) gx.2 ht
      generalize upd Hx t (.tup [vx]) = Ht at gt ht2 hx ye ya hb hn hB ⊢
      cases hB with
      | @tup aB xsB _ haB hAB =>
      refine cat_any gt.2 haB ht2 (by rw [hAB.len, List.length_cons, List.length_nil]; omega) fun a2 H9 s9 h9 => ?_
      refine ⟨_, .tuple (bs ++ [dx]), rfl, gt.trans (Gx.same gt.2 s9), .tup h9 ((hAB.to (.same s9)).app (.cons (hx.to (.same s9)) .nil)), ?_, ye.to (.same s9), ya.to (.same s9), hb.to (.same s9), hn.to (.same s9)⟩
      have e1 : GdA false bs 3 (m * 151) := (cB false).mono (by decide) (Nat.le_refl _)
      have e2 : GdA false [dx] 3 401 := .cons (b2 := 0) kx .nil (by decide)
      exact (Gd.tup (e1.app e2 (Nat.le_refl _)) (by rw [List.length_append, List.length_cons, List.length_nil]; omega)).mono (by decide) (by have : m * 151 ≤ 5 * 151 := Nat.mul_le_mul_right _ hm; omega)
    rintro σ H9 ⟨vB, dB, rfl, g9, hB, kB, ye, ya, hb, hn⟩
    -- the state
    refine ⟨_, rfl, sz (by show 1 ≤ 16000000; decide), fun ts1 hts1 => ?_⟩
    have ss1 := same_new (o := .tup [.str (Str.ofString "open")]) hts1
    have as1 := At.new (o := .tup [.str (Str.ofString "open")]) g9.2 hts1
    have gs1 := g9.trans (Gx.same g9.2 ss1)
    have ye := ye.to (.same ss1)
    have ya := ya.to (.same ss1)
    have hb := hb.to (.same ss1)
    have hn := hn.to (.same ss1)
    have hB := hB.to (.same ss1)
    have xs1 : Dg p c (upd H9 ts1 (.tup [.str (Str.ofString "open")])) (.ref ts1) (.tuple [.str (Str.ofString "open")]) := .tup as1 (.cons (.str (Str.ofString "open")) (.nil))
    generalize upd H9 ts1 (.tup [.str (Str.ofString "open")]) = Hs1 at gs1 xs1 ye ya hb hn hB ⊢
    refine ⟨sz (by show 8 ≤ 16000000; decide), fun ts2 hts2 => ?_⟩
    have ss2 := same_new (o := .lst [.str (Str.ofString "open"), .str (Str.ofString "broken"), .str (Str.ofString "open"), .str (Str.ofString "broken"), .str (Str.ofString "closed"), .str (Str.ofString "Open"), .bl true, .ref ts1]) hts2
    have as2 := At.new (o := .lst [.str (Str.ofString "open"), .str (Str.ofString "broken"), .str (Str.ofString "open"), .str (Str.ofString "broken"), .str (Str.ofString "closed"), .str (Str.ofString "Open"), .bl true, .ref ts1]) gs1.2 hts2
    have gs2 := gs1.trans (Gx.same gs1.2 ss2)
    have ye := ye.to (.same ss2)
    have ya := ya.to (.same ss2)
    have hb := hb.to (.same ss2)
    have hn := hn.to (.same ss2)
    have hB := hB.to (.same ss2)
    have xs1 := xs1.to (.same ss2)
    have xs2 : Dg p c (upd Hs1 ts2 (.lst [.str (Str.ofString "open"), .str (Str.ofString "broken"), .str (Str.ofString "open"), .str (Str.ofString "broken"), .str (Str.ofString "closed"), .str (Str.ofString "Open"), .bl true, .ref ts1])) (.ref ts2) (.list [.str (Str.ofString "open"), .str (Str.ofString "broken"), .str (Str.ofString "open"), .str (Str.ofString "broken"), .str (Str.ofString "closed"), .str (Str.ofString "Open"), .bool true, .tuple [.str (Str.ofString "open")]]) := .lst as2 (.cons (.str (Str.ofString "open")) (.cons (.str (Str.ofString "broken")) (.cons (.str (Str.ofString "open")) (.cons (.str (Str.ofString "broken")) (.cons (.str (Str.ofString "closed")) (.cons (.str (Str.ofString "Open")) (.cons (.bl true) (.cons xs1 (.nil)))))))))
    generalize upd Hs1 ts2 (.lst [.str (Str.ofString "open"), .str (Str.ofString "broken"), .str (Str.ofString "open"), .str (Str.ofString "broken"), .str (Str.ofString "closed"), .str (Str.ofString "Open"), .bl true, .ref ts1]) = Hs2 at gs2 xs2 ye ya hb hn hB ⊢
    refine pick_D (gs2).2 xs2 (by decide +kernel) (by decide +kernel) fun vs ds H10 hds g10 hs => ?_
    have ks : Gd false ds 3 400 := odd_f (by decide +kernel) hds
    have ye := ye.to g10.kp
    have ya := ya.to g10.kp
    have hb := hb.to g10.kp
    have hn := hn.to g10.kp
    have hB := hB.to g10.kp
    have g10 := (gs2).trans g10
    refine ⟨_, rfl, _, rfl, _, rfl, _, rfl, _, rfl, pick_D g10.2 ya la1 la2 fun v3 d3 H11 k3 g11 h3 => ?_⟩
    have k3 := ka _ k3
    have ye := ye.to g11.kp
    have hb := hb.to g11.kp
    have hn := hn.to g11.kp
    have hB := hB.to g11.kp
    have hs := hs.to g11.kp
    have g11 := g10.trans g11
    refine ⟨_, rfl, _, rfl, pick_D g11.2 ye le1 le2 fun v4 d4 H12 k4 g12 h4 => ?_⟩
    have k4 := ke _ k4
    have ye := ye.to g12.kp
    have hb := hb.to g12.kp
    have hn := hn.to g12.kp
    have hB := hB.to g12.kp
    have hs := hs.to g12.kp
    have h3 := h3.to g12.kp
    have g12 := g11.trans g12
    refine ⟨_, rfl, _, rfl, pick_D g12.2 ye le1 le2 fun v5 d5 H13 k5 g13 h5 => ?_⟩
    have k5 := ke _ k5
    have kk := g13.kp
    have g13 := g12.trans g13
    refine ⟨_, rfl, sz (by show 7 ≤ 16000000; decide), fun t ht => ?_⟩
    have st := same_new (o := .tup [vn, vb, vB, v3, v4, v5, vs]) ht
    have kk := kk.trans (.same st)
    refine q _ (.tuple [dn, db, dB, d3, d4, d5, ds]) _ (g13.trans (Gx.same g13.2 st)) (.tup (At.new g13.2 ht) (.cons (hn.to kk) (.cons (hb.to kk) (.cons (hB.to kk) (.cons (h3.to kk) (.cons (h4.to kk) (.cons (h5.to (.same st)) (.cons (hs.to kk) .nil)))))))) ?_
    have m3 : ∀ {d}, Gd false d 3 400 → Gd false d 4 400 := fun h => h.mono (by decide) (Nat.le_refl _)
    exact (Gd.tup (b := 13000) (.cons (b2 := 12500) (m3 kn) (.cons (b2 := 12000) (m3 kb) (.cons (b2 := 1900) kB (.cons (b2 := 1400) (m3 k3) (.cons (b2 := 900) (m3 k4) (.cons (b2 := 450) (m3 k5) (.cons (b2 := 0) (m3 ks) .nil (by decide)) (by decide)) (by decide)) (by decide)) (by decide)) (by decide)) (by decide)) (by show 7 ≤ 60; decide)).mono (by decide) (by decide)
end
end Ag

end
/-! ## LK -/
section
set_option linter.all false
set_option maxRecDepth 100000
set_option maxHeartbeats 4000000
namespace Ag
open PySem PySem.Spec PyProof.Rows L2
open SX (S S_len S_cat S_inj)
theorem hu66 {k : Nat} {A : Around} (hr : Room k A) : A.units + 66 < cLine := by have := hr.un; omega
section
variable {X : Cx} {CX : CXT} {k : Nat} {f : Addr} {fd : FuncData} {ps ks : List Str} {sp : Sp} {E : L2.St → XK} {x : Str} {p pos : Pos} {t : TA} {gv : List Value → List Value} {gV : List V → List V} {kws : List Keyword}
def tKwS (sp : Sp) (n : Nat) (gV : List V → List V) (E : L2.St → XK) (t : TA) : TE := fun σ H Q => t σ H fun zs H2 => zs.length = n ∧ sp (gV zs) H2 Q (E σ)
/-- f(k = e, ..) in a try, what it lets out is wished for at the slots -/
theorem pe_callKwS (F : FnOk X.prog X.w X.K X.mg X.base CX k f fd ps sp) (hr : Room k X.A) (hg : Gl X x) (hm : X.mg x = some (.ref f)) (hk : PySem.W.keepIn X.K (.ref f) = true) (hb : KwB X.K fd ps ks gv gV) (hx : ∀ σ, PassesAt CX X σ (E σ))
    (ha : PK X kws t) (hall : (backToKw pos (keywordEach kws X.env)).all (·.1.isSome) = true := by rfl) (hks : (backToKw pos (keywordEach kws X.env)).filterMap (·.1) = ks := by rfl) (hdb : (x == ("__debug__" : Str)) = false := by decide)
    (hpl : ((backTo pos (starEach [] X.env)).any (·.1) || (backToKw pos (keywordEach kws X.env)).any (·.1.isNone)) = false := by rfl) : PE X (.Call (.Name x p) [] kws pos) (tKwS sp ks.length gV E t) := by
  constructor
  intro pins s σ H Q I h
  refine wpAny_Call_Name_kw (ld_glob I hg hm (PySem.W.callWith_KW0 (h₀ := X.base) I.ok.mod.kin hk hall (thn (ha.run pos pins s σ H _ I h) ?_) hpl) hdb)
  rintro ws s2 ⟨zs, H2, I2, rz, l, q⟩
  refine ⟨I2.kIn, ?_⟩
  rw [hks]
  refine wpAny_call (codeAny_mono (F.run X.A X.stack s2 H2 ⟨[], ks.zip ws⟩ _ _ Q (E σ) hr I2.env0 (hb.to s2 ws (by rw [← rz.length]; exact l)) (hb.rel l rz) q) fun r s' hq => ?_)
  cases r with
  | error e => exact hx σ pins H2 s2 e s' I2 hq
  | ok fl =>
    cases fl with
    | ret u => exact I2.after hq
    | next => exact False.elim hq
    | brk => exact False.elim hq
    | cont => exact False.elim hq
end
section
variable {P : Program} {w : World} {K : PySem.W.Frag} {mg : Str → Option Value} {base : Heap} {tn tw tb : Tok}
def spRef : Sp := fun vs H Q _ => ∃ p c v d q n b nm, vs = [v, .bl nm] ∧ Dg p c H v d ∧ Gd q d n b ∧ n ≤ 60 ∧ b ≤ 100000 ∧ ∀ H', Same H H' → Q (.bl (!viewB d)) H'
theorem ok_refused {f f1 f2 C : Addr} {fd fd1 fd2 : FuncData} (F : Fn K mg "_law_is_refused" s__law_is_refused ["_law_thing", "_law_is_named"] f fd) (B : Con mg tn tw tb)
    (F_bounds : Fn K mg "bounds" s_bounds ["view"] f1 fd1) (G_bounds : FnOk P w K mg base (L2.CX P w) 5 f1 fd1 ["view"] (spBounds C)) (Kw : KwB K fd1 ["view"] ["view"] (fun x => x) (fun x => x))
    (TE : ExcI K mg "BadView" "BadView.__init__" s_BV C f2 fd2) : FnG P w K mg base 6 f fd ["_law_thing", "_law_is_named"] spRef := by
  refine okG F.F sc__law_is_refused (fun vs H Q E h => ?_) (fun cdv A outer s H vs Q E hr hG h => ?_)
  · obtain ⟨p, c, v, d, _, _, _, nm, rfl, _⟩ := h
    rfl
  · obtain ⟨p, c, v, d, qq, n, b, nm, rfl, hd, hg, hn, hb, q⟩ := h
    have hu := hu66 hr
    refine ⟨_, (pss_cons (ps_set (i := 2) sc__law_is_refused.nd rfl (.inl rfl) pe_bl)
      (pss_cons (ps_try_as (i := 4) rfl rfl sc__law_is_refused.nd rfl rfl ⟨rfl, by decide, .inl TE.g⟩ L2.takes0 (fun W pn xe tk _ => pss_cons (ps_set (i := 3) sc__law_is_refused.nd rfl (.inl rfl) (pe_ifExp (pt_val (pv 1)) (pe_callKwS (ks := ["view"]) G_bounds hr (by rfl) F_bounds.g F_bounds.F.kp Kw (fun σ => passAt tk σ) (pk_cons (pv 0) pk_nil)) (pe_callS G_bounds hr (by rfl) F_bounds.g F_bounds.F.kp F_bounds.b (fun σ => passAt tk σ) (pa_cons (pv 0) pa_nil)))) (pss_one (ps_set (i := 2) sc__law_is_refused.nd rfl (.inl rfl) (pe_cmpR op_isN (pv 3) pe_non (nomark _))))) (fun a oe cls d pn hz hf => pss_one (ps_set (i := 2) sc__law_is_refused.nd rfl (.inl rfl) (pe_cmpR op_eq (pe_callB (call_repr_any hu hG) (by rfl) B.n_repr (by decide +kernel) (pa_cons (pe_xf TE.X TE.no hz hf (pv 4)) pa_nil)) (pe_callB (call_repr_any hu hG) (by rfl) B.n_repr (by decide +kernel) (pa_cons (pv 0) pa_nil)) (nomark _)))))
      (pss_one (ps_ret (pv 2))))), ?_⟩
    obtain ⟨d1, d2, d3, d4⟩ := hg.fit hn hb
    refine ⟨_, rfl, ?_⟩
    have go : ∀ {Q2 : VK} {E2 : XK}, (∀ a H', Same H H' → viewB d = true → Q2 (.ref a) H') → (viewB d = false → ∀ dx H', Same H H' → H' dx = some (.xd [("thing", v)]) → E2 (.ref C) (some dx) H') → spBounds C [v] H Q2 E2 := fun k e => ⟨p, c, v, d, qq, n, b, rfl, hd, hg, fun w H' a sm _ => k a H' sm w, fun w dx H' sm _ h => e w dx H' sm h⟩
    cases nm with
    | true =>
      refine ⟨_, rfl, iteT ⟨_, rfl, rfl, go (fun a H' sm w => ?_) (fun w dx H' sm h1 => ?_)⟩⟩
      · have q := q H' sm
        rw [w] at q
        exact ⟨_, rfl, rfl, _, rfl, q⟩
      · have q := q H' sm
        rw [w] at q
        refine ⟨true, TE.ex, fun _ a ha => ?_, fun z => by cases z⟩
        refine ⟨_, rfl, rfl, rfl, dx, _, v, rfl, h1, rfl, v, d, p, c, rfl, hd.to (.same sm), d1, d2, d3, d4, _, rfl, v, d, p, c, rfl, hd.to (.same sm), d1, d2, d3, d4, rfl, ?_⟩
        rw [decide_eq_true rfl]
        exact ⟨_, rfl, q⟩
    | false =>
      refine ⟨_, rfl, iteF ⟨_, rfl, ?_⟩⟩
      unfold tNil
      dsimp only
      refine go (fun a H' sm w => ?_) (fun w dx H' sm h1 => ?_)
      · have q := q H' sm
        rw [w] at q
        exact ⟨_, rfl, rfl, _, rfl, q⟩
      · have q := q H' sm
        rw [w] at q
        refine ⟨true, TE.ex, fun _ a ha => ?_, fun z => by cases z⟩
        refine ⟨_, rfl, rfl, rfl, dx, _, v, rfl, h1, rfl, v, d, p, c, rfl, hd.to (.same sm), d1, d2, d3, d4, _, rfl, v, d, p, c, rfl, hd.to (.same sm), d1, d2, d3, d4, rfl, ?_⟩
        rw [decide_eq_true rfl]
        exact ⟨_, rfl, q⟩
end
end Ag

end
/-! ## LL -/
section
set_option linter.all false
set_option maxRecDepth 100000
set_option maxHeartbeats 4000000
namespace Ag
open PySem PySem.Spec PyProof.Rows L2
open SX (S S_len S_cat S_inj)
section
variable {P : Program} {w : World} {K : PySem.W.Frag} {mg : Str → Option Value} {base : Heap} {tn tw tb : Tok}
theorem testE {t : TE} {σ : L2.St} {H : Hp} {Q : VK} (I : V → Hp → Prop) (h : ∀ Q' : VK, (∀ v H', I v H' → Q' v H') → t σ H Q') (k : ∀ v H', I v H' → Q v H') : t σ H Q := h Q k
theorem viewE {d : PyData} (h : viewB d = true) : ∃ d0 d1 bs d3 d4 d5 d6, d = .tuple [d0, d1, .tuple bs, d3, d4, d5, d6] ∧ (d1 = .none ∨ ∃ k, d1 = .int k) := by
  unfold viewB at h
  split at h
  · rename_i d0 d1 d2 d3 d4 d5 d6
    simp only [Bool.and_eq_true] at h
    obtain ⟨_, hb, hs⟩ := h
    have e1 : d1 = .none ∨ ∃ k, d1 = .int k := by
      cases d1 with
      | none => exact .inl rfl
      | int k => exact .inr ⟨k, rfl⟩
      | _ => simp [seenB, isN, wholeB] at hs
    cases d2 with
    | tuple bs => exact ⟨_, _, _, _, _, _, _, rfl, e1⟩
    | _ => simp [bodiesB] at hb
  · cases h
/-- between two things -/
def LawI (a0 p c : Addr) (H1 : Hp) (_ : Nat) (σ : L2.St) (H : Hp) : Prop := ∃ x2 x3 x4 x5 x6 x7 x8 : Option V, σ = [some (.ref a0), some (.ref p), x2, x3, x4, x5, x6, x7, x8] ∧ Gx p c H1 H
def spLaw (K : PySem.W.Frag) : Sp := fun vs H Q _ => ∃ (a : Addr) (ns : List Int), vs = [.ref a] ∧ SqL K H a (ns.map V.int) ∧ ns.length ≤ 63 ∧ ∀ H', Q (.bl true) H'
theorem ok_law {f f1 f2 f3 f4 f5 f6 f7 f8 f9 fa C : Addr} {fd fd1 fd2 fd3 fd4 fd5 fd6 fd7 fd8 fd9 fda : FuncData} (F : Fn K mg "law" s_law ["_law_script"] f fd) (B : Con mg tn tw tb)
    (F__law_dealt : Fn K mg "_law_dealt" s__law_dealt ["_law_script"] f1 fd1) (G__law_dealt : FnOk P w K mg base CX0 1 f1 fd1 ["_law_script"] (spDeck K))
    (F__law_draw : Fn K mg "_law_draw" s__law_draw ["_law_deck", "_law_many"] f2 fd2) (G__law_draw : FnOk P w K mg base CX0 1 f2 fd2 ["_law_deck", "_law_many"] spDraw)
    (F__law_pick : Fn K mg "_law_pick" s__law_pick ["_law_deck", "_law_some_here"] f3 fd3) (G__law_pick : FnOk P w K mg base CX0 2 f3 fd3 ["_law_deck", "_law_some_here"] spPick)
    (F__law_drawn_view : Fn K mg "_law_drawn_view" s__law_drawn_view ["_law_deck", "_law_many"] f4 fd4) (G__law_drawn_view : FnOk P w K mg base CX0 5 f4 fd4 ["_law_deck", "_law_many"] spDrawn)
    (F__law_near : Fn K mg "_law_near" s__law_near ["_law_deck"] f5 fd5) (G__law_near : FnOk P w K mg base CX0 5 f5 fd5 ["_law_deck"] spNear)
    (F__law_bent : Fn K mg "_law_bent" s__law_bent ["_law_deck", "_law_thing"] f6 fd6) (G__law_bent : FnOk P w K mg base CX0 6 f6 fd6 ["_law_deck", "_law_thing"] (spBent 3))
    (F__law_odd : Fn K mg "_law_odd" s__law_odd ["_law_deck"] f7 fd7) (G__law_odd : FnOk P w K mg base CX0 3 f7 fd7 ["_law_deck"] spOdd)
    (F__law_is_view : Fn K mg "_law_is_view" s__law_is_view ["_law_thing"] f8 fd8) (G__law_is_view : FnOk P w K mg base CX0 4 f8 fd8 ["_law_thing"] spLView)
    (F_is_view : Fn K mg "is_view" s_is_view ["thing"] f9 fd9) (G_is_view : FnOk P w K mg base CX0 4 f9 fd9 ["thing"] spIsView) (K_is_view_thing : KwB K fd9 ["thing"] ["thing"] (fun x => x) (fun x => x))
    (F__law_is_refused : Fn K mg "_law_is_refused" s__law_is_refused ["_law_thing", "_law_is_named"] fa fda) (G__law_is_refused : FnG P w K mg base 6 fa fda ["_law_thing", "_law_is_named"] spRef) :
    FnG P w K mg base 7 f fd ["_law_script"] (spLaw K) := by
  refine okG F.F sc_law (fun vs H Q E h => ?_) (fun cdv A outer s0 H vs Q E hr hG h => ?_)
  · obtain ⟨a, ns, rfl, _⟩ := h
    rfl
  · obtain ⟨a0, ns, rfl, hsc, hn, q⟩ := h
    have hu := hu66 hr
    refine ⟨_, (pss_cons (ps_set (i := 1) sc_law.nd rfl (.inl rfl) (pe_call G__law_dealt (hr.mono (by decide)) (by rfl) F__law_dealt.g F__law_dealt.F.kp F__law_dealt.b .nil pass0 (pa_cons (pv 0) pa_nil)))
      (pss_cons (ps_for PassesOwn.never rfl (pi_range1 (by rfl) B.n_range (pa_cons pe_int pa_nil)) (pg_name (i := 2) sc_law.nd rfl (Or.inl rfl))
      (pss_cons (ps_set (i := 3) sc_law.nd rfl (.inl rfl) (pe_call G__law_draw (hr.mono (by decide)) (by rfl) F__law_draw.g F__law_draw.F.kp F__law_draw.b .nil pass0 (pa_cons (pv 1) (pa_cons pe_int pa_nil))))
        (pss_cons (ps_set (i := 4) sc_law.nd rfl (.inl rfl) (pe_call G__law_drawn_view (hr.mono (by decide)) (by rfl) F__law_drawn_view.g F__law_drawn_view.F.kp F__law_drawn_view.b .nil pass0 (pa_cons (pv 1) (pa_cons (pe_call G__law_pick (hr.mono (by decide)) (by rfl) F__law_pick.g F__law_pick.F.kp F__law_pick.b .nil pass0 (pa_cons (pv 1) (pa_cons (pe_lst (pa_cons pe_int (pa_cons pe_int (pa_cons pe_int (pa_cons pe_int (pa_cons pe_int (pa_cons pe_int (pa_cons pe_int pa_nil)))))))) pa_nil))) pa_nil))))
        (C8.pss_cut (ps_if (pt_cmpR op_lt (pv 3) pe_int (nomark _))
        (pss_one (ps_set (i := 4) sc_law.nd rfl (.inl rfl) (pe_call G__law_near (hr.mono (by decide)) (by rfl) F__law_near.g F__law_near.F.kp F__law_near.b .nil pass0 (pa_cons (pv 1) pa_nil))))
        (pss_one (ps_if (pt_cmpR op_lt (pv 3) pe_int (nomark _))
          (pss_one (ps_set (i := 4) sc_law.nd rfl (.inl rfl) (pe_call G__law_bent (hr.mono (by decide)) (by rfl) F__law_bent.g F__law_bent.F.kp F__law_bent.b .nil pass0 (pa_cons (pv 1) (pa_cons (pv 4) pa_nil)))))
          (pss_one (ps_if (pt_cmpR op_eq (pv 3) pe_int (nomark _))
            (pss_one (ps_set (i := 4) sc_law.nd rfl (.inl rfl) (pe_call G__law_pick (hr.mono (by decide)) (by rfl) F__law_pick.g F__law_pick.F.kp F__law_pick.b .nil pass0 (pa_cons (pv 1) (pa_cons (pe_lst (pa_cons (pe_call G__law_odd (hr.mono (by decide)) (by rfl) F__law_odd.g F__law_odd.F.kp F__law_odd.b .nil pass0 (pa_cons (pv 1) pa_nil)) (pa_cons (pe_op op_catA (pv 4) (pe_tup (pa_cons pe_non pa_nil))) (pa_cons (pe_slice sl_tupA (pv 4) po_none (po_some pe_int)) (pa_cons (pe_callTy call_list_of (by rfl) B.n_list (by decide +kernel) (pa_cons (pv 4) pa_nil)) (pa_cons (pe_tup (pa_cons (pv 4) pa_nil)) (pa_cons (pe_revT (pv 4)) pa_nil))))))) pa_nil)))))
            pss_nil)))))
        (pss_cons (ps_par (i := 5) (j := 6) (by rfl) sc_law.nd rfl rfl (by decide) rfl rfl (pa_cons (pe_call G__law_is_view (hr.mono (by decide)) (by rfl) F__law_is_view.g F__law_is_view.F.kp F__law_is_view.b .nil pass0 (pa_cons (pv 4) pa_nil)) (pa_cons (pe_callB (call_repr_any hu hG) (by rfl) B.n_repr (by decide +kernel) (pa_cons (pv 4) pa_nil)) pa_nil)) (by rfl))
        (pss_cons (ps_set (i := 7) sc_law.nd rfl (.inl rfl) (pe_ifExp (pt_cmpR op_eq (pe_call G__law_draw (hr.mono (by decide)) (by rfl) F__law_draw.g F__law_draw.F.kp F__law_draw.b .nil pass0 (pa_cons (pv 1) (pa_cons pe_int pa_nil))) pe_int (nomark _)) (pe_call G_is_view (hr.mono (by decide)) (by rfl) F_is_view.g F_is_view.F.kp F_is_view.b .nil pass0 (pa_cons (pv 4) pa_nil)) (pe_callKwG (FnG.of G_is_view) (hr.mono (by decide)) hG (by rfl) F_is_view.g F_is_view.F.kp K_is_view_thing (pk_cons (pv 4) pk_nil))))
        (pss_cons (ps_if (pt_cmpR op_ne (pe_callB (call_repr_any hu hG) (by rfl) B.n_repr (by decide +kernel) (pa_cons (pv 7) pa_nil)) (pe_callB (call_repr_any hu hG) (by rfl) B.n_repr (by decide +kernel) (pa_cons (pv 5) pa_nil)) (nomark _))
        (pss_one (ps_ret pe_bl))
        pss_nil)
        (pss_cons (ps_set (i := 8) sc_law.nd rfl (.inl rfl) (pe_or (pe_not (pv 5)) (pe_one (pe_and (pe_or (pe_cmpR op_isN (pe_ix ix_tup (pv 4) pe_int (fun _ _ => rfl)) pe_non (nomark _)) (pe_one (pe_cmpR op_le (pe_ix ix_tup (pv 4) pe_int (fun _ _ => rfl)) (pe_op op_pow pe_int pe_int) (nomark _)))) (pe_one (pe_cmpR op_le (pe_callB call_len_seq (by rfl) B.n_len PySem.boot_len (pa_cons (pe_ix ix_tup (pv 4) pe_int (fun _ _ => rfl)) pa_nil)) pe_int (nomark _)))))))
        (pss_one (ps_if (PW.pt (pw_or (PW.pt (pw_and (pt_val (pv 8)) (pw_and1 (pt_cmpR op_ne (pe_callG G__law_is_refused (hr.mono (by decide)) hG (by rfl) F__law_is_refused.g F__law_is_refused.F.kp F__law_is_refused.b (pa_cons (pv 4) (pa_cons (pe_cmpR op_eq (pe_op op_mod (pe_callTy call_int1 (by rfl) B.n_int (by decide +kernel) (pa_cons (pv 2) pa_nil)) pe_int) pe_int (nomark _)) pa_nil))) (pe_not (pv 5)) (nomark _))))) (pw_or1 (pt_cmpR op_ne (pe_callB (call_repr_any hu hG) (by rfl) B.n_repr (by decide +kernel) (pa_cons (pv 4) pa_nil)) (pv 6) (nomark _)))))
        (pss_one (ps_ret pe_bl))
        pss_nil))))))))))
      (pss_one (ps_ret pe_bl)))), ?_⟩
    refine ⟨_, rfl, a0, ns, rfl, hsc, hn, fun p c H1 hp hc sm1 dk => ?_⟩
    refine ⟨24, rfl, by decide, by decide, for_range (lo := 0) (n := (24 : Int).toNat) (LawI a0 p c H1) ⟨none, none, none, none, none, none, none, rfl, Gx.refl dk⟩ ?_ ?_⟩
    · rintro i σ Ha hi ⟨x2, x3, x4, x5, x6, x7, x8, rfl, ga⟩
      refine ⟨_, rfl, p, c, 8, rfl, ga.2, by decide, by decide, fun way Hb hway gb => ?_⟩
      have gb := ga.trans gb
      refine ⟨_, rfl, _, rfl, sz (by show 7 ≤ 16000000; decide), fun l hl => ⟨p, c, .ref l, rfl, gb.2.same (same_new hl), .inl ⟨l, _, rfl, At.new gb.2 hl, (by show 1 ≤ 7; decide), (by show 7 ≤ 100000; decide), fun r x Hc hx gc => ?_⟩⟩⟩
      obtain ⟨m, hm, rfl⟩ : ∃ m : Nat, m ≤ 40 ∧ x = .int (m : Int) := by
        have mem := List.mem_of_getElem? hx
        simp only [List.mem_cons, List.not_mem_nil, or_false] at mem
        rcases mem with rfl | rfl | rfl | rfl | rfl | rfl | rfl
        · exact ⟨3, by decide, rfl⟩
        · exact ⟨0, by decide, rfl⟩
        · exact ⟨1, by decide, rfl⟩
        · exact ⟨2, by decide, rfl⟩
        · exact ⟨5, by decide, rfl⟩
        · exact ⟨8, by decide, rfl⟩
        · exact ⟨40, by decide, rfl⟩
      have gc := (gb.trans (Gx.new (o := .lst [.int 3, .int 0, .int 1, .int 2, .int 5, .int 8, .int 40]) gb.2 hl)).trans gc
      refine ⟨p, c, m, rfl, gc.2, hm, fun v d Hd gd hd kd => ?_⟩
      have gd := gc.trans gd
      obtain ⟨ds, rfl, h7, kd⟩ := kd
      clear gc gb hx hl
      refine ⟨fun σ H' => ∃ (v : V) (d : PyData) (qq : Bool), σ = [some (.ref a0), some (.ref p), some (.int (0 + (i : Int))), some (.int (way : Int)), some v, x5, x6, x7, x8] ∧ Gx p c H1 H' ∧ Dg p c H' v d ∧ Gd qq d 6 20000, ?_, ?_⟩
      · refine ⟨_, rfl, _, _, rfl, rfl, _, rfl, ite2 (fun _ => ?_) (fun _ => ?_)⟩
        · exact ⟨_, rfl, p, c, rfl, gd.2, fun v' d' He ge he ke => ⟨v', d', false, rfl, gd.trans ge, he, Gd.mono ke (by decide) (by decide)⟩⟩
        refine ⟨_, rfl, _, _, rfl, rfl, _, rfl, ite2 (fun _ => ?_) (fun _ => ?_)⟩
        · refine ⟨_, rfl, _, rfl, p, c, v, _, rfl, gd.2, hd, kd.cl, kd.dp, Nat.le_trans kd.dp (by decide), fun v' d' He ge he ke => ?_⟩
          obtain ⟨qq, ke⟩ := ke
          exact ⟨v', d', qq, rfl, gd.trans ge, he, ke.mono (by have := kd.dp; omega) (by have := kd.bk; omega)⟩
        refine ⟨_, rfl, rfl, _, rfl, ite2 (fun _ => ?_) (fun _ => ?_)⟩
        · cases hd with
          | @tup a xs _ ha hA =>
          have hl7 : xs.length = 7 := hA.len.trans h7
          have kT : GdA true ds 1 7000 := (kd.gd true).untup.1
          have kF : GdA false ds 1 7000 := (kd.gd false).untup.1
          refine ⟨_, rfl, _, rfl, p, c, rfl, gd.2, fun v1 d1 He ge h1 k1 => ?_⟩
          have ha := ha.kp ge.kp
          have hA := hA.to ge.kp
          have ge := gd.trans ge
          -- one more
          refine ⟨_, rfl, sz (by show 1 ≤ 16000000; decide), fun t ht => ?_⟩
          have st := same_new (o := .tup [.non]) ht
          have ht2 := At.new (o := .tup [.non]) ge.2 ht
          have h1 := h1.to (.same st)
          have ha := ha.kp (.same st)
          have hA := hA.to (.same st)
          have ge := ge.trans (Gx.same ge.2 st)
          generalize upd He t (.tup [.non]) = Hf at ge ht2 h1 ha hA ⊢
          refine cat_any ge.2 ha ht2 (by rw [hl7]; decide) fun a2 Hg sg h2 => ?_
          have h2 : Dg p c Hg (.ref a2) (.tuple (ds ++ [.none])) := .tup h2 ((hA.to (.same sg)).app (.cons .non .nil))
          have h1 := h1.to (.same sg)
          have ha := ha.kp (.same sg)
          have hA := hA.to (.same sg)
          have ge := ge.trans (Gx.same ge.2 sg)
          -- cut
          refine ⟨_, rfl, ?_⟩
          dsimp only [tNoPart]
          refine ⟨_, rfl, sl_any ge.2 ha fun a3 Hh sh h3 => ?_⟩
          rw [show ((6 : Int)) = ((6 : Nat) : Int) from rfl, cutV_to] at h3
          have h3 : Dg p c Hh (.ref a3) (.tuple (ds.take 6)) := .tup h3 ((hA.to (.same sh)).take 6)
          have h2 := h2.to (.same sh)
          have h1 := h1.to (.same sh)
          have ha := ha.kp (.same sh)
          have hA := hA.to (.same sh)
          have ge := ge.trans (Gx.same ge.2 sh)
          -- as a list
          refine ⟨_, rfl, a, xs, rfl, .inr (SqT.of ha.2.2), fun l hl => ?_⟩
          have sl := same_new (o := .lst xs) hl
          have hl2 := At.new (o := .lst xs) ge.2 hl
          have h4 : Dg p c _ (.ref l) (.list ds) := .lst hl2 (hA.to (.same sl))
          have h3 := h3.to (.same sl)
          have h2 := h2.to (.same sl)
          have h1 := h1.to (.same sl)
          have ha := ha.kp (.same sl)
          have hA := hA.to (.same sl)
          have ge := ge.trans (Gx.same ge.2 sl)
          clear hl2
          generalize upd Hh l (.lst xs) = Hi at ge h1 h2 h3 h4 ha hA ⊢
          -- in a tuple
          refine ⟨_, rfl, sz (by show 1 ≤ 16000000; decide), fun t5 ht5 => ?_⟩
          have st := same_new (o := .tup [.ref a]) ht5
          have h5 : Dg p c _ (.ref t5) (.tuple [.tuple ds]) := .tup (At.new (o := .tup [.ref a]) ge.2 ht5) (.cons (.tup (ha.kp (.same st)) (hA.to (.same st))) .nil)
          have h4 := h4.to (.same st)
          have h3 := h3.to (.same st)
          have h2 := h2.to (.same st)
          have h1 := h1.to (.same st)
          have ha := ha.kp (.same st)
          have hA := hA.to (.same st)
          have ge := ge.trans (Gx.same ge.2 st)
          generalize upd Hi t5 (.tup [.ref a]) = Hj at ge h1 h2 h3 h4 h5 ha hA ⊢
          -- turned round
          refine ⟨_, rfl, a, xs, rfl, SqT.of ha.2.2, fun t6 ht6 => ?_⟩
          have st := same_new (o := .tup xs.reverse) ht6
          have h6 : Dg p c _ (.ref t6) (.tuple ds.reverse) := .tup (At.new (o := .tup xs.reverse) ge.2 ht6) (hA.to (.same st)).rev
          have h5 := h5.to (.same st)
          have h4 := h4.to (.same st)
          have h3 := h3.to (.same st)
          have h2 := h2.to (.same st)
          have h1 := h1.to (.same st)
          have ge := ge.trans (Gx.same ge.2 st)
          generalize upd Hj t6 (.tup xs.reverse) = Hk at ge h1 h2 h3 h4 h5 h6 ⊢
          refine ⟨sz (by show 6 ≤ 16000000; decide), fun L hL => ?_⟩
          have st := same_new (o := .lst [v1, .ref a2, .ref a3, .ref l, .ref t5, .ref t6]) hL
          have hh : Dg p c _ (.ref L) (.list [d1, .tuple (ds ++ [.none]), .tuple (ds.take 6), .list ds, .tuple [.tuple ds], .tuple ds.reverse]) :=
            .lst (At.new (o := .lst [v1, .ref a2, .ref a3, .ref l, .ref t5, .ref t6]) ge.2 hL) (.cons (h1.to (.same st)) (.cons (h2.to (.same st)) (.cons (h3.to (.same st)) (.cons (h4.to (.same st)) (.cons (h5.to (.same st)) (.cons (h6.to (.same st)) .nil))))))
          have ge := ge.trans (Gx.same ge.2 st)
          generalize upd Hk L (.lst [v1, .ref a2, .ref a3, .ref l, .ref t5, .ref t6]) = Hl at ge hh ⊢
          refine pick_D ge.2 hh (by show 1 ≤ 6; decide) (by show 6 ≤ 100000; decide) fun x d He2 hd2 g2 hx => ?_
          have kk : ∃ qq, Gd qq d 6 20000 := by
            simp only [List.mem_cons, List.not_mem_nil, or_false] at hd2
            rcases hd2 with rfl | rfl | rfl | rfl | rfl | rfl
            · obtain ⟨qq, k⟩ := k1
              exact ⟨qq, k.mono (by decide) (by decide)⟩
            · exact ⟨true, (Gd.tup (b := 7001) (kT.app (b2 := 1) (.cons (b1 := 0) (b2 := 0) .non .nil (by decide)) (by decide)) (by rw [List.length_append, h7]; decide)).mono (by decide) (by decide)⟩
            · exact ⟨true, (Gd.tup (kT.take 6) (by rw [List.length_take]; omega)).mono (by decide) (by decide)⟩
            · exact ⟨false, (Gd.lst kF).mono (by decide) (by decide)⟩
            · exact ⟨true, (Gd.tup (b := 7001) (.cons (b1 := 7000) (b2 := 0) (kd.gd true) .nil (by decide)) (by show 1 ≤ 60; decide)).mono (by decide) (by decide)⟩
            · exact ⟨true, (Gd.tup kT.rev (by rw [List.length_reverse]; omega)).mono (by decide) (by decide)⟩
          obtain ⟨qq, kk⟩ := kk
          exact ⟨x, d, qq, rfl, ge.trans g2, hx, kk⟩
        · exact ⟨v, _, true, rfl, gd, hd, (kd.gd true).mono (by decide) (by decide)⟩
      rintro σ H5 ⟨v, d, qq, rfl, g5, h5, k5⟩
      obtain ⟨d1, d2, d3, d4⟩ := k5.fit (by decide) (by decide)
      refine ⟨_, rfl, p, c, v, d, qq, _, _, rfl, h5, k5, fun H6 s6 => ?_⟩
      have h6 := h5.to (.same s6)
      have g6 := g5.trans (Gx.same g5.2 s6)
      refine ⟨_, rfl, v, d, p, c, rfl, h6, d1, d2, d3, d4, _, _, rfl, ?_⟩
      try dsimp only
      unfold tSeq
      dsimp only
      unfold tAsg
      refine testE (fun x H' => x = .bl (viewB d) ∧ Gx p c H6 H') (fun Q' hQ' => ?_) ?_
      · refine ⟨_, rfl, p, c, 2, rfl, g6.2, by decide, by decide, fun z H7 hz g7 => ⟨rfl, _, rfl, ?_⟩⟩
        have h7 := h6.to g7.kp
        have k7 := (g6.trans g7).2
        refine ite2 (fun _ => ?_) (fun _ => ?_)
        · exact ⟨_, rfl, p, c, v, d, qq, _, _, rfl, h7, k5, fun H8 s8 => hQ' _ _ ⟨rfl, g7.trans (Gx.same k7 s8)⟩⟩
        · exact ⟨_, rfl, rfl, p, c, v, d, qq, _, _, rfl, h7, k5, fun H8 s8 => hQ' _ _ ⟨rfl, g7.trans (Gx.same k7 s8)⟩⟩
      rintro _ H7 ⟨rfl, g7⟩
      have h7 := h6.to g7.kp
      have g7 := g6.trans g7
      obtain ⟨b1, b2, b3, b4⟩ := (Gd.bl (q := true) (c := viewB d) (n := 0) (b := 5)).fit (by decide) (by decide)
      refine ⟨_, rfl, .bl (viewB d), .bool (viewB d), p, c, rfl, .bl _, b1, b2, b3, b4, _, rfl, .bl (viewB d), .bool (viewB d), p, c, rfl, .bl _, b1, b2, b3, b4, rfl, _, rfl, ?_⟩
      rw [decide_eq_true rfl]
      refine iteF ?_
      unfold tNext
      dsimp only
      try unfold tSeq
      try dsimp only
      try unfold tAsg
      refine testE (fun x H' => H' = H7 ∧ ∃ nb, x = .bl nb) (fun Q' hQ' => ?_) ?_
      · refine ⟨_, rfl, _, rfl, _, rfl, ?_⟩
        cases hv : viewB d with
        | false => exact iteT (hQ' _ _ ⟨rfl, _, rfl⟩)
        | true =>
          refine iteF ?_
          obtain ⟨d0, e1, bs, e3, e4, e5, e6, rfl, he1⟩ := viewE hv
          clear k5 h5 h6 d1 d2 d3 d4
          cases h7 with
          | @tup a xs _ ha hA =>
          match hA with
          | .cons (v := x0) g0 (.cons (v := x1) gx1 (.cons (v := x2) gx2 (.cons g3 (.cons g4 (.cons g5 (.cons g6 .nil)))))) =>
          cases gx2 with
          | @tup a2 ys _ hb hB =>
          have tail : ∀ Q2 : VK, (∀ v H', (H' = H7 ∧ ∃ nb, v = .bl nb) → Q2 v H') → (∀ m : Nat, Q2 (.bl (decide ((m : Int) ≤ 40))) H7) := fun Q2 h m => h _ _ ⟨rfl, _, rfl⟩
          rcases he1 with rfl | ⟨k, rfl⟩
          · cases gx1
            refine ⟨_, rfl, a, _, _, .non, rfl, rfl, SqT.of ha.2.2, atI_nat (j := 1) rfl, rfl, _, rfl, iteT ⟨_, rfl, iteT ?_⟩⟩
            exact ⟨_, rfl, a, _, _, .ref a2, rfl, rfl, SqT.of ha.2.2, atI_nat (j := 2) rfl, a2, ys, rfl, .inr (SqT.of hb.2.2), _, _, rfl, rfl, hQ' _ _ ⟨rfl, _, rfl⟩⟩
          · cases gx1
            refine ⟨_, rfl, a, _, _, .int k, rfl, rfl, SqT.of ha.2.2, atI_nat (j := 1) rfl, rfl, _, rfl, iteF ?_⟩
            refine ⟨_, rfl, a, _, _, .int k, rfl, rfl, SqT.of ha.2.2, atI_nat (j := 1) rfl, _, _, rfl, rfl, ⟨by decide, by decide, by decide⟩, _, _, rfl, rfl, _, rfl, ite2 (fun _ => ?_) (fun _ => hQ' _ _ ⟨rfl, _, rfl⟩)⟩
            exact ⟨_, rfl, a, _, _, .ref a2, rfl, rfl, SqT.of ha.2.2, atI_nat (j := 2) rfl, a2, ys, rfl, .inr (SqT.of hb.2.2), _, _, rfl, rfl, hQ' _ _ ⟨rfl, _, rfl⟩⟩
      rintro _ H8 ⟨rfl, nb, rfl⟩
      refine ⟨_, rfl, _, rfl, ?_⟩
      cases nb with
      | true =>
        refine iteT ⟨_, rfl, _, rfl, .inl ⟨_, rfl, _, _, rfl, rfl, (by show (0 : Int) < 2; decide), rfl, p, c, v, d, qq, 6, 20000, _, rfl, h7, k5, by decide, by decide, fun H9 s9 => ?_⟩⟩
        refine ⟨_, rfl, _, rfl, rfl, _, rfl, ?_⟩
        rw [decide_eq_true rfl]
        refine iteF ⟨_, rfl, v, d, p, c, rfl, h7.to (.same s9), d1, d2, d3, d4, _, rfl, rfl, _, rfl, ?_⟩
        rw [decide_eq_true rfl]
        exact iteF ⟨_, _, _, _, _, _, _, rfl, g7.trans (Gx.same g7.2 s9)⟩
      | false =>
        refine iteF (iteF ⟨_, rfl, v, d, p, c, rfl, h7, d1, d2, d3, d4, _, rfl, rfl, _, rfl, ?_⟩)
        rw [decide_eq_true rfl]
        exact iteF ⟨_, _, _, _, _, _, _, rfl, g7⟩
    · rintro σ Ha ⟨x2, x3, x4, x5, x6, x7, x8, rfl, ga⟩
      exact q _
end
end Ag

end
/-! ## E11 -/
section
set_option linter.all false
set_option maxRecDepth 100000
namespace Ag
open PySem PySem.Spec PyProof.Rows L2
open SX (S S_len S_cat S_inj)
theorem kwt {K : PySem.W.Frag} {fd : FuncData} {x : Str} (h : ∀ (s : Shared) (a : Value), BindsTo s fd ⟨[], [(x, a)]⟩ [(x, a)]) : KwB K fd [x] [x] (fun u => u) (fun u => u) :=
  ⟨fun s ws hl => match ws, hl with | [a], _ => h s a, fun _ r => r⟩
theorem exm_self {K : PySem.W.Frag} {C : Addr} {cd : ClassData} (h1 : PySem.W.subIn K (.ref C) (.type "BaseException") = some true) (h2 : PySem.W.clsIn K C = some cd) (h3 : PySem.W.typeIn K (.ref C) = some (.type "type")) (h4 : PySem.W.subIn K (.ref C) (.ref C) = some true) :
    PySem.W.exmOne K (.ref C) (.ref C) = some true := by
  simp [PySem.W.exmOne, PySem.W.kitCls, h1, h2, h3, h4]
set_option maxHeartbeats 4000000 in
theorem all_mk {l : PySem.W.OpenLaw} {w : World} {K : PySem.W.Frag} {h : Heap} {mg : Str → Option Value} {fa f0 f1 f2 f3 f4 f5 f6 f7 f8 f9 f10 f11 f12 f13 f14 f15 f16 f17 f18 f19 f20 f21 f22 f23 f24 f25 f26 f27 f28 : Addr} (X : K.In h) (G : h.Ns mainGlobals mg) (hfa : mg "law" = some (.ref fa))
    {od0 an0 od1 an1 od2 an2 od3 an3 od4 an4 od5 an5 od6 an6 od7 an7 od8 an8 od9 an9 od10 an10 od11 an11 od12 an12 od13 an13 od14 an14 od15 an15 od16 an16 od17 an17 od18 an18 od19 an19 od20 an20 od21 an21 od22 an22 od23 an23 od24 an24 od25 an25 od26 an26 od27 an27 od28 an28 : Option Addr} {sl0 sl1 sl2 sl3 sl4 sl5 sl6 sl7 sl8 sl9 sl10 sl11 sl12 sl13 sl14 sl15 sl16 sl17 sl18 sl19 sl20 sl21 sl22 sl23 sl24 sl25 sl26 sl27 sl28 : Array (Option Value)} {oc0 kV0 dc0 pm0 ct0 cd0 oc1 kV1 dc1 pm1 ct1 cd1 oc2 kV2 dc2 pm2 ct2 cd2 oc3 kV3 dc3 pm3 ct3 cd3 oc4 kV4 dc4 pm4 ct4 cd4 oc5 kV5 dc5 pm5 ct5 cd5 oc6 kV6 dc6 pm6 ct6 cd6 oc7 kV7 dc7 pm7 ct7 cd7 oc8 kV8 dc8 pm8 ct8 cd8 oc9 kV9 dc9 pm9 ct9 cd9 oc10 kV10 dc10 pm10 ct10 cd10 oc11 kV11 dc11 pm11 ct11 cd11 oc12 kV12 dc12 pm12 ct12 cd12 oc13 kV13 dc13 pm13 ct13 cd13 oc14 kV14 dc14 pm14 ct14 cd14 oc15 kV15 dc15 pm15 ct15 cd15 oc16 kV16 dc16 pm16 ct16 cd16 oc17 kV17 dc17 pm17 ct17 cd17 oc18 kV18 dc18 pm18 ct18 cd18 oc19 kV19 dc19 pm19 ct19 cd19 oc20 kV20 dc20 pm20 ct20 cd20 oc21 kV21 dc21 pm21 ct21 cd21 oc22 kV22 dc22 pm22 ct22 cd22 oc23 kV23 dc23 pm23 ct23 cd23 oc24 kV24 dc24 pm24 ct24 cd24 oc25 kV25 dc25 pm25 ct25 cd25 oc26 kV26 dc26 pm26 ct26 cd26 oc27 kV27 dc27 pm27 ct27 cd27 oc28 kV28 dc28 pm28 ct28 cd28 : Value} {tn tw tb : Tok} {C fI : Addr}
    (a0 : PySem.W.nsIn K mainGlobals "is_integer" = some (some (.ref f0))) (l0 : K.lookup f0 = some ⟨oc0, od0, .func (PySem.W.fnOf "is_integer" "is_integer" (defArgs s_is_integer) (defBody s_is_integer) (defScope s_is_integer) .none kV0 dc0 pm0 an0 cd0 ct0), sl0⟩) (c0 : PySem.W.codeIn K cd0 "is_integer" = true) (k0 : PySem.W.keepIn K (.ref f0) = true)
    (a1 : PySem.W.nsIn K mainGlobals "is_between" = some (some (.ref f1))) (l1 : K.lookup f1 = some ⟨oc1, od1, .func (PySem.W.fnOf "is_between" "is_between" (defArgs s_is_between) (defBody s_is_between) (defScope s_is_between) .none kV1 dc1 pm1 an1 cd1 ct1), sl1⟩) (c1 : PySem.W.codeIn K cd1 "is_between" = true) (k1 : PySem.W.keepIn K (.ref f1) = true)
    (a2 : PySem.W.nsIn K mainGlobals "is_number" = some (some (.ref f2))) (l2 : K.lookup f2 = some ⟨oc2, od2, .func (PySem.W.fnOf "is_number" "is_number" (defArgs s_is_number) (defBody s_is_number) (defScope s_is_number) .none kV2 dc2 pm2 an2 cd2 ct2), sl2⟩) (c2 : PySem.W.codeIn K cd2 "is_number" = true) (k2 : PySem.W.keepIn K (.ref f2) = true)
    (a3 : PySem.W.nsIn K mainGlobals "is_plain" = some (some (.ref f3))) (l3 : K.lookup f3 = some ⟨oc3, od3, .func (PySem.W.fnOf "is_plain" "is_plain" (defArgs s_is_plain) (defBody s_is_plain) (defScope s_is_plain) .none kV3 dc3 pm3 an3 cd3 ct3), sl3⟩) (c3 : PySem.W.codeIn K cd3 "is_plain" = true) (k3 : PySem.W.keepIn K (.ref f3) = true)
    (a4 : PySem.W.nsIn K mainGlobals "is_word" = some (some (.ref f4))) (l4 : K.lookup f4 = some ⟨oc4, od4, .func (PySem.W.fnOf "is_word" "is_word" (defArgs s_is_word) (defBody s_is_word) (defScope s_is_word) .none kV4 dc4 pm4 an4 cd4 ct4), sl4⟩) (c4 : PySem.W.codeIn K cd4 "is_word" = true) (k4 : PySem.W.keepIn K (.ref f4) = true)
    (a5 : PySem.W.nsIn K mainGlobals "are_counted" = some (some (.ref f5))) (l5 : K.lookup f5 = some ⟨oc5, od5, .func (PySem.W.fnOf "are_counted" "are_counted" (defArgs s_are_counted) (defBody s_are_counted) (defScope s_are_counted) .none kV5 dc5 pm5 an5 cd5 ct5), sl5⟩) (c5 : PySem.W.codeIn K cd5 "are_counted" = true) (k5 : PySem.W.keepIn K (.ref f5) = true)
    (a6 : PySem.W.nsIn K mainGlobals "is_body" = some (some (.ref f6))) (l6 : K.lookup f6 = some ⟨oc6, od6, .func (PySem.W.fnOf "is_body" "is_body" (defArgs s_is_body) (defBody s_is_body) (defScope s_is_body) .none kV6 dc6 pm6 an6 cd6 ct6), sl6⟩) (c6 : PySem.W.codeIn K cd6 "is_body" = true) (k6 : PySem.W.keepIn K (.ref f6) = true)
    (a7 : PySem.W.nsIn K mainGlobals "is_view" = some (some (.ref f7))) (l7 : K.lookup f7 = some ⟨oc7, od7, .func (PySem.W.fnOf "is_view" "is_view" (defArgs s_is_view) (defBody s_is_view) (defScope s_is_view) .none kV7 dc7 pm7 an7 cd7 ct7), sl7⟩) (c7 : PySem.W.codeIn K cd7 "is_view" = true) (k7 : PySem.W.keepIn K (.ref f7) = true)
    (a8 : PySem.W.nsIn K mainGlobals "bounds" = some (some (.ref f8))) (l8 : K.lookup f8 = some ⟨oc8, od8, .func (PySem.W.fnOf "bounds" "bounds" (defArgs s_bounds) (defBody s_bounds) (defScope s_bounds) .none kV8 dc8 pm8 an8 cd8 ct8), sl8⟩) (c8 : PySem.W.codeIn K cd8 "bounds" = true) (k8 : PySem.W.keepIn K (.ref f8) = true)
    (a9 : PySem.W.nsIn K mainGlobals "_law_dealt" = some (some (.ref f9))) (l9 : K.lookup f9 = some ⟨oc9, od9, .func (PySem.W.fnOf "_law_dealt" "_law_dealt" (defArgs s__law_dealt) (defBody s__law_dealt) (defScope s__law_dealt) .none kV9 dc9 pm9 an9 cd9 ct9), sl9⟩) (c9 : PySem.W.codeIn K cd9 "_law_dealt" = true) (k9 : PySem.W.keepIn K (.ref f9) = true)
    (a10 : PySem.W.nsIn K mainGlobals "_law_draw" = some (some (.ref f10))) (l10 : K.lookup f10 = some ⟨oc10, od10, .func (PySem.W.fnOf "_law_draw" "_law_draw" (defArgs s__law_draw) (defBody s__law_draw) (defScope s__law_draw) .none kV10 dc10 pm10 an10 cd10 ct10), sl10⟩) (c10 : PySem.W.codeIn K cd10 "_law_draw" = true) (k10 : PySem.W.keepIn K (.ref f10) = true)
    (a11 : PySem.W.nsIn K mainGlobals "_law_pick" = some (some (.ref f11))) (l11 : K.lookup f11 = some ⟨oc11, od11, .func (PySem.W.fnOf "_law_pick" "_law_pick" (defArgs s__law_pick) (defBody s__law_pick) (defScope s__law_pick) .none kV11 dc11 pm11 an11 cd11 ct11), sl11⟩) (c11 : PySem.W.codeIn K cd11 "_law_pick" = true) (k11 : PySem.W.keepIn K (.ref f11) = true)
    (a12 : PySem.W.nsIn K mainGlobals "_law_is_whole" = some (some (.ref f12))) (l12 : K.lookup f12 = some ⟨oc12, od12, .func (PySem.W.fnOf "_law_is_whole" "_law_is_whole" (defArgs s__law_is_whole) (defBody s__law_is_whole) (defScope s__law_is_whole) .none kV12 dc12 pm12 an12 cd12 ct12), sl12⟩) (c12 : PySem.W.codeIn K cd12 "_law_is_whole" = true) (k12 : PySem.W.keepIn K (.ref f12) = true)
    (a13 : PySem.W.nsIn K mainGlobals "_law_is_word" = some (some (.ref f13))) (l13 : K.lookup f13 = some ⟨oc13, od13, .func (PySem.W.fnOf "_law_is_word" "_law_is_word" (defArgs s__law_is_word) (defBody s__law_is_word) (defScope s__law_is_word) .none kV13 dc13 pm13 an13 cd13 ct13), sl13⟩) (c13 : PySem.W.codeIn K cd13 "_law_is_word" = true) (k13 : PySem.W.keepIn K (.ref f13) = true)
    (a14 : PySem.W.nsIn K mainGlobals "_law_is_body" = some (some (.ref f14))) (l14 : K.lookup f14 = some ⟨oc14, od14, .func (PySem.W.fnOf "_law_is_body" "_law_is_body" (defArgs s__law_is_body) (defBody s__law_is_body) (defScope s__law_is_body) .none kV14 dc14 pm14 an14 cd14 ct14), sl14⟩) (c14 : PySem.W.codeIn K cd14 "_law_is_body" = true) (k14 : PySem.W.keepIn K (.ref f14) = true)
    (a15 : PySem.W.nsIn K mainGlobals "_law_are_numbers" = some (some (.ref f15))) (l15 : K.lookup f15 = some ⟨oc15, od15, .func (PySem.W.fnOf "_law_are_numbers" "_law_are_numbers" (defArgs s__law_are_numbers) (defBody s__law_are_numbers) (defScope s__law_are_numbers) .none kV15 dc15 pm15 an15 cd15 ct15), sl15⟩) (c15 : PySem.W.codeIn K cd15 "_law_are_numbers" = true) (k15 : PySem.W.keepIn K (.ref f15) = true)
    (a16 : PySem.W.nsIn K mainGlobals "_law_is_seen" = some (some (.ref f16))) (l16 : K.lookup f16 = some ⟨oc16, od16, .func (PySem.W.fnOf "_law_is_seen" "_law_is_seen" (defArgs s__law_is_seen) (defBody s__law_is_seen) (defScope s__law_is_seen) .none kV16 dc16 pm16 an16 cd16 ct16), sl16⟩) (c16 : PySem.W.codeIn K cd16 "_law_is_seen" = true) (k16 : PySem.W.keepIn K (.ref f16) = true)
    (a17 : PySem.W.nsIn K mainGlobals "_law_is_view" = some (some (.ref f17))) (l17 : K.lookup f17 = some ⟨oc17, od17, .func (PySem.W.fnOf "_law_is_view" "_law_is_view" (defArgs s__law_is_view) (defBody s__law_is_view) (defScope s__law_is_view) .none kV17 dc17 pm17 an17 cd17 ct17), sl17⟩) (c17 : PySem.W.codeIn K cd17 "_law_is_view" = true) (k17 : PySem.W.keepIn K (.ref f17) = true)
    (a18 : PySem.W.nsIn K mainGlobals "_law_body" = some (some (.ref f18))) (l18 : K.lookup f18 = some ⟨oc18, od18, .func (PySem.W.fnOf "_law_body" "_law_body" (defArgs s__law_body) (defBody s__law_body) (defScope s__law_body) .none kV18 dc18 pm18 an18 cd18 ct18), sl18⟩) (c18 : PySem.W.codeIn K cd18 "_law_body" = true) (k18 : PySem.W.keepIn K (.ref f18) = true)
    (a19 : PySem.W.nsIn K mainGlobals "_law_bodies" = some (some (.ref f19))) (l19 : K.lookup f19 = some ⟨oc19, od19, .func (PySem.W.fnOf "_law_bodies" "_law_bodies" (defArgs s__law_bodies) (defBody s__law_bodies) (defScope s__law_bodies) .none kV19 dc19 pm19 an19 cd19 ct19), sl19⟩) (c19 : PySem.W.codeIn K cd19 "_law_bodies" = true) (k19 : PySem.W.keepIn K (.ref f19) = true)
    (a20 : PySem.W.nsIn K mainGlobals "_law_word" = some (some (.ref f20))) (l20 : K.lookup f20 = some ⟨oc20, od20, .func (PySem.W.fnOf "_law_word" "_law_word" (defArgs s__law_word) (defBody s__law_word) (defScope s__law_word) .none kV20 dc20 pm20 an20 cd20 ct20), sl20⟩) (c20 : PySem.W.codeIn K cd20 "_law_word" = true) (k20 : PySem.W.keepIn K (.ref f20) = true)
    (a21 : PySem.W.nsIn K mainGlobals "_law_some" = some (some (.ref f21))) (l21 : K.lookup f21 = some ⟨oc21, od21, .func (PySem.W.fnOf "_law_some" "_law_some" (defArgs s__law_some) (defBody s__law_some) (defScope s__law_some) .none kV21 dc21 pm21 an21 cd21 ct21), sl21⟩) (c21 : PySem.W.codeIn K cd21 "_law_some" = true) (k21 : PySem.W.keepIn K (.ref f21) = true)
    (a22 : PySem.W.nsIn K mainGlobals "_law_seen" = some (some (.ref f22))) (l22 : K.lookup f22 = some ⟨oc22, od22, .func (PySem.W.fnOf "_law_seen" "_law_seen" (defArgs s__law_seen) (defBody s__law_seen) (defScope s__law_seen) .none kV22 dc22 pm22 an22 cd22 ct22), sl22⟩) (c22 : PySem.W.codeIn K cd22 "_law_seen" = true) (k22 : PySem.W.keepIn K (.ref f22) = true)
    (a23 : PySem.W.nsIn K mainGlobals "_law_drawn_view" = some (some (.ref f23))) (l23 : K.lookup f23 = some ⟨oc23, od23, .func (PySem.W.fnOf "_law_drawn_view" "_law_drawn_view" (defArgs s__law_drawn_view) (defBody s__law_drawn_view) (defScope s__law_drawn_view) .none kV23 dc23 pm23 an23 cd23 ct23), sl23⟩) (c23 : PySem.W.codeIn K cd23 "_law_drawn_view" = true) (k23 : PySem.W.keepIn K (.ref f23) = true)
    (a24 : PySem.W.nsIn K mainGlobals "_law_odd" = some (some (.ref f24))) (l24 : K.lookup f24 = some ⟨oc24, od24, .func (PySem.W.fnOf "_law_odd" "_law_odd" (defArgs s__law_odd) (defBody s__law_odd) (defScope s__law_odd) .none kV24 dc24 pm24 an24 cd24 ct24), sl24⟩) (c24 : PySem.W.codeIn K cd24 "_law_odd" = true) (k24 : PySem.W.keepIn K (.ref f24) = true)
    (a25 : PySem.W.nsIn K mainGlobals "_law_bent" = some (some (.ref f25))) (l25 : K.lookup f25 = some ⟨oc25, od25, .func (PySem.W.fnOf "_law_bent" "_law_bent" (defArgs s__law_bent) (defBody s__law_bent) (defScope s__law_bent) .none kV25 dc25 pm25 an25 cd25 ct25), sl25⟩) (c25 : PySem.W.codeIn K cd25 "_law_bent" = true) (k25 : PySem.W.keepIn K (.ref f25) = true)
    (a26 : PySem.W.nsIn K mainGlobals "_law_near" = some (some (.ref f26))) (l26 : K.lookup f26 = some ⟨oc26, od26, .func (PySem.W.fnOf "_law_near" "_law_near" (defArgs s__law_near) (defBody s__law_near) (defScope s__law_near) .none kV26 dc26 pm26 an26 cd26 ct26), sl26⟩) (c26 : PySem.W.codeIn K cd26 "_law_near" = true) (k26 : PySem.W.keepIn K (.ref f26) = true)
    (a27 : PySem.W.nsIn K mainGlobals "_law_is_refused" = some (some (.ref f27))) (l27 : K.lookup f27 = some ⟨oc27, od27, .func (PySem.W.fnOf "_law_is_refused" "_law_is_refused" (defArgs s__law_is_refused) (defBody s__law_is_refused) (defScope s__law_is_refused) .none kV27 dc27 pm27 an27 cd27 ct27), sl27⟩) (c27 : PySem.W.codeIn K cd27 "_law_is_refused" = true) (k27 : PySem.W.keepIn K (.ref f27) = true)
    (a28 : PySem.W.nsIn K mainGlobals "law" = some (some (.ref f28))) (l28 : K.lookup f28 = some ⟨oc28, od28, .func (PySem.W.fnOf "law" "law" (defArgs s_law) (defBody s_law) (defScope s_law) .none kV28 dc28 pm28 an28 cd28 ct28), sl28⟩) (c28 : PySem.W.codeIn K cd28 "law" = true) (k28 : PySem.W.keepIn K (.ref f28) = true)
    (z0 : PySem.W.nsIn K mainGlobals "len" = some none)
    (z1 : PySem.W.nsIn K mainGlobals "str" = some none)
    (z2 : PySem.W.nsIn K mainGlobals "int" = some none)
    (z3 : PySem.W.nsIn K mainGlobals "isinstance" = some none)
    (z4 : PySem.W.nsIn K mainGlobals "range" = some none)
    (z5 : PySem.W.nsIn K mainGlobals "tuple" = some none)
    (z6 : PySem.W.nsIn K mainGlobals "list" = some none)
    (z7 : PySem.W.nsIn K mainGlobals "max" = some none)
    (z8 : PySem.W.nsIn K mainGlobals "min" = some none)
    (z9 : PySem.W.nsIn K mainGlobals "sorted" = some none)
    (z10 : PySem.W.nsIn K mainGlobals "repr" = some none)
    (z11 : PySem.W.nsIn K mainGlobals "bool" = some none)
    (z12 : PySem.W.nsIn K mainGlobals "all" = some none)
    (z13 : PySem.W.nsIn K mainGlobals "set" = some none)
    (z14 : PySem.W.nsIn K mainGlobals "ord" = some none)
    (tx : PySem.W.nsIn K mainGlobals "NUMBER_MOST" = some (some (.int 1000000000 tn))) (ty : PySem.W.nsIn K mainGlobals "WORD_MOST" = some (some (.int 10 tw))) (tz : PySem.W.nsIn K mainGlobals "BODY_MOST" = some (some (.int 150 tb)))
    {nm qn : Str} {Nn : Addr} {bs bm : List Value} {sn : List Str} {sub : List Value} {ab : Bool} {col : Option Bool} {dd : Option Addr} {q0 q1 q2 q3 q5 : Option Value} {cdC : ClassData} {ocI kVI dcI pmI cdI ctI : Value} {odI anI : Option Addr} {slI : Array (Option Value)}
    (e0 : PySem.W.nsIn K mainGlobals "BadView" = some (some (.ref C))) (e1 : K.lookup C = some (excClassObj nm qn C Nn bs bm true sn sub ab col dd q0 q1 q2 q3 q5 "Exception.__new__")) (e2 : PySem.W.excTail exT bm = true) (e3 : PySem.W.findIn K (.ref C) "__setattr__" = some (some (.builtin "object.__setattr__")))
    (e4 : PySem.W.subIn K (.ref C) (.type "BaseException") = some true) (e5 : PySem.W.typeIn K (.ref C) = some (.type "type")) (e6 : PySem.W.keepIn K (.ref C) = true) (e7 : PySem.W.findIn K (.ref C) "__getattribute__" = some (some (.builtin "BaseException.__getattribute__"))) (e8 : PySem.W.findIn K (.ref C) "__getattr__" = some none)
    (e9 : PySem.W.hasDictIn K C = true) (e10 : PySem.W.findIn K (.ref C) "thing" = some none) (e11 : PySem.W.findIn K (.ref C) "__init__" = some (some (.ref fI))) (e12 : PySem.W.typeIn K (.ref fI) = some (.type "function")) (e13 : PySem.W.clsIn K C = some cdC) (e14 : PySem.W.subIn K (.ref C) (.ref C) = some true)
    (e15 : K.lookup fI = some ⟨ocI, odI, .func (PySem.W.fnOf "__init__" "BadView.__init__" (defArgs s_BV) (defBody s_BV) (defScope s_BV) .none kVI dcI pmI anI cdI ctI), slI⟩) (e16 : PySem.W.codeIn K cdI "BadView.__init__" = true) (e17 : PySem.W.keepIn K (.ref fI) = true) :
    ∃ fd : FuncData, (∀ (s : Shared) (v : Value), BindsTo s fd ⟨[v], []⟩ [("_law_script", v)]) ∧ ∀ base : Heap, K.In base → base.Ns mainGlobals mg → FnG l.prog w K mg base 7 fa fd ["_law_script"] (spLaw K) := by
  have e := hfa.symm.trans (PySem.W.mg_of X G a28)
  cases e
  have B : Blt mg := ⟨PySem.W.mg_none_of X G z0, PySem.W.mg_none_of X G z1, PySem.W.mg_none_of X G z2, PySem.W.mg_none_of X G z3, PySem.W.mg_none_of X G z4, PySem.W.mg_none_of X G z5, PySem.W.mg_none_of X G z6, PySem.W.mg_none_of X G z7, PySem.W.mg_none_of X G z8, PySem.W.mg_none_of X G z9, PySem.W.mg_none_of X G z10, PySem.W.mg_none_of X G z11, PySem.W.mg_none_of X G z12, PySem.W.mg_none_of X G z13, PySem.W.mg_none_of X G z14⟩
  have Cn : Con mg tn tw tb := ⟨B, PySem.W.mg_of X G tx, PySem.W.mg_of X G ty, PySem.W.mg_of X G tz⟩
  have U0 := fun_mk (st := s_is_integer) l0 c0 k0
  have b0 := U0.binds (ps := ["thing"]) fun _ _ _ _ _ _ us hl => match us, hl with | [_], _ => rfl
  have F0 : Fn K mg "is_integer" s_is_integer ["thing"] _ _ := ⟨U0, b0, PySem.W.mg_of X G a0⟩
  have U1 := fun_mk (st := s_is_between) l1 c1 k1
  have b1 := U1.binds (ps := ["thing", "least", "most"]) fun _ _ _ _ _ _ us hl => match us, hl with | [_, _, _], _ => rfl
  have F1 : Fn K mg "is_between" s_is_between ["thing", "least", "most"] _ _ := ⟨U1, b1, PySem.W.mg_of X G a1⟩
  have U2 := fun_mk (st := s_is_number) l2 c2 k2
  have b2 := U2.binds (ps := ["thing"]) fun _ _ _ _ _ _ us hl => match us, hl with | [_], _ => rfl
  have F2 : Fn K mg "is_number" s_is_number ["thing"] _ _ := ⟨U2, b2, PySem.W.mg_of X G a2⟩
  have U3 := fun_mk (st := s_is_plain) l3 c3 k3
  have b3 := U3.binds (ps := ["string"]) fun _ _ _ _ _ _ us hl => match us, hl with | [_], _ => rfl
  have F3 : Fn K mg "is_plain" s_is_plain ["string"] _ _ := ⟨U3, b3, PySem.W.mg_of X G a3⟩
  have U4 := fun_mk (st := s_is_word) l4 c4 k4
  have b4 := U4.binds (ps := ["thing"]) fun _ _ _ _ _ _ us hl => match us, hl with | [_], _ => rfl
  have F4 : Fn K mg "is_word" s_is_word ["thing"] _ _ := ⟨U4, b4, PySem.W.mg_of X G a4⟩
  have U5 := fun_mk (st := s_are_counted) l5 c5 k5
  have b5 := U5.binds (ps := ["thing", "most"]) fun _ _ _ _ _ _ us hl => match us, hl with | [_, _], _ => rfl
  have F5 : Fn K mg "are_counted" s_are_counted ["thing", "most"] _ _ := ⟨U5, b5, PySem.W.mg_of X G a5⟩
  have U6 := fun_mk (st := s_is_body) l6 c6 k6
  have b6 := U6.binds (ps := ["thing"]) fun _ _ _ _ _ _ us hl => match us, hl with | [_], _ => rfl
  have F6 : Fn K mg "is_body" s_is_body ["thing"] _ _ := ⟨U6, b6, PySem.W.mg_of X G a6⟩
  have U7 := fun_mk (st := s_is_view) l7 c7 k7
  have b7 := U7.binds (ps := ["thing"]) fun _ _ _ _ _ _ us hl => match us, hl with | [_], _ => rfl
  have F7 : Fn K mg "is_view" s_is_view ["thing"] _ _ := ⟨U7, b7, PySem.W.mg_of X G a7⟩
  have U8 := fun_mk (st := s_bounds) l8 c8 k8
  have b8 := U8.binds (ps := ["view"]) fun _ _ _ _ _ _ us hl => match us, hl with | [_], _ => rfl
  have F8 : Fn K mg "bounds" s_bounds ["view"] _ _ := ⟨U8, b8, PySem.W.mg_of X G a8⟩
  have U9 := fun_mk (st := s__law_dealt) l9 c9 k9
  have b9 := U9.binds (ps := ["_law_script"]) fun _ _ _ _ _ _ us hl => match us, hl with | [_], _ => rfl
  have F9 : Fn K mg "_law_dealt" s__law_dealt ["_law_script"] _ _ := ⟨U9, b9, PySem.W.mg_of X G a9⟩
  have U10 := fun_mk (st := s__law_draw) l10 c10 k10
  have b10 := U10.binds (ps := ["_law_deck", "_law_many"]) fun _ _ _ _ _ _ us hl => match us, hl with | [_, _], _ => rfl
  have F10 : Fn K mg "_law_draw" s__law_draw ["_law_deck", "_law_many"] _ _ := ⟨U10, b10, PySem.W.mg_of X G a10⟩
  have U11 := fun_mk (st := s__law_pick) l11 c11 k11
  have b11 := U11.binds (ps := ["_law_deck", "_law_some_here"]) fun _ _ _ _ _ _ us hl => match us, hl with | [_, _], _ => rfl
  have F11 : Fn K mg "_law_pick" s__law_pick ["_law_deck", "_law_some_here"] _ _ := ⟨U11, b11, PySem.W.mg_of X G a11⟩
  have U12 := fun_mk (st := s__law_is_whole) l12 c12 k12
  have b12 := U12.binds (ps := ["_law_thing", "_law_low", "_law_high"]) fun _ _ _ _ _ _ us hl => match us, hl with | [_, _, _], _ => rfl
  have F12 : Fn K mg "_law_is_whole" s__law_is_whole ["_law_thing", "_law_low", "_law_high"] _ _ := ⟨U12, b12, PySem.W.mg_of X G a12⟩
  have U13 := fun_mk (st := s__law_is_word) l13 c13 k13
  have b13 := U13.binds (ps := ["_law_thing"]) fun _ _ _ _ _ _ us hl => match us, hl with | [_], _ => rfl
  have F13 : Fn K mg "_law_is_word" s__law_is_word ["_law_thing"] _ _ := ⟨U13, b13, PySem.W.mg_of X G a13⟩
  have U14 := fun_mk (st := s__law_is_body) l14 c14 k14
  have b14 := U14.binds (ps := ["_law_thing"]) fun _ _ _ _ _ _ us hl => match us, hl with | [_], _ => rfl
  have F14 : Fn K mg "_law_is_body" s__law_is_body ["_law_thing"] _ _ := ⟨U14, b14, PySem.W.mg_of X G a14⟩
  have U15 := fun_mk (st := s__law_are_numbers) l15 c15 k15
  have b15 := U15.binds (ps := ["_law_thing", "_law_high"]) fun _ _ _ _ _ _ us hl => match us, hl with | [_, _], _ => rfl
  have F15 : Fn K mg "_law_are_numbers" s__law_are_numbers ["_law_thing", "_law_high"] _ _ := ⟨U15, b15, PySem.W.mg_of X G a15⟩
  have U16 := fun_mk (st := s__law_is_seen) l16 c16 k16
  have b16 := U16.binds (ps := ["_law_boot", "_law_many", "_law_replied", "_law_away", "_law_upto"]) fun _ _ _ _ _ _ us hl => match us, hl with | [_, _, _, _, _], _ => rfl
  have F16 : Fn K mg "_law_is_seen" s__law_is_seen ["_law_boot", "_law_many", "_law_replied", "_law_away", "_law_upto"] _ _ := ⟨U16, b16, PySem.W.mg_of X G a16⟩
  have U17 := fun_mk (st := s__law_is_view) l17 c17 k17
  have b17 := U17.binds (ps := ["_law_thing"]) fun _ _ _ _ _ _ us hl => match us, hl with | [_], _ => rfl
  have F17 : Fn K mg "_law_is_view" s__law_is_view ["_law_thing"] _ _ := ⟨U17, b17, PySem.W.mg_of X G a17⟩
  have U18 := fun_mk (st := s__law_body) l18 c18 k18
  have b18 := U18.binds (ps := ["_law_deck"]) fun _ _ _ _ _ _ us hl => match us, hl with | [_], _ => rfl
  have F18 : Fn K mg "_law_body" s__law_body ["_law_deck"] _ _ := ⟨U18, b18, PySem.W.mg_of X G a18⟩
  have U19 := fun_mk (st := s__law_bodies) l19 c19 k19
  have b19 := U19.binds (ps := ["_law_deck", "_law_many"]) fun _ _ _ _ _ _ us hl => match us, hl with | [_, _], _ => rfl
  have F19 : Fn K mg "_law_bodies" s__law_bodies ["_law_deck", "_law_many"] _ _ := ⟨U19, b19, PySem.W.mg_of X G a19⟩
  have U20 := fun_mk (st := s__law_word) l20 c20 k20
  have b20 := U20.binds (ps := ["_law_deck"]) fun _ _ _ _ _ _ us hl => match us, hl with | [_], _ => rfl
  have F20 : Fn K mg "_law_word" s__law_word ["_law_deck"] _ _ := ⟨U20, b20, PySem.W.mg_of X G a20⟩
  have U21 := fun_mk (st := s__law_some) l21 c21 k21
  have b21 := U21.binds (ps := ["_law_deck", "_law_many"]) fun _ _ _ _ _ _ us hl => match us, hl with | [_, _], _ => rfl
  have F21 : Fn K mg "_law_some" s__law_some ["_law_deck", "_law_many"] _ _ := ⟨U21, b21, PySem.W.mg_of X G a21⟩
  have U22 := fun_mk (st := s__law_seen) l22 c22 k22
  have b22 := U22.binds (ps := ["_law_deck", "_law_many"]) fun _ _ _ _ _ _ us hl => match us, hl with | [_, _], _ => rfl
  have F22 : Fn K mg "_law_seen" s__law_seen ["_law_deck", "_law_many"] _ _ := ⟨U22, b22, PySem.W.mg_of X G a22⟩
  have U23 := fun_mk (st := s__law_drawn_view) l23 c23 k23
  have b23 := U23.binds (ps := ["_law_deck", "_law_many"]) fun _ _ _ _ _ _ us hl => match us, hl with | [_, _], _ => rfl
  have F23 : Fn K mg "_law_drawn_view" s__law_drawn_view ["_law_deck", "_law_many"] _ _ := ⟨U23, b23, PySem.W.mg_of X G a23⟩
  have U24 := fun_mk (st := s__law_odd) l24 c24 k24
  have b24 := U24.binds (ps := ["_law_deck"]) fun _ _ _ _ _ _ us hl => match us, hl with | [_], _ => rfl
  have F24 : Fn K mg "_law_odd" s__law_odd ["_law_deck"] _ _ := ⟨U24, b24, PySem.W.mg_of X G a24⟩
  have U25 := fun_mk (st := s__law_bent) l25 c25 k25
  have b25 := U25.binds (ps := ["_law_deck", "_law_thing"]) fun _ _ _ _ _ _ us hl => match us, hl with | [_, _], _ => rfl
  have F25 : Fn K mg "_law_bent" s__law_bent ["_law_deck", "_law_thing"] _ _ := ⟨U25, b25, PySem.W.mg_of X G a25⟩
  have U26 := fun_mk (st := s__law_near) l26 c26 k26
  have b26 := U26.binds (ps := ["_law_deck"]) fun _ _ _ _ _ _ us hl => match us, hl with | [_], _ => rfl
  have F26 : Fn K mg "_law_near" s__law_near ["_law_deck"] _ _ := ⟨U26, b26, PySem.W.mg_of X G a26⟩
  have U27 := fun_mk (st := s__law_is_refused) l27 c27 k27
  have b27 := U27.binds (ps := ["_law_thing", "_law_is_named"]) fun _ _ _ _ _ _ us hl => match us, hl with | [_, _], _ => rfl
  have F27 : Fn K mg "_law_is_refused" s__law_is_refused ["_law_thing", "_law_is_named"] _ _ := ⟨U27, b27, PySem.W.mg_of X G a27⟩
  have U28 := fun_mk (st := s_law) l28 c28 k28
  have b28 := U28.binds (ps := ["_law_script"]) fun _ _ _ _ _ _ us hl => match us, hl with | [_], _ => rfl
  have F28 : Fn K mg "law" s_law ["_law_script"] _ _ := ⟨U28, b28, PySem.W.mg_of X G a28⟩
  have UI := fun_mk (st := s_BV) e15 e16 e17
  have bI := UI.binds (ps := ["self", "thing"]) fun _ _ _ _ _ _ us hl => match us, hl with | [_, _], _ => rfl
  have TE : ExcI K mg "BadView" "BadView.__init__" s_BV C fI _ := ⟨⟨⟨nm, qn, Nn, bs, bm, sn, sub, ab, col, dd, q0, q1, q2, q3, q5, e1, e2⟩, e3, e4, e5, e6⟩, ⟨e7, e8, e4, e9⟩, e10, ⟨e11, e12⟩, UI, bI, PySem.W.mg_of X G e0, exm_self e4 e13 e5 e14⟩
  have Kv : KwB K _ ["thing"] ["thing"] (fun u => u) (fun u => u) := kwt (fd := PySem.W.fnOf "is_view" "is_view" (defArgs s_is_view) (defBody s_is_view) (defScope s_is_view) .none kV7 dc7 pm7 an7 cd7 ct7) fun s a => .of_eq rfl
  have Kb : KwB K _ ["view"] ["view"] (fun u => u) (fun u => u) := kwt (fd := PySem.W.fnOf "bounds" "bounds" (defArgs s_bounds) (defBody s_bounds) (defScope s_bounds) .none kV8 dc8 pm8 an8 cd8 ct8) fun s a => .of_eq rfl
  refine ⟨PySem.W.fnOf "law" "law" (defArgs s_law) (defBody s_law) (defScope s_law) .none kV28 dc28 pm28 an28 cd28 ct28, fun s v => .of_eq rfl, fun base _ _ => ?_⟩
  have Gnum : FnOk l.prog w K mg base CX0 _ _ _ _ _ := ok_is_number F2 Cn F0 F1
  have Gword : FnOk l.prog w K mg base CX0 _ _ _ _ _ := ok_is_word F4 Cn
  have Gbody : FnOk l.prog w K mg base CX0 _ _ _ _ _ := ok_is_body F6 Cn F3
  have Gbtw : FnOk l.prog w K mg base CX0 _ _ _ _ _ := ok_is_between F1 Cn F0
  have Gcnt : FnOk l.prog w K mg base CX0 _ _ _ _ _ := ok_are_counted F5 Cn F1 Gbtw
  have Gview : FnOk l.prog w K mg base CX0 _ _ _ _ _ := ok_is_view F7 Cn F4 Gword F6 Gbody F2 Gnum F5 Gcnt
  have Gbounds : FnOk l.prog w K mg base (L2.CX l.prog w) _ _ _ _ _ := ok_bounds F8 Cn F7 Gview TE
  have Gdeck : FnOk l.prog w K mg base CX0 _ _ _ _ _ := ok_deck F9 B
  have Gdraw : FnOk l.prog w K mg base CX0 _ _ _ _ _ := ok_draw F10 B
  have Gpick : FnOk l.prog w K mg base CX0 _ _ _ _ _ := ok_pick F11 B F10
  have Glseen : FnOk l.prog w K mg base CX0 _ _ _ _ _ := ok_lseen F16 Cn F12 F15
  have Glview : FnOk l.prog w K mg base CX0 _ _ _ _ _ := ok_lview F17 Cn F13 F12 F14 F16 Glseen
  have Gmkb : FnOk l.prog w K mg base CX0 _ _ _ _ _ := ok_mkbody F18 Cn F10 F11
  have Gmkbs : FnOk l.prog w K mg base CX0 _ _ _ _ _ := ok_mkbodies F19 Cn F18 Gmkb
  have Gmkw : FnOk l.prog w K mg base CX0 _ _ _ _ _ := ok_mkword F20 Cn F10 F11
  have Gseen : FnOk l.prog w K mg base CX0 _ _ _ _ _ := ok_seenM F22 Cn F10 F11 F21
  have Gdrawn : FnOk l.prog w K mg base CX0 _ _ _ _ _ := ok_drawn F23 Cn F10 F11 F22 Gseen F20 Gmkw F19 Gmkbs
  have Godd : FnOk l.prog w K mg base CX0 _ _ _ _ _ := ok_odd F24 Cn F10 F11
  have Gbent : FnOk l.prog w K mg base CX0 6 _ _ _ _ := ok_bent F25 Cn F10 F11 F24 3
  have Gnear : FnOk l.prog w K mg base CX0 _ _ _ _ _ := ok_near F26 Cn F10 F11 F21 F19 Gmkbs
  have Gref : FnG l.prog w K mg base _ _ _ _ _ := ok_refused F27 Cn F8 Gbounds Kb TE
  exact ok_law (C := C) F28 Cn F9 Gdeck F10 Gdraw F11 Gpick F23 Gdrawn F26 Gnear F25 Gbent F24 Godd F17 Glview F7 Gview Kv F27 Gref
end Ag

end
/-! ## Tail11 -/
open PySem PySem.W PyProof.Rows
set_option maxRecDepth 100000 in
set_option maxHeartbeats 0 in
theorem PySem.Challenge.cw_answergate_k11_any_value_as_a_view_holds : PySem.Challenge.rw_answergate_k11_any_value_as_a_view.Holds := by
  w_on; o_law; k_head; (case hw => w_witness2)
  k_fill
  refine Ag.walkG (l := PySem.Challenge.rw_answergate_k11_any_value_as_a_view) (n := 63) (k := 7) (x := "_law_script") (sp := Ag.spLaw) rfl (by decide) rfl ⟨rfl, by decide, by decide⟩ (fun w h Y => PySem.W.kIn_of Y) ?F (fun K H a ns hl hS => ⟨a, ns, rfl, hS, hl, fun _ => rfl⟩)
  case F =>
    intro w mg fa h KX G hmg
    refine' Ag.all_mk KX G hmg ?a0 ?l0 ?c0 ?k0 ?a1 ?l1 ?c1 ?k1 ?a2 ?l2 ?c2 ?k2 ?a3 ?l3 ?c3 ?k3 ?a4 ?l4 ?c4 ?k4 ?a5 ?l5 ?c5 ?k5 ?a6 ?l6 ?c6 ?k6 ?a7 ?l7 ?c7 ?k7 ?a8 ?l8 ?c8 ?k8 ?a9 ?l9 ?c9 ?k9 ?a10 ?l10 ?c10 ?k10 ?a11 ?l11 ?c11 ?k11 ?a12 ?l12 ?c12 ?k12 ?a13 ?l13 ?c13 ?k13 ?a14 ?l14 ?c14 ?k14 ?a15 ?l15 ?c15 ?k15 ?a16 ?l16 ?c16 ?k16 ?a17 ?l17 ?c17 ?k17 ?a18 ?l18 ?c18 ?k18 ?a19 ?l19 ?c19 ?k19 ?a20 ?l20 ?c20 ?k20 ?a21 ?l21 ?c21 ?k21 ?a22 ?l22 ?c22 ?k22 ?a23 ?l23 ?c23 ?k23 ?a24 ?l24 ?c24 ?k24 ?a25 ?l25 ?c25 ?k25 ?a26 ?l26 ?c26 ?k26 ?a27 ?l27 ?c27 ?k27 ?a28 ?l28 ?c28 ?k28 ?z0 ?z1 ?z2 ?z3 ?z4 ?z5 ?z6 ?z7 ?z8 ?z9 ?z10 ?z11 ?z12 ?z13 ?z14 ?tx ?ty ?tz ?ye0 ?ye1 ?ye2 ?ye3 ?ye4 ?ye5 ?ye6 ?ye7 ?ye8 ?ye9 ?ye10 ?ye11 ?ye12 ?ye13 ?ye14 ?ye15 ?ye16 ?ye17
    (case a0 => k_is); (case l0 => k_is); (case c0 => k_is); (case k0 => k_is)
    (case a1 => k_is); (case l1 => k_is); (case c1 => k_is); (case k1 => k_is)
    (case a2 => k_is); (case l2 => k_is); (case c2 => k_is); (case k2 => k_is)
    (case a3 => k_is); (case l3 => k_is); (case c3 => k_is); (case k3 => k_is)
    (case a4 => k_is); (case l4 => k_is); (case c4 => k_is); (case k4 => k_is)
    (case a5 => k_is); (case l5 => k_is); (case c5 => k_is); (case k5 => k_is)
    (case a6 => k_is); (case l6 => k_is); (case c6 => k_is); (case k6 => k_is)
    (case a7 => k_is); (case l7 => k_is); (case c7 => k_is); (case k7 => k_is)
    (case a8 => k_is); (case l8 => k_is); (case c8 => k_is); (case k8 => k_is)
    (case a9 => k_is); (case l9 => k_is); (case c9 => k_is); (case k9 => k_is)
    (case a10 => k_is); (case l10 => k_is); (case c10 => k_is); (case k10 => k_is)
    (case a11 => k_is); (case l11 => k_is); (case c11 => k_is); (case k11 => k_is)
    (case a12 => k_is); (case l12 => k_is); (case c12 => k_is); (case k12 => k_is)
    (case a13 => k_is); (case l13 => k_is); (case c13 => k_is); (case k13 => k_is)
    (case a14 => k_is); (case l14 => k_is); (case c14 => k_is); (case k14 => k_is)
    (case a15 => k_is); (case l15 => k_is); (case c15 => k_is); (case k15 => k_is)
    (case a16 => k_is); (case l16 => k_is); (case c16 => k_is); (case k16 => k_is)
    (case a17 => k_is); (case l17 => k_is); (case c17 => k_is); (case k17 => k_is)
    (case a18 => k_is); (case l18 => k_is); (case c18 => k_is); (case k18 => k_is)
    (case a19 => k_is); (case l19 => k_is); (case c19 => k_is); (case k19 => k_is)
    (case a20 => k_is); (case l20 => k_is); (case c20 => k_is); (case k20 => k_is)
    (case a21 => k_is); (case l21 => k_is); (case c21 => k_is); (case k21 => k_is)
    (case a22 => k_is); (case l22 => k_is); (case c22 => k_is); (case k22 => k_is)
    (case a23 => k_is); (case l23 => k_is); (case c23 => k_is); (case k23 => k_is)
    (case a24 => k_is); (case l24 => k_is); (case c24 => k_is); (case k24 => k_is)
    (case a25 => k_is); (case l25 => k_is); (case c25 => k_is); (case k25 => k_is)
    (case a26 => k_is); (case l26 => k_is); (case c26 => k_is); (case k26 => k_is)
    (case a27 => k_is); (case l27 => k_is); (case c27 => k_is); (case k27 => k_is)
    (case a28 => k_is); (case l28 => k_is); (case c28 => k_is); (case k28 => k_is)
    (case z0 => k_is); (case z1 => k_is); (case z2 => k_is); (case z3 => k_is); (case z4 => k_is); (case z5 => k_is); (case z6 => k_is); (case z7 => k_is); (case z8 => k_is); (case z9 => k_is); (case z10 => k_is); (case z11 => k_is); (case z12 => k_is); (case z13 => k_is); (case z14 => k_is)
    (case tx => k_is); (case ty => k_is); (case tz => k_is)
    (case ye0 => k_is); (case ye1 => k_is); (case ye2 => rfl)
    (case ye3 => k_is); (case ye4 => k_is); (case ye5 => k_is); (case ye6 => k_is); (case ye7 => k_is); (case ye8 => k_is); (case ye9 => k_is); (case ye10 => k_is); (case ye11 => k_is); (case ye12 => k_is); (case ye13 => k_is); (case ye14 => k_is); (case ye15 => k_is); (case ye16 => k_is); (case ye17 => k_is)

