import PyProof.Rows.All
import Wide.All
import OpenK.AllK
import Wide.FinOn
import HandS.ForMost
import HandS.IsInst
import HandS.FStr
import HandS.StrMore
import HandS.Style
import HandS.SortInts
import HandS.Wide
import HandS.TupAny
import HandS.TupMul
import PyProof.StrBlock2
import PyProof.ReprRoads
import PyProof.ReprText
import HandS.Codes
import HandS.Walk
import PyProof.Draws
import PyProof.EnumFor
import PyProof.EnumMake
import PyProof.ListStr
import HandS.Conv
import HandS.Star
import PySem.Challenge.RW_answergate_k22_whole_marks_under_any_loo
set_option Elab.async false
/-! ## Base0 -/
section
set_option linter.all false
set_option maxRecDepth 100000
namespace Ag
open PySem PySem.Spec PyProof.Rows L2
/-! ### a def's promise where it is known that no repr runs around the call -/
structure FnG (P : Program) (w : World) (K : PySem.W.Frag) (mg : Str → Option Value) (base : Heap) (k : Nat) (f : Addr) (fd : FuncData) (ps : List Str) (sp : Sp) : Prop where
  len : ∀ vs H Q E, sp vs H Q E → vs.length = ps.length
  run : ∀ (A : Around) (outer : List Env) (s : Shared) (H : Hp) (args : Args) (us : List Value) (vs : List V) (Q : VK) (E : XK), Room k A → A.guards = some [] →
    Env0 P w K mg base A outer s H → BindsTo s fd args (ps.zip us) → Vals vs us → sp vs H Q E → codeAny (model P w) A (.call (.ref f) args) (CR CX0 outer P w H s Q E) s
theorem FnG.of {P : Program} {w : World} {K : PySem.W.Frag} {mg : Str → Option Value} {base : Heap} {k : Nat} {f : Addr} {fd : FuncData} {ps : List Str} {sp : Sp} (F : FnOk P w K mg base CX0 k f fd ps sp) :
    FnG P w K mg base k f fd ps sp := ⟨F.len, fun A outer s H args us vs Q E hr _ => F.run A outer s H args us vs Q E hr⟩
theorem g_deeper {A : Around} {env : Env} (h : A.guards = some []) : (A.deeper env).guards = some [] := by
  first | exact h | (simp [Around.deeper, h])
section
variable {P : Program} {w : World} {K : PySem.W.Frag} {mg : Str → Option Value} {base : Heap}
theorem okG {x qual : Str} {st : Stmt} {f : Addr} {fd : FuncData} {N ps : List Str} {k : Nat} {sp : Sp} (F : Fun K x qual st f fd) (S : FnScope N ps (defScope st))
    (len : ∀ vs H Q E, sp vs H Q E → vs.length = ps.length)
    (hbody : ∀ (cdv : Value) (A : Around) (outer : List Env) (s : Shared) (H : Hp) (vs : List V) (Q : VK) (E : XK), Room k (A.deeper (envOfC qual (defScope st) s.heap.objs.size f cdv)) →
      (A.deeper (envOfC qual (defScope st) s.heap.objs.size f cdv)).guards = some [] → sp vs H Q E →
      ∃ t, PSs (cxOf CX0 P w K mg base N qual (defScope st) f cdv A outer s H E).nox (defBody st) t ∧ t { nx := fun _ H' => Q .non H', rt := Q } (start N vs) H) :
    FnG P w K mg base (k + 1) f fd ps sp := by
  obtain ⟨oc, od, kV, doc, pm, an, cdv, ct, osl, rfl, lk, hcd⟩ := F.ex
  refine ⟨len, ?_⟩
  intro A outer s H args us vs Q E hr hg env0 hb rel hsp
  have hlen := len vs H Q E hsp
  have below : ∀ b o, base.get? b = some o → s.heap.get? b = some o := fun b o e => (env0.bs b o e).1
  have KX : K.In s.heap := env0.mod.kin.keeps below
  have noLim : s.heap.NoLimit := env0.mod.nolimit.keeps below
  have kinds : ∀ y ∈ ps.zip us, (defScope st).names.lookup y.1 = some .local ∨ ((defScope st).names.lookup y.1 = some .cell ∧ ((cellsFrom (s.heap.objs.size + 1) (defScope st).names []).lookup y.1).isSome = true) := by
    rintro ⟨n, v⟩ hy
    exact (S.par n (List.of_mem_zip hy).1).imp id fun q => ⟨q, PySem.W.cellsFrom_some _ _ _ (.inl q)⟩
  refine codeAny_call_function hr.depth (KX f _ lk) rfl S.co S.gen rfl (PySem.W.codeRec_of KX hcd) (hb _ _ _ _ (wpAny_newFunctionEnv_cells S.kind kinds ?_))
  intro env he s1 x
  subst he
  refine ⟨noLim.keeps x.toInCall.keep, codeAny_func ?_⟩
  obtain ⟨t, ht, hq⟩ := hbody cdv A outer s H vs Q E (hr.deeper _) (g_deeper hg) hsp
  have I := inv_start (CX := CX0) (E := E) S hr.hd env0 hlen rel x
  refine wpAny_mono (ht.nox.run [] s1 (start N vs) H _ I hq) (fun fl s' hs => ?_) (fun e s' hs => hs)
  cases fl with
  | brk => exact hs.elim fun _ z => z.elim fun _ z => z.2.elim
  | cont => exact hs.elim fun _ z => z.elim fun _ z => z.2.elim
  | next =>
    obtain ⟨σ', H', J, q⟩ := hs
    exact ⟨.non, H', J.os, J.bare, J.base, J.hok, rfl, q⟩
  | ret u =>
    obtain ⟨v, σ', H', J, rv, q⟩ := hs
    exact ⟨v, H', J.os, J.bare, J.base, J.hok, rv, q⟩
end
section
variable {X : Cx} {k : Nat} {f : Addr} {fd : FuncData} {ps : List Str} {sp : Sp} {x : Str} {p pos : Pos} {e : Expr} {es : List Expr} {t : TA}
theorem run_G {pins : List (Addr × Obj)} {σ : L2.St} {H : Hp} {s : Shared} {Q : VK} {us : List Value} {vs : List V} {args : Args} (F : FnG X.prog X.w X.K X.mg X.base k f fd ps sp) (hr : Room k X.A) (hG : X.A.guards = some [])
    (I : Inv X pins σ H s) (hb : BindsTo s fd args (ps.zip us)) (r : Vals vs us) (h : sp vs H Q E0) : codeAny (model X.prog X.w) X.A (.call (.ref f) args) (fun r s' => ∃ u, r = .ok (.ret u) ∧ EP X pins σ Q u s') s := by
  refine codeAny_mono (F.run X.A X.stack s H args us vs Q E0 hr hG I.env0 hb r h) ?_
  intro r s' hq
  match r, hq with
  | .error e, hq => exact hq.elim
  | .ok (.ret u), hq => exact ⟨u, rfl, I.after hq⟩
/-- f(e, ..) -/
theorem pe_callG (F : FnG X.prog X.w X.K X.mg X.base k f fd ps sp) (hr : Room k X.A) (hG : X.A.guards = some []) (hg : Gl X x) (hm : X.mg x = some (.ref f)) (hk : PySem.W.keepIn X.K (.ref f) = true) (hb : Binds X.K fd ps [])
    (ha : PA X (e :: es) t) (hdb : (x == ("__debug__" : Str)) = false := by decide) (he : starEach (e :: es) X.env = (false, eval e X.env) :: starEach es X.env := by rfl) (hpl : (backTo pos (starEach es X.env)).any (·.1) = false := by rfl) :
    PE X (.Call (.Name x p) (e :: es) [] pos) (tCall sp [] E0 t) := by
  constructor
  intro pins s σ H Q I h
  refine wpAny_Call_Name_kw (ld_glob I hg hm (PySem.W.callWith_K (h₀ := X.base) I.ok.mod.kin hk (thn (ha.run pos pins s σ H _ I h) ?_) he hpl) hdb)
  rintro us s1 ⟨vs, H1, I1, r, q⟩
  rw [List.append_nil] at q
  have hl : us.length = ps.length := by rw [← r.length]; exact F.len _ _ _ _ q
  have z := hb s1 us I1.kIn (by rw [List.append_nil]; exact hl)
  rw [List.append_nil] at z
  refine ⟨I1.kIn, ?_⟩
  show wpAny _ _ (call (.ref f) us) _ _ _
  refine wpAny_call (codeAny_mono (run_G F hr hG I1 z r q) ?_)
  rintro r s' ⟨u, rfl, z⟩
  exact z
/-- f(k = e, ..), keywords alone -/
structure KwB (K : PySem.W.Frag) (fd : FuncData) (ps ks : List Str) (gv : List Value → List Value) (gV : List V → List V) : Prop where
  to : ∀ (s : Shared) (ws : List Value), ws.length = ks.length → BindsTo s fd ⟨[], ks.zip ws⟩ (ps.zip (gv ws))
  rel : ∀ {zs : List V} {ws : List Value}, zs.length = ks.length → Vals zs ws → Vals (gV zs) (gv ws)
def tCallKw (sp : Sp) (n : Nat) (gV : List V → List V) (t : TA) : TE := fun σ H Q => t σ H fun zs H2 => zs.length = n ∧ sp (gV zs) H2 Q E0
variable {ks : List Str} {gv : List Value → List Value} {gV : List V → List V} {kws : List Keyword}
theorem pe_callKwG (F : FnG X.prog X.w X.K X.mg X.base k f fd ps sp) (hr : Room k X.A) (hG : X.A.guards = some []) (hg : Gl X x) (hm : X.mg x = some (.ref f)) (hk : PySem.W.keepIn X.K (.ref f) = true) (hb : KwB X.K fd ps ks gv gV)
    (ha : PK X kws t) (hall : (backToKw pos (keywordEach kws X.env)).all (·.1.isSome) = true := by rfl) (hks : (backToKw pos (keywordEach kws X.env)).filterMap (·.1) = ks := by rfl) (hdb : (x == ("__debug__" : Str)) = false := by decide)
    (hpl : ((backTo pos (starEach [] X.env)).any (·.1) || (backToKw pos (keywordEach kws X.env)).any (·.1.isNone)) = false := by rfl) : PE X (.Call (.Name x p) [] kws pos) (tCallKw sp ks.length gV t) := by
  constructor
  intro pins s σ H Q I h
  refine wpAny_Call_Name_kw (ld_glob I hg hm (PySem.W.callWith_KW0 (h₀ := X.base) I.ok.mod.kin hk hall (thn (ha.run pos pins s σ H _ I h) ?_) hpl) hdb)
  rintro ws s2 ⟨zs, H2, I2, rz, l, q⟩
  refine ⟨I2.kIn, ?_⟩
  rw [hks]
  refine wpAny_call (codeAny_mono (run_G (args := ⟨[], ks.zip ws⟩) F hr hG I2 (hb.to s2 ws (by rw [← rz.length]; exact l)) (hb.rel l rz) q) ?_)
  rintro r s' ⟨u, rfl, z⟩
  exact z
/-! ### repr of data -/
theorem call_repr_data (hu : X.A.units + 66 < cLine) (hG : X.A.guards = some []) : CallR X (.builtin "repr") (fun xs H Q => ∃ x d, xs = [x] ∧ Dp X.K H x d ∧ d.showable = true ∧ d.hasDict = false ∧ d.depth ≤ 64 ∧ d.shown.length ≤ sizeLine ∧ Q (.str d.shown) H) := by
  intro pins s σ H vs us Q I r h
  obtain ⟨x, d, rfl, hd, h1, h2, h3, h4, q⟩ := h
  obtain ⟨u, rfl, ru⟩ := vals1 r
  cases x with
  | ref a =>
    obtain ⟨as, rd⟩ := Dp.reads I d (.ref a) u hd ru
    obtain rfl : u = Value.ref a := ru
    refine repr_of_reads' rd h1 (fun z => by rw [h2] at z; cases z) hG (by omega) (fun _ _ e => e) (fun h' u tk kp => ?_) h4
    exact ⟨.str d.shown, H, I.kept kp, ⟨_, rfl⟩, q⟩
  | non =>
    cases hd
    obtain rfl : u = Value.none := ru
    exact PySem.P.repr_of_none ⟨.str _, H, I.tok _, ⟨_, rfl⟩, by rw [PyData.shown_none] at q; exact q⟩
  | bl b =>
    cases hd
    obtain rfl : u = Value.bool b := ru
    exact PySem.P.repr_of_bool ⟨.str _, H, I.tok _, ⟨_, rfl⟩, by rw [PyData.shown_bool] at q; exact q⟩
  | int i =>
    cases hd
    obtain ⟨t, rfl⟩ := ru
    exact PySem.P.repr_of_int (by simpa [PyData.showable] using h1) ⟨.str _, H, I.tok _, ⟨_, rfl⟩, by rw [PyData.shown_int] at q; exact q⟩
  | str z =>
    cases hd
    obtain ⟨t, rfl⟩ := ru
    rw [PyData.shown_str] at q h4
    exact PySem.P.repr_of_str ⟨.str _, H, I.tok _, ⟨_, rfl⟩, q⟩ h4
  | byt b => cases hd
  | flt b => cases hd
  | ty n => cases hd
end
end Ag

end
/-! ## Math1 -/
section
set_option linter.all false
namespace Ag
open PySem
/-! ### decimal texts -/
abbrev numL := TL.numL
abbrev digitsVal := NumText.digitsVal
def plainC (c : Nat) : Bool := decide (32 ≤ c) && decide (c ≤ 126)
def digC (c : Nat) : Bool := decide (48 ≤ c) && decide (c ≤ 57)
def plainL (l : List Nat) : Bool := l.all plainC
def isDec (l : List Nat) (m : Nat) : Bool := decide (numL (digitsVal l) = l) && decide (digitsVal l ≤ m)
theorem dv_snoc (l : List Nat) (c : Nat) : digitsVal (l ++ [c]) = digitsVal l * 10 + (c - 48) := by
  show List.foldl _ 0 (l ++ [c]) = _
  rw [List.foldl_append]
  rfl
theorem isDec_iff {l : List Nat} {m : Nat} : isDec l m = true ↔ ∃ k, k ≤ m ∧ l = numL k := by
  unfold isDec
  rw [Bool.and_eq_true, decide_eq_true_eq, decide_eq_true_eq]
  constructor
  · rintro ⟨a, b⟩
    exact ⟨_, b, a.symm⟩
  · rintro ⟨k, hk, rfl⟩
    have e : digitsVal (numL k) = k := TL.numL_val k
    rw [e]
    exact ⟨rfl, hk⟩
theorem numL_all (k : Nat) : ∀ c ∈ numL k, 48 ≤ c ∧ c ≤ 57 := TL.numL_digits k
theorem numL_ne (k : Nat) : numL k ≠ [] := TL.numL_ne k
theorem numL_val (k : Nat) : digitsVal (numL k) = k := TL.numL_val k
theorem numL_zero_head : ∀ (k : Nat) (l : List Nat), numL k = 48 :: l → k = 0 := by
  intro k
  induction k using Nat.strongRecOn with
  | ind k ih =>
    intro l h
    by_cases hk : k < 10
    · have e : numL k = [48 + k] := TL.numL_lt hk
      rw [e] at h
      injection h with h1 h2
      omega
    · have e : numL k = numL (k / 10) ++ [48 + k % 10] := TL.numL_step (by omega)
      rw [e] at h
      have hne := numL_ne (k / 10)
      cases hq : numL (k / 10) with
      | nil => exact absurd hq hne
      | cons d r =>
        rw [hq] at h
        injection h with h1 h2
        subst h1
        have z := ih (k / 10) (by omega) r hq
        omega
/-- one more digit -/
theorem isDec_snoc {s : List Nat} {c m : Nat} (hs : s = [] ∨ ∃ k, s = numL k) :
    isDec (s ++ [c]) m = (digC c && decide (s ≠ [48]) && decide (digitsVal (s ++ [c]) ≤ m)) := by
  rw [Bool.eq_iff_iff, isDec_iff]
  simp only [Bool.and_eq_true, decide_eq_true_eq, digC]
  constructor
  · rintro ⟨k, hk, e⟩
    have hc : 48 ≤ c ∧ c ≤ 57 := numL_all k c (by rw [← e]; simp)
    refine ⟨⟨hc, ?_⟩, ?_⟩
    · rintro rfl
      have z := numL_zero_head k [c] e.symm
      subst z
      have e2 : numL 0 = [48] := TL.numL_lt (by decide)
      rw [e2] at e
      simp at e
    · rw [e, numL_val]
      exact hk
  · rintro ⟨⟨hc, hne⟩, hv⟩
    refine ⟨digitsVal (s ++ [c]), hv, ?_⟩
    rw [dv_snoc]
    rcases hs with rfl | ⟨k, rfl⟩
    · show [c] = numL (0 * 10 + (c - 48))
      have e : numL (0 * 10 + (c - 48)) = [48 + (0 * 10 + (c - 48))] := TL.numL_lt (by omega)
      rw [e]
      congr 1
      omega
    · rw [numL_val]
      have hk : k ≠ 0 := by
        rintro rfl
        exact hne (TL.numL_lt (by decide))
      have e : numL (k * 10 + (c - 48)) = numL ((k * 10 + (c - 48)) / 10) ++ [48 + (k * 10 + (c - 48)) % 10] := TL.numL_step (by omega)
      rw [e, show (k * 10 + (c - 48)) / 10 = k by omega, show 48 + (k * 10 + (c - 48)) % 10 = c by omega]
theorem isDec_nil (m : Nat) : isDec [] m = false := by
  cases h : isDec [] m with
  | false => rfl
  | true =>
    obtain ⟨k, _, e⟩ := isDec_iff.mp h
    exact absurd e.symm (numL_ne k)
theorem numL_len3 {k : Nat} (h : k ≤ 200) : (numL k).length ≤ 3 := TL.numL_len (by decide) (by omega)
/-! ### reading, sign by sign -/
inductive Out where
  | read (ts : List (List Nat)) (r : List Nat)
  | wrong (ts : List (List Nat)) (k : Nat)
  deriving DecidableEq
def Out.pre (ts : List (List Nat)) (i : Nat) : Out → Out
  | .read us r => .read (ts ++ us) r
  | .wrong us k => .wrong (ts ++ us) (i + k)
theorem Out.pre_pre (ts us : List (List Nat)) (i j : Nat) (o : Out) : (o.pre us j).pre ts i = o.pre (ts ++ us) (i + j) := by
  cases o <;> simp [Out.pre, Nat.add_assoc]
theorem Out.pre_nil (o : Out) : o.pre [] 0 = o := by cases o <;> simp [Out.pre]
def glue (s : List Nat) : Option (List Nat) → List Nat
  | none => s
  | some t => s ++ 58 :: t
/-- one sign: none if it is wrong; else the text that is complete, if there is one, and the next state -/
def stp (s : List Nat) (t : Option (List Nat)) (c : Nat) : Option (Option (List Nat) × List Nat × Option (List Nat)) :=
  match t with
  | none => if c = 58 ∧ s ≠ [] then some (none, s, some []) else if isDec (s ++ [c]) 200 = true then some (none, s ++ [c], none) else none
  | some t => if t.length < digitsVal s then (if plainC c = true then some (none, s, some (t ++ [c])) else none) else if c = 44 then some (some t, [], none) else none
def lr (s : List Nat) (t : Option (List Nat)) : List Nat → Out
  | [] => .read [] (glue s t)
  | c :: cs => match stp s t c with
    | none => .wrong [] 0
    | some (o, s', t') => (lr s' t' cs).pre o.toList 1
/-- states that can be -/
def Vd (s : List Nat) : Option (List Nat) → Prop
  | none => s = [] ∨ ∃ k, k ≤ 200 ∧ s = numL k
  | some t => (∃ k, k ≤ 200 ∧ s = numL k ∧ t.length ≤ k) ∧ plainL t = true
theorem plainL_snoc {t : List Nat} {c : Nat} : plainL (t ++ [c]) = (plainL t && plainC c) := by
  simp [plainL, List.all_append]
theorem Vd.step {s : List Nat} {t : Option (List Nat)} {c : Nat} (v : Vd s t) {o : Option (List Nat)} {s' : List Nat} {t' : Option (List Nat)} (h : stp s t c = some (o, s', t')) : Vd s' t' := by
  cases t with
  | none =>
    simp only [stp] at h
    split at h
    · rename_i q
      cases h
      rcases v with rfl | ⟨k, hk, e⟩
      · exact absurd rfl q.2
      · exact ⟨⟨k, hk, e, Nat.zero_le _⟩, rfl⟩
    · split at h
      · rename_i q
        cases h
        exact .inr (isDec_iff.mp q)
      · cases h
  | some t =>
    simp only [stp] at h
    obtain ⟨⟨k, hk, e, hl⟩, hp⟩ := v
    split at h
    · rename_i q
      split at h
      · rename_i hc
        cases h
        refine ⟨⟨k, hk, e, ?_⟩, by rw [plainL_snoc, hp, hc]; rfl⟩
        rw [e, numL_val] at q
        simp
        omega
      · cases h
    · split at h
      · cases h
        exact .inl rfl
      · cases h
/-- the state of a rest -/
def spS (r : List Nat) : List Nat := match TL.par [58] [] r with | some (p, _) => p | none => r
def spT (r : List Nat) : Option (List Nat) := match TL.par [58] [] r with | some (_, q) => some q | none => none
theorem colon_free {k : Nat} : 58 ∉ numL k := TL.numL_free (.inr (by decide))
theorem Vd.free {s : List Nat} {t : Option (List Nat)} (v : Vd s t) : 58 ∉ s := by
  cases t with
  | none =>
    rcases v with rfl | ⟨k, _, rfl⟩
    · exact List.not_mem_nil
    · exact colon_free
  | some t =>
    obtain ⟨⟨k, _, rfl, _⟩, _⟩ := v
    exact colon_free
theorem par_glue {s : List Nat} {t : Option (List Nat)} (h : 58 ∉ s) : TL.par [58] [] (glue s t) = t.map fun t => (s, t) := by
  cases t with
  | none => exact SX.par_head_none h
  | some t => exact SX.par_head t h
theorem sp_glue {s : List Nat} {t : Option (List Nat)} (v : Vd s t) : spS (glue s t) = s ∧ spT (glue s t) = t := by
  unfold spS spT
  rw [par_glue v.free]
  cases t <;> exact ⟨rfl, rfl⟩
/-- reading leads to a rest -/
theorem lr_rest : ∀ (l : List Nat) {s : List Nat} {t : Option (List Nat)} {ts : List (List Nat)} {r : List Nat}, Vd s t → lr s t l = .read ts r → ∃ s' t', Vd s' t' ∧ r = glue s' t'
  | [], s, t, ts, r, v, h => by
    simp only [lr] at h
    cases h
    exact ⟨s, t, v, rfl⟩
  | c :: cs, s, t, ts, r, v, h => by
    simp only [lr] at h
    cases hs : stp s t c with
    | none => rw [hs] at h; cases h
    | some p =>
      obtain ⟨o, s', t'⟩ := p
      rw [hs] at h
      simp only at h
      cases hl : lr s' t' cs with
      | wrong us k => rw [hl] at h; cases h
      | read us r' =>
        rw [hl] at h
        cases h
        exact lr_rest cs (v.step hs) hl
/-- two strings, one behind the other -/
def Out.thn (n : Nat) (o : Out) (k : List Nat → Out) : Out := match o with
  | .read ts r => (k r).pre ts n
  | .wrong ts i => .wrong ts i
theorem lr_app : ∀ (a b : List Nat) {s : List Nat} {t : Option (List Nat)}, Vd s t → lr s t (a ++ b) = (lr s t a).thn a.length fun r => lr (spS r) (spT r) b
  | [], b, s, t, v => by
    show lr s t b = (lr (spS (glue s t)) (spT (glue s t)) b).pre [] 0
    rw [(sp_glue v).1, (sp_glue v).2, Out.pre_nil]
  | c :: cs, b, s, t, v => by
    show lr s t (c :: (cs ++ b)) = _
    simp only [lr]
    cases hs : stp s t c with
    | none => rfl
    | some p =>
      obtain ⟨o, s', t'⟩ := p
      simp only
      rw [lr_app cs b (v.step hs)]
      cases lr s' t' cs with
      | wrong us k => rfl
      | read us r' =>
        show Out.pre o.toList 1 (Out.pre us cs.length (lr (spS r') (spT r') b)) = Out.pre (o.toList ++ us) (cs.length + 1) (lr (spS r') (spT r') b)
        rw [Out.pre_pre, Nat.add_comm 1]
/-! ### the program's way: one frame after the other -/
/-- how many of the signs are digits of a length -/
def dgs (s : List Nat) : List Nat → Nat
  | [] => 0
  | c :: cs => if isDec (s ++ [c]) 200 = true then dgs (s ++ [c]) cs + 1 else 0
theorem dgs_le : ∀ (l s : List Nat), dgs s l ≤ l.length
  | [], _ => Nat.le_refl _
  | c :: cs, s => by
    unfold dgs
    split
    · have := dgs_le cs (s ++ [c])
      simp
      exact this
    · exact Nat.zero_le _
theorem lr_dgs : ∀ (l : List Nat) {s : List Nat}, Vd s none → lr s none l = (lr (s ++ l.take (dgs s l)) none (l.drop (dgs s l))).pre [] (dgs s l) ∧ Vd (s ++ l.take (dgs s l)) none ∧
    (∀ c cs, l.drop (dgs s l) = c :: cs → isDec (s ++ l.take (dgs s l) ++ [c]) 200 = false)
  | [], s, v => by
    refine ⟨?_, ?_, fun c cs h => ?_⟩
    · simp [dgs, Out.pre_nil]
    · simpa [dgs] using v
    · simp at h
  | c :: cs, s, v => by
    by_cases h : isDec (s ++ [c]) 200 = true
    · have hd : dgs s (c :: cs) = dgs (s ++ [c]) cs + 1 := by
        show (if isDec (s ++ [c]) 200 = true then _ else _) = _
        rw [if_pos h]
      have hc : c ≠ 58 := by
        obtain ⟨k, _, e⟩ := isDec_iff.mp h
        have := numL_all k c (by rw [← e]; simp)
        omega
      have v' : Vd (s ++ [c]) none := .inr (isDec_iff.mp h)
      obtain ⟨i1, i2, i3⟩ := lr_dgs cs v'
      have es : stp s none c = some (none, s ++ [c], none) := by
        show (if c = 58 ∧ s ≠ [] then _ else if isDec (s ++ [c]) 200 = true then _ else _) = _
        rw [if_neg (fun z => hc z.1), if_pos h]
      have el : lr s none (c :: cs) = (lr (s ++ [c]) none cs).pre [] 1 := by
        simp only [lr, es]
        rfl
      have ea : s ++ [c] ++ cs.take (dgs (s ++ [c]) cs) = s ++ (c :: cs).take (dgs (s ++ [c]) cs + 1) := by simp
      rw [hd, el, i1, Out.pre_pre, ea]
      rw [ea] at i2 i3
      refine ⟨?_, i2, fun d ds hq => i3 d ds (by simpa using hq)⟩
      rw [List.drop_succ_cons, Nat.add_comm]
      rfl
    · have hd : dgs s (c :: cs) = 0 := by
        show (if isDec (s ++ [c]) 200 = true then _ else _) = _
        rw [if_neg h]
      rw [hd]
      refine ⟨by simp [Out.pre_nil], by simpa using v, fun d ds hq => ?_⟩
      simp at hq
      obtain ⟨rfl, rfl⟩ := hq
      simpa using h
/-- how many signs ahead of the first one that no text has -/
def pls : List Nat → Nat
  | [] => 0
  | c :: cs => if plainC c = true then pls cs + 1 else 0
theorem pls_le : ∀ l : List Nat, pls l ≤ l.length
  | [] => Nat.le_refl _
  | c :: cs => by
    unfold pls
    split
    · have := pls_le cs
      simp
      exact this
    · exact Nat.zero_le _
theorem pls_all {l : List Nat} (h : plainL l = true) : pls l = l.length := by
  induction l with
  | nil => rfl
  | cons c cs ih =>
    have h' : plainC c = true ∧ plainL cs = true := by simpa [plainL] using h
    show (if plainC c = true then pls cs + 1 else 0) = _
    rw [if_pos h'.1, ih h'.2]
    rfl
theorem pls_lt {l : List Nat} (h : plainL l = false) : pls l < l.length ∧ ∃ c, l[pls l]? = some c ∧ plainC c = false := by
  induction l with
  | nil => cases h
  | cons c cs ih =>
    by_cases hc : plainC c = true
    · have h' : plainL cs = false := by
        have z : (plainC c && plainL cs) = false := h
        rw [hc] at z
        exact z
      obtain ⟨a, d, b1, b2⟩ := ih h'
      have e : pls (c :: cs) = pls cs + 1 := by
        show (if plainC c = true then pls cs + 1 else 0) = _
        rw [if_pos hc]
      rw [e]
      exact ⟨by simp; exact a, d, by simpa using b1, b2⟩
    · have e : pls (c :: cs) = 0 := by
        show (if plainC c = true then pls cs + 1 else 0) = _
        rw [if_neg hc]
      rw [e]
      exact ⟨by simp, c, by simp, by simpa using hc⟩
theorem pls_plain : ∀ l : List Nat, plainL (l.take (pls l)) = true
  | [] => rfl
  | c :: cs => by
    by_cases hc : plainC c = true
    · have e : pls (c :: cs) = pls cs + 1 := by
        show (if plainC c = true then pls cs + 1 else 0) = _
        rw [if_pos hc]
      rw [e, List.take_succ_cons]
      show (plainC c && plainL (cs.take (pls cs))) = true
      rw [hc, pls_plain cs]
      rfl
    · have e : pls (c :: cs) = 0 := by
        show (if plainC c = true then pls cs + 1 else 0) = _
        rw [if_neg hc]
      rw [e]
      rfl
/-- the signs of a text -/
theorem lr_text : ∀ (a : List Nat) (l : List Nat) {s t : List Nat}, plainL a = true → t.length + a.length ≤ digitsVal s → lr s (some t) (a ++ l) = (lr s (some (t ++ a)) l).pre [] a.length
  | [], l, s, t, _, _ => by simp [Out.pre_nil]
  | c :: cs, l, s, t, hp, hl => by
    have hp' : plainC c = true ∧ plainL cs = true := by simpa [plainL] using hp
    simp only [List.length_cons] at hl
    have es : stp s (some t) c = some (none, s, some (t ++ [c])) := by
      show (if t.length < digitsVal s then _ else _) = _
      rw [if_pos (by omega), if_pos hp'.1]
    have el : lr s (some t) (c :: (cs ++ l)) = (lr s (some (t ++ [c])) (cs ++ l)).pre [] 1 := by
      simp only [lr, es]
      rfl
    show lr s (some t) (c :: (cs ++ l)) = _
    rw [el, lr_text cs l hp'.2 (by simp; omega), Out.pre_pre]
    simp [Nat.add_comm]
/-- what next_frame tells of the signs from its start on -/
inductive Nf where
  | part (at_ : Nat) | wrong (at_ : Nat) | whole (t : List Nat) (at_ : Nat)
def nf (l : List Nat) : Nf :=
  let k := dgs [] l
  if k = l.length then .part k else
  if k = 0 ∨ l[k]? ≠ some 58 then .wrong k else
  let n := digitsVal (l.take k)
  let part := (l.drop (k + 1)).take n
  let e := k + 1 + pls part
  if e = l.length then .part e else
  if l[e]? ≠ some 44 then .wrong e else .whole part (k + 1 + n + 1)
theorem nf_lr (l : List Nat) : match nf l with
    | .part _ => ∃ r, lr [] none l = .read [] r ∧ r = l
    | .wrong k => lr [] none l = .wrong [] k ∧ k < l.length
    | .whole t k => lr [] none l = (lr [] none (l.drop k)).pre [t] k ∧ k ≤ l.length ∧ 0 < k := by
  obtain ⟨h1, h2, h3⟩ := lr_dgs l (s := []) (.inl rfl)
  simp only [List.nil_append] at h1 h2 h3
  have hk := dgs_le l []
  generalize hkk : dgs [] l = k at h1 h2 h3 hk
  unfold nf
  rw [hkk]
  by_cases e1 : k = l.length
  · simp only [e1, if_true]
    rw [h1, e1, List.take_length, List.drop_length]
    exact ⟨l, by simp [lr, glue, Out.pre], rfl⟩
  · simp only [if_neg e1]
    have hlt : k < l.length := by omega
    obtain ⟨c, hc⟩ : ∃ c, l[k]? = some c := ⟨l[k], by simp [hlt]⟩
    have hd : l.drop k = c :: l.drop (k + 1) := by
      rw [List.drop_eq_getElem_cons hlt]
      congr 1
      rw [List.getElem?_eq_getElem hlt] at hc
      exact Option.some.inj hc
    have nd := h3 c _ hd
    by_cases e2 : k = 0 ∨ l[k]? ≠ some 58
    · simp only [if_pos e2]
      refine ⟨?_, hlt⟩
      rw [h1, hd]
      have es : stp (l.take k) none c = none := by
        show (if c = 58 ∧ l.take k ≠ [] then _ else if isDec (l.take k ++ [c]) 200 = true then _ else none) = _
        rw [if_neg, if_neg (by rw [nd]; decide)]
        rintro ⟨rfl, hn⟩
        rcases e2 with rfl | e2
        · exact hn rfl
        · exact e2 hc
      simp only [lr, es]
      simp [Out.pre]
    · simp only [if_neg e2]
      have hk0 : k ≠ 0 := fun z => e2 (.inl z)
      have hc58 : c = 58 := by
        by_cases q : c = 58
        · exact q
        · exact absurd (.inr (by rw [hc]; simpa using q)) e2
      subst hc58
      have hne : l.take k ≠ [] := by
        intro z
        have := congrArg List.length z
        rw [List.length_take, List.length_nil] at this
        omega
      have es : stp (l.take k) none 58 = some (none, l.take k, some []) := by
        show (if 58 = 58 ∧ l.take k ≠ [] then _ else _) = _
        rw [if_pos ⟨rfl, hne⟩]
      have h4 : lr [] none l = (lr (l.take k) (some []) (l.drop (k + 1))).pre [] (k + 1) := by
        rw [h1, hd]
        simp only [lr, es]
        rw [Out.pre_pre]
        rfl
      generalize hn : digitsVal (l.take k) = n
      generalize hm : l.drop (k + 1) = m at h4
      have hml : m.length = l.length - (k + 1) := by rw [← hm, List.length_drop]
      generalize hp : m.take n = part
      have hpm : m = part ++ m.drop n := by rw [← hp, List.take_append_drop]
      have hpl : part.length ≤ n := by rw [← hp, List.length_take]; omega
      have hb := pls_le part
      have hsp : m = part.take (pls part) ++ m.drop (pls part) := by
        have e : part.take (pls part) = m.take (pls part) := by
          rw [← hp, List.take_take, Nat.min_eq_left (by rw [hp]; omega)]
        rw [e, List.take_append_drop]
      have h5 : lr [] none l = (lr (l.take k) (some (part.take (pls part))) (m.drop (pls part))).pre [] (k + 1 + pls part) := by
        rw [h4]
        conv => lhs; rw [hsp]
        rw [lr_text _ _ (pls_plain part) (by rw [hn, List.length_take]; simp; omega), Out.pre_pre, List.length_take, Nat.min_eq_left hb]
        simp
      have hpm2 : part.length ≤ m.length := by rw [← hp, List.length_take]; omega
      by_cases e3 : k + 1 + pls part = l.length
      · simp only [if_pos e3]
        refine ⟨l, ?_, rfl⟩
        have hd0 : m.drop (pls part) = [] := List.drop_eq_nil_of_le (by omega)
        have ht0 : part.take (pls part) = m := by
          rw [hd0, List.append_nil] at hsp
          exact hsp.symm
        rw [h5, hd0, ht0]
        simp only [lr, glue, Out.pre, List.append_nil]
        rw [← hm]
        congr 1
        rw [← hd, List.take_append_drop]
      · simp only [if_neg e3]
        have hlt3 : k + 1 + pls part < l.length := by omega
        have hget : l[k + 1 + pls part]? = m[pls part]? := by rw [← hm, List.getElem?_drop]
        obtain ⟨d, hdd⟩ : ∃ d, m[pls part]? = some d := ⟨m[pls part]'(by omega), by rw [List.getElem?_eq_getElem (by omega)]⟩
        have hmd : m.drop (pls part) = d :: m.drop (pls part + 1) := by
          rw [List.drop_eq_getElem_cons (by omega)]
          congr 1
          rw [List.getElem?_eq_getElem (by omega)] at hdd
          exact Option.some.inj hdd
        rw [hget, hdd]
        have hcase : (pls part = n ∧ part.length = n) ∨ (pls part < n ∧ plainC d = false) := by
          cases hpp : plainL part with
          | true =>
            have e := pls_all hpp
            left
            have : part.length = n := by
              rw [e] at hlt3
              rw [← hp, List.length_take] at hlt3 ⊢
              omega
            omega
          | false =>
            obtain ⟨a, c', b1, b2⟩ := pls_lt hpp
            right
            refine ⟨by omega, ?_⟩
            have : part[pls part]? = m[pls part]? := by
              conv => rhs; rw [hpm]
              rw [List.getElem?_append_left a]
            rw [this, hdd] at b1
            rw [Option.some.inj b1]
            exact b2
        have htl : (part.take (pls part)).length = pls part := by rw [List.length_take, Nat.min_eq_left hb]
        by_cases e4 : d = 44
        · subst e4
          rw [if_neg (by simp)]
          rcases hcase with ⟨q1, q2⟩ | ⟨q1, q2⟩
          · refine ⟨?_, by omega, by omega⟩
            have et : part.take (pls part) = part := List.take_of_length_le (by omega)
            have es2 : stp (l.take k) (some part) 44 = some (some part, [], none) := by
              show (if part.length < digitsVal (l.take k) then _ else _) = _
              rw [if_neg (by rw [hn]; omega)]
              rfl
            have ed : m.drop (pls part + 1) = l.drop (k + 1 + n + 1) := by
              rw [← hm, List.drop_drop]
              congr 1
              omega
            rw [h5, et, hmd]
            simp only [lr, es2]
            rw [Out.pre_pre, ed]
            simp only [Option.toList, List.nil_append]
            congr 1
            omega
          · exact absurd q2 (by decide)
        · rw [if_pos (by simpa using e4)]
          refine ⟨?_, hlt3⟩
          have es2 : stp (l.take k) (some (part.take (pls part))) d = none := by
            show (if (part.take (pls part)).length < digitsVal (l.take k) then _ else if d = 44 then _ else none) = _
            rcases hcase with ⟨q1, q2⟩ | ⟨q1, q2⟩
            · rw [if_neg (by rw [hn, htl]; omega), if_neg e4]
            · rw [if_pos (by rw [hn, htl]; omega), if_neg (by rw [q2]; decide)]
          rw [h5, hmd]
          simp only [lr, es2]
          simp [Out.pre]
end Ag

end
/-! ## Kit -/
section
set_option linter.all false
set_option maxRecDepth 100000
namespace Ag
open PySem PySem.Spec PyProof.Rows L2
open SX (S S_len S_cat S_inj)
section
variable {J : It} {n : Nat} {G : Hp → Prop} {Y : Nat → Hp → V → Hp → Prop}
/-- a comprehension without tests: R stays, each item is as v says of its place -/
theorem lc_all (w : Walk J n G Y) {g : TG} {te : TE} {vs : List Nat} {σ : L2.St} {H1 : Hp} {D : Addr} {Qd : Hp → Prop} (R : Hp → Prop) (v : Nat → V → Prop) (hn : n ≤ 16000000) (r0 : R H1) (rD : ∀ H o, R H → R (upd H D o)) (hG : ∀ H, R H → G H)
    (hs : ∀ i x H H' xs (k : VK), i < n → R H → H D = some (.lst xs) → Y i H x H' → (∀ y H4, v i y → R H4 → H4 D = some (.lst xs) → k y H4) → g x (wipe σ vs) H' fun σ2 H2 => wipe σ2 vs = wipe σ vs ∧ te σ2 H2 k)
    (hd : ∀ H xs, xs.length = n → (∀ i y, xs[i]? = some y → v i y) → R H → H D = some (.lst xs) → Qd H) :
    ∃ W : Nat → Nat → Hp → Prop, (∃ m, W 0 m (upd H1 D (.lst []))) ∧ ∀ i m H, W i m H →
      (J.stop i H ∧ Qd H) ∨ (J.go i H ∧ ∃ Nx : Hp → Prop, (∀ H', Nx H' → ∃ m', m' < m ∧ W (i + 1) m' H') ∧ ∀ x H', J.yld i H x H' → g x (wipe σ vs) H' fun σ2 H2 => wipe σ2 vs = wipe σ vs ∧ tYes σ2 H2 fun b H3 =>
        if b = true then te σ2 H3 fun y H4 => ∃ acc, H4 D = some (.lst acc) ∧ acc.length < sizeLine ∧ Nx (upd H4 D (.lst (acc ++ [y]))) else Nx H3) := by
  refine lc_it (g := g) (tt := tYes) (te := te) (vs := vs) (σ := σ) w (fun i H => ∃ xs : List V, xs.length = i ∧ (∀ j y, xs[j]? = some y → v j y) ∧ R H ∧ H D = some (.lst xs)) ⟨[], rfl, fun j y h => by simp at h, rD _ _ r0, upd_same⟩ (fun i H hi p => ?_) (fun i x H H' hi p hy => ?_) (fun H p => ?_)
  · obtain ⟨xs, _, _, r, _⟩ := p
    exact hG H r
  · obtain ⟨xs, hl, hv, r, hD⟩ := p
    refine hs i x H H' xs _ hi r hD hy ?_
    rintro y H4 hvy r4 h4
    refine ⟨xs, h4, ?_, xs ++ [y], by simp [hl], fun j z hz => ?_, rD _ _ r4, upd_same⟩
    · rw [sizeLine_eq]; omega
    · rw [List.getElem?_append] at hz
      split at hz
      · exact hv j z hz
      · rename_i hj
        have e : j - xs.length = 0 := by
          cases hq : j - xs.length with
          | zero => rfl
          | succ k => rw [hq] at hz; simp at hz
        rw [e] at hz
        simp at hz
        subst hz
        have : j = i := by omega
        subst this
        exact hvy
  · obtain ⟨xs, hl, hv, r, hD⟩ := p
    exact hd H xs hl hv r hD
end
/-! ### cuts of texts -/
theorem sIx_at {n d a : Nat} (h : a ≤ n) : HT.sIx n d (some (a : Int)) = a := by rw [HT.sIx_nat, Nat.min_eq_left h]
theorem cut_S {l : List Nat} {a b : Nat} (ha : a ≤ l.length) : cutS (S l) (some (a : Int)) (some (b : Int)) = S ((l.drop a).take (b - a)) := by
  unfold cutS
  rw [S_len, sIx_at ha, HT.sIx_nat]
  congr 1
  congr 1
  by_cases hb : b ≤ l.length
  · rw [Nat.min_eq_left hb]
  · rw [Nat.min_eq_right (by omega), List.take_of_length_le (by rw [List.length_drop]; exact Nat.le_refl _), List.take_of_length_le (by rw [List.length_drop]; omega)]
theorem cut_from {l : List Nat} {a : Nat} (ha : a ≤ l.length) : cutS (S l) (some (a : Int)) none = S (l.drop a) := by
  unfold cutS
  rw [S_len, sIx_at ha, HT.sIx_none]
  congr 1
  congr 1
  rw [List.take_of_length_le (by rw [List.length_drop]; exact Nat.le_refl _)]
theorem cut_to {l : List Nat} {b : Nat} : cutS (S l) none (some (b : Int)) = S (l.take b) := by
  unfold cutS
  rw [S_len, HT.sIx_none, HT.sIx_nat, List.drop_zero, Nat.sub_zero]
  congr 1
  congr 1
  by_cases hb : b ≤ l.length
  · rw [Nat.min_eq_left hb]
  · rw [Nat.min_eq_right (by omega), List.take_of_length_le (Nat.le_refl _), List.take_of_length_le (by omega)]
end Ag

end
/-! ## Kit2 -/
section
set_option linter.all false
set_option maxRecDepth 100000
namespace Ag
open PySem PySem.Spec PyProof.Rows L2
open SX (S S_len S_cat S_inj)
/-! ### str * int -/
theorem foldl_cps (z : List Nat) (n : Nat) : (List.replicate n (S z).cps).foldl (· ++ ·) #[] = (List.replicate n z).flatten.toArray := by
  have key : ∀ (n : Nat) (acc : Array Nat), (List.replicate n (S z).cps).foldl (· ++ ·) acc = acc ++ (List.replicate n z).flatten.toArray := by
    intro n
    induction n with
    | zero => intro acc; simp
    | succ n ih =>
      intro acc
      rw [List.replicate_succ, List.foldl_cons, ih, List.replicate_succ, List.flatten_cons]
      apply Array.ext'
      simp
  rw [key n #[]]
  simp
theorem mul_S (z : List Nat) (n : Nat) : Txt.mul (S z) (n : Int) = S (List.replicate n z).flatten := by
  unfold Txt.mul
  by_cases h0 : n = 0
  · subst h0
    rfl
  · rw [if_neg (by omega)]
    split
    · rename_i h
      simp only [Bool.or_eq_true, beq_iff_eq] at h
      rcases h with h | h
      · have : n = 1 := by omega
        subst this
        simp
      · rw [S_len] at h
        have : z = [] := List.length_eq_zero_iff.mp h
        subst this
        simp
    · rw [show ((n : Int)).toNat = n by simp, foldl_cps]
theorem op_rep_str {X : Cx} : OpR X (binaryOp .Mult) (fun x y H Q => ∃ (z : List Nat) (n : Nat), x = .str (S z) ∧ y = .int (n : Int) ∧ z.length * n ≤ 16000000 ∧ n ≤ 16000000 ∧ z.length ≤ 16000000 ∧ Q (.str (S (List.replicate n z).flatten)) H) := by
  intro pins s σ H x y v u Q I rx ry h
  obtain ⟨z, n, rfl, rfl, h1, h2, h3, q⟩ := h
  obtain ⟨t, rfl⟩ := rx
  obtain ⟨t', rfl⟩ := ry
  refine SB.mul ⟨?_, fun _ _ => ?_, fun _ _ => ?_⟩ (fun a k => ?_)
  · rw [Bool.or_eq_false_iff, decide_eq_false_iff_not, decide_eq_false_iff_not]
    omega
  · rename_i a b
    have hn : (1 : Int) ≤ (n : Int) := by omega
    have : (2 ^ 63 - 1) / (n : Int) ≥ (2 ^ 63 - 1) / 16000000 := by
      rw [ge_iff_le, Int.le_ediv_iff_mul_le (by omega)]
      have e : ((2 ^ 63 - 1 : Int) / 16000000) = 576460752303 := by decide
      rw [e]
      omega
    have e : ((2 ^ 63 - 1 : Int) / 16000000) = 576460752303 := by decide
    rw [S_len]
    omega
  · rw [S_len]
    show decide (z.length * (n : Int).toNat > sizeLine) = false
    rw [decide_eq_false_iff_not, sizeLine_eq, show ((n : Int)).toNat = n by simp]
    omega
  · rw [mul_S]
    exact ⟨.str _, H, I.tok _, ⟨_, rfl⟩, q⟩
/-! ### for i, c in enumerate(text) -/
def Ites (x : Str) : It :=
  ⟨fun i _ => i < x.cps.size, fun i H v H' => ∃ T c, v = .ref T ∧ H T = none ∧ H' = upd H T (.tup [.int (i : Nat), .str ⟨#[c]⟩]) ∧ x.cps[i]? = some c, fun i _ => i = x.cps.size⟩
theorem walk_enumS {x : Str} : Walk (Ites x) x.cps.size (fun _ => True) (fun i H v H' => ∃ T c, v = .ref T ∧ H T = none ∧ H' = upd H T (.tup [.int (i : Nat), .str ⟨#[c]⟩]) ∧ x.cps[i]? = some c) :=
  ⟨fun _ _ h _ => h, fun _ _ => rfl, fun _ _ _ _ _ _ z => z⟩
theorem draws_str {P : Program} {w : World} {A : Around} (hh : A.handled = none) (it : Addr) (x : Str) (t : Tok) {ty : String} (hty : ty = "str_ascii_iterator" ∨ ty = "str_iterator") :
    Draws P w A it [it] x.cps.size (fun i v => ∃ c u, x.cps[i]? = some c ∧ v = .str ⟨#[c]⟩ u) (fun i h => h.IsStrIter it ty x t i) := by
  rcases hty with rfl | rfl
  · exact Draws.strAscii hh it x t
  · exact Draws.strWide hh it x t
theorem turn_enumS {P : Program} {w : World} {K : PySem.W.Frag} {elts : List Expr} {kk : Nat} {tpos : Pos} (x : Str) (t : Tok) (ty : String) (hty : ty = "str_ascii_iterator" ∨ ty = "str_iterator") (e it : Addr) :
    Turn P w K (.Tuple elts kk tpos) (Ites x) [e, it] e (fun i h => (∃ old, IsEnum h e it ((i : Nat) : Int) old) ∧ h.IsStrIter it ty x t i ∧ e ≠ it) where
  mem := List.mem_cons_self
  obj := by
    rintro i h ⟨⟨old, he⟩, ⟨o, ho, hc, hd⟩, _⟩ b hb
    rcases List.mem_cons.mp hb with rfl | hb
    · exact ⟨_, he, fun v q => by cases q⟩
    · obtain rfl := List.mem_singleton.mp hb
      exact ⟨o, ho, fun v q => by rw [hd] at q; cases q⟩
  keep := by
    rintro i h h' ⟨⟨old, he⟩, ⟨o, ho, r⟩, hne⟩ k
    exact ⟨⟨old, k e List.mem_cons_self _ he⟩, ⟨o, k it (List.mem_cons_of_mem _ List.mem_cons_self) o ho, r⟩, hne⟩
  item := by
    intro X hP hw hK hc i pins s σ H E I hf st hg
    subst hP hw hK
    obtain ⟨⟨old, he⟩, hit, hne⟩ := st
    have hel : e < s.heap.objs.size := Heap.lt_size he
    have hil : it < s.heap.objs.size := by obtain ⟨_, q, _⟩ := hit; exact Heap.lt_size q
    have D := draws_str (P := X.prog) (w := X.w) (A := X.A.in1) (I.ok.hd hc) it x t hty
    refine wpAny_pyNext_enum_itemD D he hit hg hne (fun z => hne (List.mem_singleton.mp z)) ?_
    rintro v h' tk ⟨c, u, hcx, rfl⟩ ho hit' hT hsz hk
    refine ⟨_, rfl, wpAny_letOwnedTupleGo_enum (s := { s with heap := h', toks := tk + 1 }) ho ?_⟩
    intro h'' he' sb
    have hT2 : h''.get? s.heap.objs.size = some { cls := .type "tuple", data := .seq #[.int i tk, .str ⟨#[c]⟩ u] } := (sb.2 _ (Nat.ne_of_gt hel)).trans hT
    have ok : ObjOk X.prog X.w (upd H s.heap.objs.size (.tup [.int (i : Nat), .str ⟨#[c]⟩])) h'' s.heap.objs.size (.tup [.int (i : Nat), .str ⟨#[c]⟩]) :=
      ⟨by show 2 ≤ sizeLine; decide, [.int i tk, .str ⟨#[c]⟩ u], .cons ⟨_, rfl⟩ (.cons ⟨_, rfl⟩ .nil), ⟨_, hT2, rfl, _, rfl⟩⟩
    have I1 : Inv X pins σ (upd H s.heap.objs.size (.tup [.int (i : Nat), .str ⟨#[c]⟩])) { s with heap := h'', toks := tk + 1 } :=
      I.turnedNew (ch := [e, it]) (fun b ob hb q => (sb.2 b (fun z => hb (by rw [z]; exact List.mem_cons_self))).trans (hk b ob (fun z => hb (by rw [z]; exact List.mem_cons_self)) (fun z => hb (by rw [z]; exact List.mem_cons_of_mem _ List.mem_cons_self)) q)) hf (Nat.le_refl _) ok
    have e1 : ((i + 1 : Nat) : Int) = (i : Int) + 1 := by omega
    have hit2 : h''.IsStrIter it ty x t (i + 1) := by
      obtain ⟨o, q1, q2⟩ := hit'
      exact ⟨o, (sb.2 it hne.symm).trans q1, q2⟩
    refine ⟨.ref s.heap.objs.size, _, I1, rfl, ⟨_, c, rfl, I.hok.fresh (Nat.le_refl _), rfl, hcx⟩, ⟨⟨_, by rw [e1]; exact he'⟩, hit2, hne⟩, fun b hb => ?_⟩
    have hb' : b < s.heap.objs.size := by
      rcases List.mem_cons.mp hb with rfl | z
      · exact hel
      · rw [List.mem_singleton.mp z]
        exact hil
    rw [upd_ne (Nat.ne_of_lt hb')]
    exact (hf b hb).1
  done := by
    intro X hP hw hK hc i pins s σ H E I hf st hg
    subst hP hw hK
    obtain ⟨⟨old, he⟩, hit, hne⟩ := st
    obtain ⟨f0, f1, f2, f3, f4, f5⟩ := hf it (List.mem_cons_of_mem _ List.mem_cons_self)
    obtain rfl : i = x.cps.size := hg
    have D := draws_str (P := X.prog) (w := X.w) (A := X.A.in1) (I.ok.hd hc) it x t hty
    exact wpAny_pyNext_enum_endD D he hit fun h' eb => ⟨rfl, I.turned (t' := s.toks) (fun b o hb q => eb b o hb q) f0 f1 f3 f4 f5⟩
  self := fun A i s Q E st h => st.1.elim fun _ z => wpAny_pyIter_enum z h
def iEnumS (ta : TA) : TI := fun σ H R => ta σ H fun vs H1 => ∃ x, vs = [.str x] ∧ R (Ites x) H1
theorem pi_enumS {X : Cx} {e : Expr} {ta : TA} {p pos tpos : Pos} {elts : List Expr} {kk : Nat} (hg : Gl X "enumerate") (hm : X.mg "enumerate" = none) (ha : PA X [e] ta) (hs : starEach [e] X.env = [(false, eval e X.env)] := by rfl) :
    PI X (.Tuple elts kk tpos) (.Call (.Name "enumerate" p) [e] [] pos) (iEnumS ta) := by
  constructor
  intro pins s σ H R I h
  refine Call_ (ld_blt I hg hm boot_enumerate (PyProof.Rows.callWith_type1 (thn (ha.run pos pins s σ H _ I h) ?_) hs rfl))
  rintro us s1 ⟨vs, H1, I1, r1, x, rfl, q⟩
  obtain ⟨u, rfl, t, rfl⟩ := vals1 r1
  refine call_enumerate_str fun h' he hit hsz hk => wpAny_pyIter_enum he ?_
  have I2 : Inv X pins σ H1 { s1 with heap := h' } := I1.kept (t' := s1.toks) hk
  have hty : strIterType x = "str_ascii_iterator" ∨ strIterType x = "str_iterator" := by
    unfold strIterType
    split
    · exact .inl rfl
    · exact .inr rfl
  refine ⟨s1.heap.objs.size + 1, [s1.heap.objs.size + 1, s1.heap.objs.size], _, _, H1, rfl, I2, turn_enumS x t _ hty (s1.heap.objs.size + 1) s1.heap.objs.size, ⟨⟨.none, he⟩, hit, Nat.succ_ne_self _⟩, ?_, q⟩
  intro b hb
  have hle : s1.heap.objs.size ≤ b := by
    rcases List.mem_cons.mp hb with rfl | z
    · exact Nat.le_succ _
    · rw [List.mem_singleton.mp z]
      exact Nat.le_refl _
  exact I1.fpOk hle (I1.hok.fresh hle)
/-- a target of two names, where a comprehension's block runs -/
theorem pg_two {X : Cx} (K : PySem.W.Frag) {i j : Nat} {x y : Str} {px py pt : Pos} {k : Nat} (hc : X.calm = true) (hN : X.N.Nodup) (hi : X.N[i]? = some x) (hj : X.N[j]? = some y) (hx : X.env.scope.names.lookup x = some .local) (hy : X.env.scope.names.lookup y = some .local) (hK : X.K = K) :
    PG X (.Tuple [.Name x px, .Name y py] k pt) (gTup K 2 (gCons (gName i) (gCons (gName j) gNil))) := by
  subst hK
  exact pg_tup hc (pgs_cons (pg_name hN hi (.inl hx) (.inr hx)) (pgs_cons (pg_name hN hj (.inl hy) (.inr hy)) pgs_nil))
end Ag

end
/-! ## Kit3 -/
section
set_option linter.all false
set_option maxRecDepth 100000
namespace Ag
open PySem PySem.Spec PyProof.Rows L2
open SX (S S_len S_cat S_inj)
def chars (z : List Nat) : List V := z.map fun c => V.str (S [c])
theorem call_list_S {X : Cx} (hc : X.calm = true) : CallR X (.type "list") (fun xs H Q => ∃ z : List Nat, xs = [.str (S z)] ∧ z.length ≤ 16000000 ∧ ∀ l, H l = none → Q (.ref l) (upd H l (.lst (chars z)))) := by
  intro pins s σ H xs us Q I r h
  obtain ⟨z, rfl, hz, q⟩ := h
  obtain ⟨u, rfl, t, rfl⟩ := vals1 r
  have hsz : (S z).cps.size = z.length := by simp
  refine PySem.call_list_str (I.ok.hd hc) (S z) t (fun h' tk acc c' kp e ha => ?_) (by rw [hsz, sizeLine_eq]; omega)
  have rv : Vals (chars z) acc.toList := by
    refine L2.vals_of_at ?_ ?_
    · have e1 := ha.1
      rw [hsz] at e1
      unfold chars
      rw [List.length_map, Array.length_toList]
      exact e1.symm
    · intro j x u hx hu
      obtain ⟨c, tk', hc', rfl⟩ := ha.2 j u (by simpa using hu)
      unfold chars at hx
      rw [List.getElem?_map] at hx
      have : z[j]? = some c := by simpa using hc'
      rw [this] at hx
      cases hx
      exact ⟨_, rfl⟩
  refine ⟨.ref s.heap.objs.size, upd H s.heap.objs.size (.lst (chars z)), I.laid kp (Nat.le_refl _) ⟨?_, acc.toList, c', rv, ?_⟩, rfl, q _ (I.hok.fresh (Nat.le_refl _))⟩
  · unfold chars
    rw [List.length_map, sizeLine_eq]
    omega
  · simpa using e
end Ag

end
/-! ## End0 -/
section
set_option linter.all false
set_option maxRecDepth 100000
namespace Ag
open PySem PySem.Spec PyProof.Rows L2
/-! ### the end of a law's row, over FnG -/
/-- the heap at the law's entry: the script alone is known -/
def hScr (K : PySem.W.Frag) (a : Addr) (o : Obj) (xs : List V) : Hp := fun b => if b = a ∧ K.lookup a = none then some (.frz o (.lst xs)) else none
theorem hScr_at {K : PySem.W.Frag} {a b : Addr} {o : Obj} {xs : List V} {u : HO} (h : hScr K a o xs b = some u) : b = a ∧ K.lookup a = none ∧ u = .frz o (.lst xs) := by
  unfold hScr at h
  split at h
  · rename_i c
    exact ⟨c.1, c.2, (Option.some.inj h).symm⟩
  · cases h
theorem hScr_only {K : PySem.W.Frag} {a b : Addr} {o : Obj} {xs : List V} : hScr K a o xs b = none ∨ hScr K a o xs b = some (.frz o (.lst xs)) := by
  cases h : hScr K a o xs b with
  | none => exact .inl rfl
  | some u => exact .inr (by rw [(hScr_at h).2.2])
theorem lawG {P : Program} {w : World} {K : PySem.W.Frag} {mg mb : Str → Option Value} {k : Nat} {fa a : Addr} {fd : FuncData} {x : Str} {sp : Sp} {s₁ : Shared} {vs : List Value} {ns : List Int}
    (KX : K.In s₁.heap) (hns : s₁.heap.Ns mainGlobals mg) (hb : s₁.heap.Ns builtinsNs mb) (hbb : ∀ x : Str, x ≠ "__name__" → mb x = bootBuiltins x) (hlim : s₁.heap.NoLimit) (gens : s₁.gens = #[])
    (ha : s₁.heap.get? a = some { cls := .type "list", data := .seq vs.toArray }) (hi : IntsAre vs ns) (hl : ns.length ≤ sizeLine) (hr : Room k callerA)
    (F : ∀ base : Heap, K.In base → base.Ns mainGlobals mg → FnG P w K mg base k fa fd [x] sp) (hbind : ∀ (s : Shared) (u : Value), BindsTo s fd ⟨[u], []⟩ [(x, u)])
    (hsp : ∀ H : Hp, SqL K H a (ns.map V.int) → sp [.ref a] H (fun v _ => v = .bl true) E0) :
    codeAny (model P w) callerA (.call (.ref fa) ⟨[.ref a], []⟩) (fun r s' => r = .ok (.ret (.bool true)) ∧ OldK s₁.heap s'.heap ∧ s'.os = s₁.os ∧ AllBare s'.gens) s₁ := by
  generalize hH : hScr K a { cls := .type "list", data := .seq vs.toArray } (ns.map V.int) = H
  have at_ : ∀ {b u}, H b = some u → b = a ∧ K.lookup a = none ∧ u = .frz { cls := .type "list", data := .seq vs.toArray } (.lst (ns.map V.int)) := fun h => hScr_at (by rw [hH]; exact h)
  have rv : Vals (ns.map V.int) vs := vals_ints hi
  have hok : HOk P w H s₁.heap := fun b u e => by
    obtain ⟨rfl, _, rfl⟩ := at_ e
    exact ⟨ha, by rw [List.length_map]; exact hl, vs, _, rv, ha⟩
  have sq : SqL K H a (ns.map V.int) := by
    cases hk : K.lookup a with
    | some o =>
      have e := KX a o hk
      rw [ha] at e
      cases e
      exact .inr ⟨_, vs.toArray, _, hk, rfl, rfl, rfl, by rw [List.size_toArray, hi.length]; exact hl, by simpa using rv⟩
    | none => exact .inl (.inr ⟨_, by rw [← hH]; exact if_pos ⟨rfl, hk⟩⟩)
  have keepB : ∀ {b : Addr} {o : Obj}, s₁.heap.get? b = some o → H b = none → (hidT s₁.heap H).get? b = some o := fun e n => hidT_get e n
  have dicts : ∀ {b : Addr} {o : Obj} {es : Array DictEntry} {ep : Nat}, s₁.heap.get? b = some o → o.data = .dict es ep → H b = none := by
    intro b o es ep e d
    cases q : H b with
    | none => rfl
    | some u =>
      obtain ⟨rfl, _, _⟩ := at_ q
      rw [ha] at e
      cases e
      cases d
  have nsB : ∀ {b : Addr} {m : Str → Option Value}, s₁.heap.Ns b m → (hidT s₁.heap H).Ns b m := by
    rintro b m ⟨o, es, ep, e, d, r⟩
    exact ⟨o, es, ep, keepB e (dicts e d), d, r⟩
  have kinB : K.In (hidT s₁.heap H) := by
    intro b o e
    refine keepB (KX b o e) ?_
    cases q : H b with
    | none => rfl
    | some u =>
      obtain ⟨rfl, n, _⟩ := at_ q
      rw [n] at e
      cases e
  have modB : Mod K mg (hidT s₁.heap H) := ⟨kinB, nsB hns, ⟨mb, nsB hb, hbb⟩, hlim.elim fun mc z => ⟨mc, nsB z.1, z.2⟩⟩
  have env : Env0 P w K mg (hidT s₁.heap H) callerA [] s₁ H :=
    ⟨rfl, modB, fun _ _ e => of_hidT e, Nat.le_of_eq (hidT_size s₁.heap H), trivial, (fun b z => by cases z), hok, .of_eq gens⟩
  refine codeAny_mono ((F _ kinB (nsB hns)).run callerA [] s₁ H ⟨[.ref a], []⟩ [.ref a] [.ref a] _ _ hr rfl env (hbind s₁ (.ref a)) (.cons rfl .nil) (hsp H sq)) ?_
  intro r s' h
  match r, h with
  | .error e, h => exact h.elim
  | .ok (.ret u), h =>
    obtain ⟨v, H', os, bare, un, hok', r', rfl⟩ := h
    obtain rfl : u = Value.bool true := r'
    refine ⟨rfl, OldK.of_keep fun b o e => ?_, os, bare⟩
    cases q : H b with
    | none => exact un.keep b o e q (fun z => by cases z) (fun z => by cases z)
    | some u =>
      obtain ⟨rfl, _, rfl⟩ := at_ q
      have e1 := (hok b _ q).1
      have e2 := (hok' b _ (un.frzs b _ _ q)).1
      rw [e] at e1
      rw [Option.some.inj e1]
      exact e2
theorem walkG {l : PySem.W.OpenLaw} {n k : Nat} {q : Program} {loose : List Str} {XP : (Str → Option Value) → Heap → Prop} {YP : World → Heap → Prop} {d : DefRec} {K : Params → PySem.W.Frag} {sp : PySem.W.Frag → Sp} {x : Str}
    (hn : l.most = some n) (hn2 : n ≤ sizeLine) (hdf : d.params.defaults = []) (hr : Room k callerA) (hY : ∀ (w : World) (h : Heap), YP w h → (K w.params).In h)
    (F : ∀ (w : World) (mg : Str → Option Value) (fa : Addr) (h : Heap), (K w.params).In h → h.Ns mainGlobals mg → mg d.name = some (.ref fa) →
      ∃ fd : FuncData, (∀ (s : Shared) (u : Value), BindsTo s fd ⟨[u], []⟩ [(x, u)]) ∧ ∀ base : Heap, (K w.params).In base → base.Ns mainGlobals mg → FnG l.prog w (K w.params) mg base k fa fd [x] (sp (K w.params)))
    (hsp : ∀ (K : PySem.W.Frag) (H : Hp) (a : Addr) (ns : List Int), ns.length ≤ n → SqL K H a (ns.map V.int) → sp K [.ref a] H (fun v _ => v = .bl true) E0) :
    PySem.W.WalkO q loose XP YP l.row.toRowW d [] (fun f vs => PySem.call f vs) := by
  refine Att.attach_call hn hdf ?_
  intro w s₀ s₁ mg mb fa o pm cd doc a vs ns G Y ho hd hcd hmg hobj hints hlen hg
  obtain ⟨fd, hb, hF⟩ := F w mg fa _ (hY w _ Y) G.T.g hmg
  exact lawG (hY w _ Y) G.T.g G.T.b G.T.builtins G.T.nolimit hg hobj hints (Nat.le_trans hlen hn2) hr hF hb (fun H sq => hsp _ H a ns hlen sq)
end Ag

end
/-! ## Mk22 -/
section
/-! marks: a mark by looks in order, and by all results at once -/
namespace Mk
theorem ne_iff (a b : Bool) : a ≠ b ↔ a = !b := by cases a <;> cases b <;> decide
/-- how many at the end are c, one by one -/
def tr (c : Bool) (l : List Bool) : Nat := l.foldl (fun r g => if g = c then r + 1 else 0) 0
theorem tr_nil (c : Bool) : tr c [] = 0 := rfl
theorem tr_snoc (c : Bool) (l : List Bool) (g : Bool) : tr c (l ++ [g]) = if g = c then tr c l + 1 else 0 := by
  unfold tr
  rw [List.foldl_append]
  rfl
theorem tr_ge (c : Bool) (k : Nat) : ∀ (n : Nat) (l : List Bool), l.length = n → (k ≤ tr c l ↔ k ≤ l.length ∧ ∀ g ∈ l.drop (l.length - k), g = c) := by
  intro n
  induction n generalizing k with
  | zero =>
    intro l hl
    rw [List.eq_nil_of_length_eq_zero hl]
    simp [tr_nil]
  | succ n ih =>
    intro l hl
    have hne : l ≠ [] := fun z => by rw [z] at hl; cases hl
    obtain ⟨x, g, rfl⟩ : ∃ x g, l = x ++ [g] := ⟨l.dropLast, l.getLast hne, (List.dropLast_concat_getLast hne).symm⟩
    have hx : x.length = n := by simpa using hl
    rw [tr_snoc]
    cases k with
    | zero => simp
    | succ k =>
      have e : (x ++ [g]).drop ((x ++ [g]).length - (k + 1)) = x.drop (x.length - k) ++ [g] := by
        rw [List.length_append, List.length_singleton, Nat.add_sub_add_right, List.drop_append_of_le_length (Nat.sub_le _ _)]
      rw [e]
      by_cases hg : g = c
      · rw [if_pos hg]
        have := ih k x hx
        rw [Nat.succ_le_succ_iff, this, List.length_append, List.length_singleton]
        constructor
        · rintro ⟨a, b⟩
          refine ⟨Nat.succ_le_succ a, fun y hy => ?_⟩
          rcases List.mem_append.mp hy with hy | hy
          · exact b y hy
          · rw [List.mem_singleton.mp hy]; exact hg
        · rintro ⟨a, b⟩
          exact ⟨Nat.le_of_succ_le_succ a, fun y hy => b y (List.mem_append_left _ hy)⟩
      · rw [if_neg hg]
        constructor
        · intro h; omega
        · rintro ⟨_, b⟩
          exact absurd (b g (List.mem_append_right _ (List.mem_singleton.mpr rfl))) hg
section
variable (rise fall first most : Nat)
def manyN (up : Bool) : Nat := if up = true then fall else rise
/-- a look -/
def mstep (s : Bool × Nat × Nat) (g : Bool) : Bool × Nat × Nat :=
  let a : Bool × Nat := if g = s.1 then (s.1, 0) else if s.2.1 + 1 = manyN rise fall s.1 then (!s.1, 0) else (s.1, s.2.1 + 1)
  (a.1, a.2, if (g || a.1) = true then first else min (2 * s.2.2) most)
/-- looks in order -/
def mfold (l : List Bool) : Bool × Nat × Nat := l.foldl (mstep rise fall first most) (true, 0, first)
/-- up or down and since when, by all results: after n of them -/
def usN (l : List Bool) : Nat → Bool × Nat
  | 0 => (true, 0)
  | n + 1 => let p := usN l n
    if manyN rise fall p.1 ≤ n + 1 - p.2 ∧ ∀ g ∈ (l.take (n + 1)).drop (n + 1 - manyN rise fall p.1), g ≠ p.1 then (!p.1, n + 1) else p
def itN (most : Nat) : Nat → Nat → Nat
  | 0, x => x
  | n + 1, x => itN most n (min (2 * x) most)
theorem itN_succ (n x : Nat) : itN most (n + 1) x = min (2 * itN most n x) most := by
  induction n generalizing x with
  | zero => rfl
  | succ n ih => exact ih _
theorem itN_pow {n x : Nat} (h : x ≤ most) : itN most n x = min (x * 2 ^ n) most := by
  induction n with
  | zero => show x = _; rw [Nat.pow_zero, Nat.mul_one, Nat.min_eq_left h]
  | succ n ih =>
    rw [itN_succ, ih, Nat.pow_succ]
    have e : x * (2 ^ n * 2) = 2 * (x * 2 ^ n) := by rw [← Nat.mul_assoc, Nat.mul_comm]
    rw [e]
    omega
/-- the wait, by all results -/
def waitN (l : List Bool) (n : Nat) : Nat :=
  if (usN rise fall l n).1 = true then first else itN most (min (tr false (l.take n)) (n - (usN rise fall l n).2 + 1)) first
structure Ok (l : List Bool) (n : Nat) : Prop where
  up : (mfold rise fall first most (l.take n)).1 = (usN rise fall l n).1
  st : (usN rise fall l n).2 ≤ n
  run : (mfold rise fall first most (l.take n)).2.1 = tr (!(usN rise fall l n).1) ((l.take n).drop (usN rise fall l n).2)
  lt : (mfold rise fall first most (l.take n)).2.1 < manyN rise fall (usN rise fall l n).1
  wait : (mfold rise fall first most (l.take n)).2.2 = waitN rise fall first most l n
theorem all_ok (h1 : 1 ≤ rise) (h2 : 1 ≤ fall) (l : List Bool) : ∀ n, n ≤ l.length → Ok rise fall first most l n := by
  intro n
  induction n with
  | zero => exact fun _ => ⟨rfl, Nat.le_refl _, rfl, h2, rfl⟩
  | succ n ih =>
    intro hn
    obtain ⟨i1, i2, i3, i4, i5⟩ := ih (by omega)
    obtain ⟨g, hg⟩ : ∃ g, l[n]? = some g := ⟨l[n]'(by omega), List.getElem?_eq_getElem (by omega)⟩
    have et : l.take (n + 1) = l.take n ++ [g] := by
      rw [List.take_add_one, hg]
      rfl
    have ef : mfold rise fall first most (l.take (n + 1)) = mstep rise fall first most (mfold rise fall first most (l.take n)) g := by
      unfold mfold
      rw [et, List.foldl_append]
      rfl
    have lt : (l.take n).length = n := by rw [List.length_take]; omega
    have eb : tr false (l.take (n + 1)) = if g = false then tr false (l.take n) + 1 else 0 := by rw [et, tr_snoc]
    generalize hm : mfold rise fall first most (l.take n) = m at i1 i3 i4 i5 ef
    obtain ⟨up, run, wait⟩ := m
    generalize hu : usN rise fall l n = p at i1 i2 i3 i4
    obtain ⟨up', st⟩ := p
    have i1 : up = up' := i1
    subst i1
    have i2 : st ≤ n := i2
    have i3 : run = tr (!up) ((l.take n).drop st) := i3
    have i4 : run < manyN rise fall up := i4
    have i5 : wait = if up = true then first else itN most (min (tr false (l.take n)) (n - st + 1)) first := by
      have i5 : wait = waitN rise fall first most l n := i5
      rw [i5]
      unfold waitN
      rw [hu]
    -- the rows that end here
    have ed : (l.take (n + 1)).drop st = (l.take n).drop st ++ [g] := by rw [et, List.drop_append_of_le_length (by omega)]
    have hr : tr (!up) ((l.take (n + 1)).drop st) = if g = !up then run + 1 else 0 := by rw [ed, tr_snoc, i3]
    have ld : ((l.take (n + 1)).drop st).length = n + 1 - st := by rw [List.length_drop, List.length_take]; omega
    have cond : (manyN rise fall up ≤ n + 1 - st ∧ ∀ y ∈ (l.take (n + 1)).drop (n + 1 - manyN rise fall up), y ≠ up) ↔ manyN rise fall up ≤ tr (!up) ((l.take (n + 1)).drop st) := by
      rw [tr_ge _ _ _ _ rfl, ld]
      constructor
      · rintro ⟨a, b⟩
        refine ⟨a, fun y hy => ?_⟩
        rw [List.drop_drop, show st + (n + 1 - st - manyN rise fall up) = n + 1 - manyN rise fall up by omega] at hy
        exact (ne_iff _ _).mp (b y hy)
      · rintro ⟨a, b⟩
        refine ⟨a, fun y hy => ?_⟩
        exact (ne_iff _ _).mpr (b y (by rw [List.drop_drop, show st + (n + 1 - st - manyN rise fall up) = n + 1 - manyN rise fall up by omega]; exact hy))
    have eu : usN rise fall l (n + 1) = if manyN rise fall up ≤ tr (!up) ((l.take (n + 1)).drop st) then (!up, n + 1) else (up, st) := by
      show (if manyN rise fall (usN rise fall l n).1 ≤ n + 1 - (usN rise fall l n).2 ∧ _ then _ else _) = _
      rw [hu]
      by_cases hc : manyN rise fall up ≤ tr (!up) ((l.take (n + 1)).drop st)
      · rw [if_pos hc]
        exact if_pos (cond.mpr hc)
      · rw [if_neg hc]
        exact if_neg fun z => hc (cond.mp z)
    rw [hr] at eu
    by_cases hgu : g = up
    · -- it agrees
      subst hgu
      have ng : ¬ g = !g := by cases g <;> decide
      rw [if_neg ng] at eu hr
      have h0 : ¬ manyN rise fall g ≤ 0 := by
        unfold manyN
        split <;> omega
      rw [if_neg h0] at eu
      have es : mstep rise fall first most (g, run, wait) g = (g, 0, if (g || g) = true then first else min (2 * wait) most) := by
        unfold mstep
        simp
      rw [es] at ef
      refine ⟨by rw [ef, eu], by rw [eu]; show st ≤ n + 1; omega, by rw [ef, eu]; exact hr.symm, by rw [ef, eu]; show 0 < manyN rise fall g; omega, ?_⟩
      rw [ef]
      unfold waitN
      rw [eu, eb]
      cases g with
      | true => rfl
      | false =>
        simp only [Bool.or_self, Bool.false_eq_true, if_false, if_true]
        rw [i5]
        simp only [Bool.false_eq_true, if_false]
        rw [← itN_succ]
        congr 1
        omega
    · have hg2 : g = !up := (ne_iff _ _).mp hgu
      rw [if_pos hg2] at eu hr
      by_cases hf : run + 1 = manyN rise fall up
      · -- it turns
        rw [if_pos (by omega)] at eu
        have es : mstep rise fall first most (up, run, wait) g = (!up, 0, if (g || !up) = true then first else min (2 * wait) most) := by
          unfold mstep
          simp only [if_neg hgu, if_pos hf]
        rw [es] at ef
        refine ⟨by rw [ef, eu], by rw [eu]; exact Nat.le_refl _, ?_, ?_, ?_⟩
        · rw [ef, eu]
          show 0 = tr _ ((l.take (n + 1)).drop (n + 1))
          rw [List.drop_eq_nil_of_le (by rw [List.length_take]; omega)]
          rfl
        · rw [ef, eu]
          show 0 < manyN rise fall (!up)
          unfold manyN
          split <;> omega
        · rw [ef]
          unfold waitN
          rw [eu, eb]
          subst hg2
          cases up with
          | false => rfl
          | true =>
            simp only [Bool.not_true, Bool.or_self, Bool.false_eq_true, if_false, if_true]
            have i5 : wait = first := i5
            rw [i5, show min (tr false (List.take n l) + 1) (n + 1 - (n + 1) + 1) = 1 by omega]
            rfl
      · rw [if_neg (by omega)] at eu
        have es : mstep rise fall first most (up, run, wait) g = (up, run + 1, if (g || up) = true then first else min (2 * wait) most) := by
          unfold mstep
          simp only [if_neg hgu, if_neg hf]
        rw [es] at ef
        refine ⟨by rw [ef, eu], by rw [eu]; show st ≤ n + 1; omega, by rw [ef, eu]; exact hr.symm, by rw [ef, eu]; show run + 1 < manyN rise fall up; omega, ?_⟩
        rw [ef]
        unfold waitN
        rw [eu, eb]
        subst hg2
        cases up with
        | true => rfl
        | false =>
          simp only [Bool.not_false, Bool.true_or, if_true, Bool.false_eq_true, if_false, Bool.true_eq_false]
          rw [Nat.zero_min]
          rfl
/-- what a mark is that can follow -/
def Good (m : Bool × Nat × Nat) : Prop := (m.1 = true ∧ m.2.1 < fall ∧ m.2.2 = first) ∨ (m.1 = false ∧ 1 ≤ m.2.1 ∧ m.2.1 ≤ rise - 1 ∧ m.2.2 = first) ∨ (m.1 = false ∧ m.2.1 = 0 ∧ ∃ j, 1 ≤ j ∧ m.2.2 = min (first * 2 ^ j) most)
theorem good_step (h1 : 1 ≤ rise) (h2 : 1 ≤ fall) (hf : first ≤ most) {m : Bool × Nat × Nat} (h : Good rise fall first most m) (g : Bool) : Good rise fall first most (mstep rise fall first most m g) := by
  obtain ⟨up, run, wait⟩ := m
  have dbl : ∀ j, 2 * min (first * 2 ^ j) most = min (first * 2 ^ (j + 1)) (2 * most) := fun j => by
    rw [Nat.pow_succ, show first * (2 ^ j * 2) = 2 * (first * 2 ^ j) by rw [← Nat.mul_assoc, Nat.mul_comm]]
    omega
  have w1 : min (2 * first) most = min (first * 2 ^ 1) most := by rw [Nat.pow_one, Nat.mul_comm]
  unfold Good at h ⊢
  unfold mstep manyN
  cases up with
  | true =>
    have hr : run < fall ∧ wait = first := by
      rcases h with ⟨_, a, b⟩ | ⟨a, _⟩ | ⟨a, _⟩
      · exact ⟨a, b⟩
      · cases a
      · cases a
    obtain ⟨hr, rfl⟩ := hr
    cases g with
    | true => exact .inl ⟨rfl, h2, rfl⟩
    | false =>
      by_cases q : run + 1 = fall
      · refine .inr (.inr ?_)
        simp only [Bool.false_eq_true, if_false, if_true, q, Bool.not_true, Bool.or_self, Bool.true_eq_false]
        exact ⟨trivial, trivial, 1, Nat.le_refl _, w1⟩
      · refine .inl ?_
        simp only [Bool.false_eq_true, if_false, if_true, q, Bool.or_true, Bool.true_eq_false]
        exact ⟨trivial, by omega, trivial⟩
  | false =>
    have hr : run ≤ rise - 1 ∧ (wait = first ∨ ∃ j, 1 ≤ j ∧ wait = min (first * 2 ^ j) most) := by
      rcases h with ⟨a, _⟩ | ⟨_, a, b, c⟩ | ⟨_, a, b⟩
      · cases a
      · exact ⟨b, .inl c⟩
      · exact ⟨by have a : run = 0 := a; omega, .inr b⟩
    obtain ⟨hr, hw⟩ := hr
    cases g with
    | false =>
      refine .inr (.inr ?_)
      simp only [Bool.false_eq_true, if_false, if_true, Bool.or_self]
      refine ⟨trivial, trivial, ?_⟩
      rcases hw with rfl | ⟨j, hj, rfl⟩
      · exact ⟨1, Nat.le_refl _, w1⟩
      · refine ⟨j + 1, by omega, ?_⟩
        rw [dbl]
        omega
    | true =>
      by_cases q : run + 1 = rise
      · refine .inl ?_
        simp only [Bool.false_eq_true, if_false, if_true, q, Bool.not_false, Bool.or_true, Bool.true_or, Bool.true_eq_false]
        exact ⟨trivial, h2, trivial⟩
      · refine .inr (.inl ?_)
        simp only [Bool.false_eq_true, if_false, if_true, q, Bool.true_or, Bool.true_eq_false]
        clear hw w1 dbl h
        exact ⟨trivial, by omega, by omega, trivial⟩
theorem good_all (h1 : 1 ≤ rise) (h2 : 1 ≤ fall) (hf : first ≤ most) (l : List Bool) : Good rise fall first most (mfold rise fall first most l) := by
  unfold mfold
  have : ∀ (l : List Bool) (m : Bool × Nat × Nat), Good rise fall first most m → Good rise fall first most (l.foldl (mstep rise fall first most) m) := by
    intro l
    induction l with
    | nil => exact fun m h => h
    | cons g l ih => exact fun m h => ih _ (good_step rise fall first most h1 h2 hf h g)
  exact this l _ (.inl ⟨rfl, h2, rfl⟩)
end
end Mk

end
/-! ## Sel -/
section
set_option linter.all false
set_option maxRecDepth 100000
namespace Ag
open PySem PySem.Spec PyProof.Rows L2
/-- a comprehension with a pure test and a pure value at each place, under which things may be made -/
theorem lc_sel {J : It} {n : Nat} {G : Hp → Prop} {Y : Nat → Hp → V → Hp → Prop} (w : Walk J n G Y) {g : TG} {tt : TT} {te : TE} {vs : List Nat} {σ : L2.St} {H1 : Hp} {D : Addr} {Qd : Hp → Prop}
    (t : Nat → Bool) (e : Nat → V) (hn : n ≤ 16000000) (hD : H1 D = none) (hG : ∀ H, Same H1 H → G H)
    (hs : ∀ i x H H' (k : VK) (k0 : Hp → Prop), i < n → Same H1 H → Y i H x H' → (t i = true → ∀ H4, Same H H4 → k (e i) H4) → (t i = false → ∀ H4, Same H H4 → k0 H4) →
      g x (wipe σ vs) H' fun σ2 H2 => wipe σ2 vs = wipe σ vs ∧ tt σ2 H2 fun b H3 => if b = true then te σ2 H3 k else k0 H3)
    (hd : ∀ H, Same H1 H → H D = some (.lst (((List.range n).filter t).map e)) → Qd H) :
    ∃ W : Nat → Nat → Hp → Prop, (∃ m, W 0 m (upd H1 D (.lst []))) ∧ ∀ i m H, W i m H →
      (J.stop i H ∧ Qd H) ∨ (J.go i H ∧ ∃ Nx : Hp → Prop, (∀ H', Nx H' → ∃ m', m' < m ∧ W (i + 1) m' H') ∧ ∀ x H', J.yld i H x H' → g x (wipe σ vs) H' fun σ2 H2 => wipe σ2 vs = wipe σ vs ∧ tt σ2 H2 fun b H3 =>
        if b = true then te σ2 H3 fun y H4 => ∃ acc, H4 D = some (.lst acc) ∧ acc.length < sizeLine ∧ Nx (upd H4 D (.lst (acc ++ [y]))) else Nx H3) := by
  have put : ∀ (H : Hp) (o : HO), Same H1 H → Same H1 (upd H D o) := fun H o s b u eb => by
    rw [upd_ne (ne_of_none eb hD)]
    exact s b u eb
  have step : ∀ i, (List.range (i + 1)).filter t = (List.range i).filter t ++ (if t i = true then [i] else []) := fun i => by
    rw [List.range_succ, List.filter_append]
    cases h : t i <;> simp [h]
  refine lc_it (g := g) (tt := tt) (te := te) (vs := vs) (σ := σ) w (fun i H => Same H1 H ∧ H D = some (.lst (((List.range i).filter t).map e))) ⟨put _ _ (Same.refl _), by simpa using upd_same⟩ (fun i H _ h => hG H h.1) (fun i x H H' hi h hy => ?_) (fun H h => hd H h.1 h.2)
  obtain ⟨s1, h1⟩ := h
  have hl : (((List.range i).filter t).map e).length ≤ i := by
    rw [List.length_map]
    exact Nat.le_trans (List.length_filter_le _ _) (by rw [List.length_range]; exact Nat.le_refl _)
  refine hs i x H H' _ _ hi s1 hy (fun ht H4 s4 => ?_) (fun ht H4 s4 => ?_)
  · refine ⟨_, s4 _ _ h1, by rw [sizeLine_eq]; omega, put _ _ (s1.trans s4), ?_⟩
    rw [upd_same, step, if_pos ht, List.map_append]
    rfl
  · refine ⟨s1.trans s4, ?_⟩
    rw [step, if_neg (by rw [ht]; decide), List.append_nil]
    exact s4 _ _ h1
/-- len of a list or a tuple, where a comprehension's block runs -/
def rLenK (K : PySem.W.Frag) : List V → Hp → VK → Prop := fun xs H Q => ∃ p ys, xs = [.ref p] ∧ (SqL K H p ys ∨ SqT K H p ys) ∧ Q (.int ys.length) H
theorem call_lenK {X : Cx} (K : PySem.W.Frag) (hK : X.K = K) : CallR X (.builtin "len") (rLenK K) := by
  subst hK
  exact call_len_seq
theorem filt_all {n : Nat} (e : Nat → V) : ((List.range n).filter fun _ => true).map e = (List.range n).map e := by rw [List.filter_eq_self.mpr fun _ _ => rfl]
/-- bools by place -/
theorem bls_map {n : Nat} (b : Nat → Bool) : (List.range n).map (fun i => V.bl (b i)) = ((List.range n).map b).map V.bl := by rw [List.map_map]; rfl
theorem all_at {α : Type} (l : List α) (t : α → Bool) (d : α) : ((List.range l.length).map fun i => t (l.getD i d)).all id = l.all t := by
  induction l with
  | nil => rfl
  | cons a l ih =>
    rw [List.length_cons, List.range_succ_eq_map, List.map_cons, List.all_cons, List.map_map, List.all_cons, ← ih]
    rfl
theorem none_at {α : Type} (l : List α) (t : α → Bool) (d : α) : decide (((List.range l.length).filter fun i => !t (l.getD i d)) = []) = l.all t := by
  rw [Bool.eq_iff_iff, decide_eq_true_eq, List.filter_eq_nil_iff, List.all_eq_true]
  constructor
  · intro h a ha
    obtain ⟨i, hi, rfl⟩ := List.mem_iff_getElem.mp ha
    have := h i (List.mem_range.mpr hi)
    rw [List.getD_eq_getElem?_getD, List.getElem?_eq_getElem hi] at this
    simpa using this
  · intro h i hi
    have hi := List.mem_range.mp hi
    rw [List.getD_eq_getElem?_getD, List.getElem?_eq_getElem hi]
    simpa using h _ (List.getElem_mem hi)
theorem eqv_map_nil {α : Type} (l : List α) (e : α → PyData) : PyData.eqv (.list (l.map e)) (.list []) = decide (l = []) := by
  cases l <;> simp [PyData.eqv, PyData.eqvAll]
theorem dp_const {K : PySem.W.Frag} {H : Hp} {α : Type} : ∀ l : List α, DpAll K H (l.map fun _ => V.int 1) (l.map fun _ => PyData.int 1)
  | [] => .nil
  | _ :: l => .cons (.int 1) (dp_const l)
end Ag

end
/-! ## Prog -/
section
set_option linter.all false
set_option maxRecDepth 100000
namespace Ag
open PySem PySem.Spec PyProof.Rows L2
/-! ### the text by places -/
def top (i : Nat) : Stmt := PySem.Challenge.pw_answergate_k22_whole_marks_under_any_loo.main.body.getD i (.Pass ⟨0, 0, 0, 0⟩)
abbrev s_is_integer : Stmt := top 1
abbrev N_is_integer : List Str := ["thing"]
theorem sc_is_integer : FnScope N_is_integer ["thing"] (defScope s_is_integer) := ⟨rfl, rfl, rfl, by decide +kernel, rfl, by decide +kernel, by decide +kernel⟩
abbrev s_is_health_rule : Stmt := top 10
abbrev N_is_health_rule : List Str := ["thing", "_", "first", "most", "number"]
theorem sc_is_health_rule : FnScope N_is_health_rule ["thing"] (defScope s_is_health_rule) := ⟨rfl, rfl, rfl, by decide +kernel, rfl, by decide +kernel, by decide +kernel⟩
abbrev s_is_mark : Stmt := top 11
abbrev N_is_mark : List Str := ["rule", "thing", "is_up", "run", "wait", "due", "rise", "fall", "first", "_", "number"]
theorem sc_is_mark : FnScope N_is_mark ["rule", "thing"] (defScope s_is_mark) := ⟨rfl, rfl, rfl, by decide +kernel, rfl, by decide +kernel, by decide +kernel⟩
abbrev s_doubled_waits : Stmt := top 12
abbrev N_doubled_waits : List Str := ["rule", "_", "first", "most", "waits"]
theorem sc_doubled_waits : FnScope N_doubled_waits ["rule"] (defScope s_doubled_waits) := ⟨rfl, rfl, rfl, by decide +kernel, rfl, by decide +kernel, by decide +kernel⟩
abbrev s_new_mark : Stmt := top 13
abbrev N_new_mark : List Str := ["rule", "_", "first"]
theorem sc_new_mark : FnScope N_new_mark ["rule"] (defScope s_new_mark) := ⟨rfl, rfl, rfl, by decide +kernel, rfl, by decide +kernel, by decide +kernel⟩
abbrev s_looked : Stmt := top 14
abbrev N_looked : List Str := ["rule", "mark", "is_good", "now", "rise", "fall", "first", "most", "is_up", "run", "wait", "_"]
theorem sc_looked : FnScope N_looked ["rule", "mark", "is_good", "now"] (defScope s_looked) := ⟨rfl, rfl, rfl, by decide +kernel, rfl, by decide +kernel, by decide +kernel⟩
abbrev s_is_due : Stmt := top 15
abbrev N_is_due : List Str := ["rule", "mark", "now"]
theorem sc_is_due : FnScope N_is_due ["rule", "mark", "now"] (defScope s_is_due) := ⟨rfl, rfl, rfl, by decide +kernel, rfl, by decide +kernel, by decide +kernel⟩
abbrev s__law_deck : Stmt := top 17
abbrev N__law_deck : List Str := ["_law_script", "_law_mixed", "_law_cell"]
theorem sc__law_deck : FnScope N__law_deck ["_law_script"] (defScope s__law_deck) := ⟨rfl, rfl, rfl, by decide +kernel, rfl, by decide +kernel, by decide +kernel⟩
abbrev s__law_draw : Stmt := top 18
abbrev N__law_draw : List Str := ["_law_deck_here", "_law_many", "_law_figure", "_law_cell"]
theorem sc__law_draw : FnScope N__law_draw ["_law_deck_here", "_law_many"] (defScope s__law_draw) := ⟨rfl, rfl, rfl, by decide +kernel, rfl, by decide +kernel, by decide +kernel⟩
abbrev s__law_pick : Stmt := top 19
abbrev N__law_pick : List Str := ["_law_deck_here", "_law_some"]
theorem sc__law_pick : FnScope N__law_pick ["_law_deck_here", "_law_some"] (defScope s__law_pick) := ⟨rfl, rfl, rfl, by decide +kernel, rfl, by decide +kernel, by decide +kernel⟩
abbrev s__law_drawn_rule : Stmt := top 20
abbrev N__law_drawn_rule : List Str := ["_law_deck_here", "_law_most", "_law_waits"]
theorem sc__law_drawn_rule : FnScope N__law_drawn_rule ["_law_deck_here"] (defScope s__law_drawn_rule) := ⟨rfl, rfl, rfl, by decide +kernel, rfl, by decide +kernel, by decide +kernel⟩
abbrev s__law_mark_by : Stmt := top 21
abbrev N__law_mark_by : List Str := ["_law_rule", "_law_looks", "_law_rise", "_law_fall", "_law_first", "_law_most", "_law_is_up", "_law_start", "_law_at", "_law_many", "_law_run", "_law_bad", "_law_one", "_law_now", "_law_wait", "_law_turn"]
theorem sc__law_mark_by : FnScope N__law_mark_by ["_law_rule", "_law_looks"] (defScope s__law_mark_by) := ⟨rfl, rfl, rfl, by decide +kernel, rfl, by decide +kernel, by decide +kernel⟩
abbrev s_law : Stmt := top 22
abbrev N_law : List Str := ["_law_script", "_law_deck_here", "_law_rule", "_law_mark", "_law_looks", "_law_now", "_law_is_good", "_law_turn", "_law_due", "_law_time"]
theorem sc_law : FnScope N_law ["_law_script"] (defScope s_law) := ⟨rfl, rfl, rfl, by decide +kernel, rfl, by decide +kernel, by decide +kernel⟩
structure Fn (K : PySem.W.Frag) (mg : Str → Option Value) (x : Str) (st : Stmt) (ps : List Str) (f : Addr) (fd : FuncData) : Prop where
  F : Fun K x x st f fd
  b : Binds K fd ps []
  g : mg x = some (.ref f)
structure Blt (mg : Str → Option Value) : Prop where
  n_len : mg "len" = none
  n_int : mg "int" = none
  n_isinstance : mg "isinstance" = none
  n_range : mg "range" = none
  n_tuple : mg "tuple" = none
  n_list : mg "list" = none
  n_max : mg "max" = none
  n_min : mg "min" = none
  n_sorted : mg "sorted" = none
  n_repr : mg "repr" = none
  n_bool : mg "bool" = none
  n_all : mg "all" = none
structure Con (mg : Str → Option Value) (tr : Tok) : Prop extends Blt mg where
  g_RULE_MOST : mg "RULE_MOST" = some (.int 99 tr)
end Ag

end
/-! ## M1 -/
section
set_option linter.all false
set_option maxRecDepth 100000
namespace Ag
open PySem PySem.Spec PyProof.Rows L2
theorem bl_t {p : Prop} [Decidable p] (h : p) {Q : VK} {H : Hp} (q : Q (.bl true) H) : Q (.bl (decide p)) H := by rw [decide_eq_true h]; exact q
theorem bl_b {p : Prop} [Decidable p] {b : Bool} (h : decide p = b) {Q : VK} {H : Hp} (q : Q (.bl b) H) : Q (.bl (decide p)) H := by rw [h]; exact q
theorem sz {n : Nat} (h : n ≤ 16000000) : n ≤ sizeLine := by rw [sizeLine_eq]; omega
theorem same_new {H : Hp} {p : Addr} {o : HO} (h : H p = none) : Same H (upd H p o) := fun b x e => by
  rw [upd_ne (ne_of_none e h)]
  exact e
/-- a rule stands at a -/
structure Rl (r f i m : Nat) (a : Addr) (H : Hp) : Prop where
  at_ : H a = some (.tup [.int r, .int f, .int i, .int m])
  r1 : 1 ≤ r
  r9 : r ≤ 99
  f1 : 1 ≤ f
  f9 : f ≤ 99
  i1 : 1 ≤ i
  im : i ≤ m
  m9 : m ≤ 99
theorem Rl.to {r f i m : Nat} {a : Addr} {H H' : Hp} (R : Rl r f i m a H) (s : Same H H') : Rl r f i m a H' := ⟨s _ _ R.at_, R.r1, R.r9, R.f1, R.f9, R.i1, R.im, R.m9⟩
theorem Rl.item {r f i m : Nat} {a : Addr} {H : Hp} (R : Rl r f i m a H) {j : Nat} {y : V} (h : ([.int r, .int f, .int i, .int m] : List V)[j]? = some y) : ∃ n : Nat, y = .int n ∧ 1 ≤ n ∧ n ≤ 99 := by
  obtain ⟨_, r1, r9, f1, f9, i1, im, m9⟩ := R
  match j, h with
  | 0, h => exact ⟨r, (Option.some.inj h).symm, r1, r9⟩
  | 1, h => exact ⟨f, (Option.some.inj h).symm, f1, f9⟩
  | 2, h => exact ⟨i, (Option.some.inj h).symm, i1, by omega⟩
  | 3, h => exact ⟨m, (Option.some.inj h).symm, by omega, m9⟩
  | j + 4, h => cases h
/-- the waits of a server that is down -/
def dbl (i m k : Nat) : List Int := (List.range k).map fun j => ((min (i * 2 ^ (j + 1)) m : Nat) : Int)
theorem dbl_succ (i m k : Nat) : dbl i m (k + 1) = dbl i m k ++ [((min (i * 2 ^ (k + 1)) m : Nat) : Int)] := by
  unfold dbl
  rw [List.range_succ, List.map_append]
  rfl
theorem dbl_len (i m k : Nat) : (dbl i m k).length = k := by simp [dbl]
theorem dbl_last (i m k : Nat) : (dbl i m (k + 1))[k]? = some (((min (i * 2 ^ (k + 1)) m : Nat)) : Int) := by
  rw [dbl_succ, List.getElem?_append_right (by rw [dbl_len]; exact Nat.le_refl _), dbl_len, Nat.sub_self]
  rfl
section
variable {P : Program} {w : World} {K : PySem.W.Frag} {mg : Str → Option Value} {base : Heap} {tr : Tok}
def spInteger : Sp := fun vs H Q _ => ∃ i : Int, vs = [.int i] ∧ Q (.bl true) H
theorem ok_is_integer {f : Addr} {fd : FuncData} (F : Fn K mg "is_integer" s_is_integer ["thing"] f fd) (B : Blt mg) : FnOk P w K mg base CX0 1 f fd ["thing"] spInteger := by
  refine F.F.ok sc_is_integer (fun vs H Q E h => ?_) (fun cdv A outer s H vs Q E hr h => ?_)
  · obtain ⟨x, rfl, _⟩ := h
    rfl
  · obtain ⟨x, rfl, q⟩ := h
    refine ⟨_, (pss_one (ps_ret (pe_and (pe_callB call_isi (by rfl) B.n_isinstance (by decide +kernel) (pa_cons (pv 0) (pa_cons (pe_bltn (v := .ty "int") (by rfl) B.n_int (by decide +kernel) rfl) pa_nil))) (pe_one (pe_not (pe_callB call_isi (by rfl) B.n_isinstance (by decide +kernel) (pa_cons (pv 0) (pa_cons (pe_bltn (v := .ty "bool") (by rfl) B.n_bool (by decide +kernel) rfl) pa_nil)))))))), ?_⟩
    refine ⟨.int x, rfl, .int x, .ty "int", _, _, true, rfl, .ty "int", .base (.int _), kit_ty (by decide +kernel), _, rfl, iteT ?_⟩
    exact ⟨.int x, rfl, .int x, .ty "bool", _, _, false, rfl, .ty "bool", .base (.int _), kit_ty (by decide +kernel), _, rfl, q⟩
def spRule : Sp := fun vs H Q _ => ∃ a r f i m, vs = [.ref a] ∧ Rl r f i m a H ∧ ∀ H', Same H H' → Q (.bl true) H'
theorem ok_is_rule {f f1 : Addr} {fd fd1 : FuncData} (F : Fn K mg "is_health_rule" s_is_health_rule ["thing"] f fd) (B : Con mg tr) (F_is_integer : Fn K mg "is_integer" s_is_integer ["thing"] f1 fd1) : FnOk P w K mg base CX0 2 f fd ["thing"] spRule := by
  have G_is_integer : FnOk P w K mg base CX0 1 f1 fd1 ["thing"] spInteger := ok_is_integer F_is_integer B.toBlt
  refine F.F.ok sc_is_health_rule (fun vs H Q E h => ?_) (fun cdv A outer s H vs Q E hr h => ?_)
  · obtain ⟨a, r, f', i, m, rfl, _⟩ := h
    rfl
  · obtain ⟨a, r, f', i, m, rfl, R, q⟩ := h
    refine ⟨_, (pss_cons (ps_if (PW.pt (pw_or (pt_not (pt_val (pe_callB call_isi (by rfl) B.n_isinstance (by decide +kernel) (pa_cons (pv 0) (pa_cons (pe_bltn (v := .ty "tuple") (by rfl) B.n_tuple (by decide +kernel) rfl) pa_nil))))) (pw_or1 (pt_cmpR op_ne (pe_callB call_len_seq (by rfl) B.n_len PySem.boot_len (pa_cons (pv 0) pa_nil)) pe_int (nomark _)))))
      (pss_one (ps_ret pe_bl))
      pss_nil)
      (pss_cons (ps_if (pt_not (pt_val (pe_callB (cr_all rfl) (by rfl) B.n_all (by decide +kernel) (pa_cons (pe_lc (own := [("number", 4)]) rfl sc_is_health_rule.nd (pi_tup (pv 0)) (blkOk_by (N := N_is_health_rule) (sc := defScope s_is_health_rule) (by decide +kernel)) (fun _ _ _ _ _ => (pg_name (i := 4) sc_is_health_rule.nd rfl (Or.inl rfl))) (fun _ _ _ _ _ => pts_nil) (fun _ _ _ _ _ => (pe_and (pe_call G_is_integer (hr.mono (by decide)) (by rfl) F_is_integer.g F_is_integer.F.kp F_is_integer.b .nil pass0 (pa_cons (pv 4) pa_nil)) (pe_one (pe_chain op_le op_le pe_int (pv 4) (pe_glob (v := .int 99) rfl B.g_RULE_MOST ⟨_, rfl⟩)))))) pa_nil))))
      (pss_one (ps_ret pe_bl))
      pss_nil)
      (pss_cons (ps_asg (pv 0) (pg_tup rfl (pgs_cons (pg_name (i := 1) sc_is_health_rule.nd rfl (Or.inl rfl)) (pgs_cons (pg_name (i := 1) sc_is_health_rule.nd rfl (Or.inl rfl)) (pgs_cons (pg_name (i := 2) sc_is_health_rule.nd rfl (Or.inl rfl)) (pgs_cons (pg_name (i := 3) sc_is_health_rule.nd rfl (Or.inl rfl)) pgs_nil))))))
      (pss_one (ps_ret (pe_cmpR op_le (pv 2) (pv 3) (nomark _))))))), ?_⟩
    refine ⟨_, rfl, .ref a, .ty "tuple", _, _, true, rfl, .ty "tuple", .base (.tup R.at_), kit_ty (by decide +kernel), _, rfl, iteF ?_⟩
    refine ⟨_, rfl, a, _, rfl, .inr (SqT.of R.at_), rfl, _, rfl, iteF ?_⟩
    refine ⟨_, rfl, a, rfl, ⟨_, SqT.of R.at_⟩, fun D hD => ?_⟩
    refine lc_sel (walk_tup (K := K) (a := a) (xs := [.int r, .int f', .int i, .int m])) (fun _ => true) (fun _ => .bl true) (by show 4 ≤ 16000000; decide) hD (fun H' s => SqT.of (s _ _ R.at_)) ?_ ?_
    · rintro j y H1 H2 k k0 hi s1 ⟨rfl, hy⟩ hk _
      have hk := hk rfl H2 (Same.refl _)
      obtain ⟨n, rfl, n1, n9⟩ : ∃ n : Nat, y = .int n ∧ 1 ≤ n ∧ n ≤ 99 := R.item hy
      refine ⟨rfl, _, rfl, n, rfl, _, rfl, iteT ?_⟩
      refine ⟨_, rfl, _, _, rfl, rfl, _, rfl, ?_⟩
      rw [decide_eq_true (by omega : (1 : Int) ≤ n)]
      exact iteT ⟨_, _, rfl, rfl, bl_t (by omega) hk⟩
    · intro H1 s1 h1
      have h1 : H1 D = some (.lst ([true, true, true, true].map V.bl)) := h1
      refine ⟨D, _, rfl, SqL.of h1, _, rfl, iteF ?_⟩
      refine ⟨_, rfl, a, _, rfl, SqT.of (s1 _ _ R.at_), rfl, _, _, rfl, _, _, rfl, _, _, rfl, _, _, rfl, rfl, ?_⟩
      have := R.im
      exact ⟨_, rfl, _, rfl, _, _, rfl, rfl, bl_t (by omega) (q _ s1)⟩
end
end Ag

end
/-! ## M2 -/
section
set_option linter.all false
set_option maxRecDepth 100000
namespace Ag
open PySem PySem.Spec PyProof.Rows L2
theorem min_of {a b : Int} {x m : Nat} (ha : a = 2 * (x : Int)) (hb : b = (m : Int)) : (if b < a then b else a) = ((min (2 * x) m : Nat) : Int) := by
  subst ha hb
  split <;> omega
theorem dbl_two (i m k : Nat) : min (2 * min (i * 2 ^ k) m) m = min (i * 2 ^ (k + 1)) m := by
  rw [Nat.pow_succ, show i * (2 ^ k * 2) = 2 * (i * 2 ^ k) by rw [← Nat.mul_assoc, Nat.mul_comm]]
  omega
theorem dbl_lt {i m k : Nat} (hi : 1 ≤ i) (h : min (i * 2 ^ k) m < m) : min (i * 2 ^ k) m < min (i * 2 ^ (k + 1)) m := by
  have e : min (i * 2 ^ k) m = i * 2 ^ k := by omega
  have e2 : i * 2 ^ (k + 1) = 2 * (i * 2 ^ k) := by rw [Nat.pow_succ, ← Nat.mul_assoc, Nat.mul_comm]
  have p : 1 ≤ i * 2 ^ k := Nat.le_trans hi (Nat.le_mul_of_pos_right _ (Nat.pow_pos (by decide)))
  omega
theorem dbl_mem {i m k j : Nat} (hk : m ≤ i * 2 ^ k) (h1 : 1 ≤ k) (hj : 1 ≤ j) : ((min (i * 2 ^ j) m : Nat) : Int) ∈ dbl i m k := by
  unfold dbl
  rw [List.mem_map]
  by_cases h : j ≤ k
  · exact ⟨j - 1, List.mem_range.mpr (by omega), by rw [Nat.sub_add_cancel hj]⟩
  · refine ⟨k - 1, List.mem_range.mpr (by omega), ?_⟩
    rw [Nat.sub_add_cancel h1, Nat.min_eq_right hk, Nat.min_eq_right (Nat.le_trans hk (Nat.mul_le_mul_left _ (Nat.pow_le_pow_right (by decide) (by omega))))]
theorem inV_ints {x : Int} {l : List Int} (h : x ∈ l) : inV (.int x) (l.map V.int) = true := by
  unfold inV
  rw [List.any_eq_true]
  exact ⟨.int x, List.mem_map_of_mem h, by simp [eqV]⟩
theorem flat_ints (l : List Int) : (l.map V.int).all flatV = true := by
  rw [List.all_eq_true]
  intro y hy
  obtain ⟨z, _, rfl⟩ := List.mem_map.mp hy
  rfl
section
variable {P : Program} {w : World} {K : PySem.W.Frag} {mg : Str → Option Value} {base : Heap} {tr : Tok}
def spDbl : Sp := fun vs H Q _ => ∃ a r f i m, vs = [.ref a] ∧ Rl r f i m a H ∧ ∀ l k H', 1 ≤ k → m ≤ i * 2 ^ k → Same H H' → H' l = some (.lst ((dbl i m k).map V.int)) → Q (.ref l) H'
theorem ok_dbl {f : Addr} {fd : FuncData} (F : Fn K mg "doubled_waits" s_doubled_waits ["rule"] f fd) (B : Con mg tr) : FnOk P w K mg base CX0 1 f fd ["rule"] spDbl := by
  refine F.F.ok sc_doubled_waits (fun vs H Q E h => ?_) (fun cdv A outer s H vs Q E hr h => ?_)
  · obtain ⟨a, r, f', i, m, rfl, _⟩ := h
    rfl
  · obtain ⟨a, r, f', i, m, rfl, R, q⟩ := h
    refine ⟨_, (pss_cons (ps_asg (pv 0) (pg_tup rfl (pgs_cons (pg_name (i := 1) sc_doubled_waits.nd rfl (Or.inl rfl)) (pgs_cons (pg_name (i := 1) sc_doubled_waits.nd rfl (Or.inl rfl)) (pgs_cons (pg_name (i := 2) sc_doubled_waits.nd rfl (Or.inl rfl)) (pgs_cons (pg_name (i := 3) sc_doubled_waits.nd rfl (Or.inl rfl)) pgs_nil))))))
      (pss_cons (ps_set (i := 4) sc_doubled_waits.nd rfl (.inl rfl) (pe_lst (pa_cons (pe_callB (call_min2 rfl) (by rfl) B.n_min (by decide +kernel) (pa_cons (pe_op op_mul pe_int (pv 2)) (pa_cons (pv 3) pa_nil))) pa_nil)))
      (pss_cons (ps_while PassesOwn.never (pt_cmpR op_lt (pe_ix ix_list (pv 4) (pe_un un_neg pe_int) (fun _ _ => rfl)) (pv 3) (nomark _))
      (pss_one (ps_expr (pe_bm PySem.F.plainAttrs_list PySem.F.slot_list_append PySem.F.type_list_append mt_append (pv 4) (pa_cons (pe_callB (call_min2 rfl) (by rfl) B.n_min (by decide +kernel) (pa_cons (pe_op op_mul pe_int (pe_ix ix_list (pv 4) (pe_un un_neg pe_int) (fun _ _ => rfl))) (pa_cons (pv 3) pa_nil))) pa_nil)))))
      (pss_one (ps_ret (pv 4)))))), ?_⟩
    refine ⟨_, rfl, a, _, rfl, SqT.of R.at_, rfl, _, _, rfl, _, _, rfl, _, _, rfl, _, _, rfl, rfl, ?_⟩
    refine ⟨_, rfl, _, _, rfl, rfl, .inl ⟨by decide, by decide⟩, _, rfl, _, _, rfl, ?_⟩
    rw [min_of rfl rfl]
    refine ⟨sz (by show 1 ≤ 16000000; decide), fun L hL => ?_⟩
    have e1 : min (2 * i) m = min (i * 2 ^ 1) m := by rw [Nat.pow_one, Nat.mul_comm]
    rw [e1]
    refine ⟨fun n σ H' => ∃ k, n = m - min (i * 2 ^ (k + 1)) m ∧ k + 1 ≤ min (i * 2 ^ (k + 1)) m ∧ σ = [some (.ref a), some (.int f'), some (.int i), some (.int m), some (.ref L)] ∧ Same H H' ∧ H' L = some (.lst ((dbl i m (k + 1)).map V.int)), ⟨_, 0, rfl, (by have := R.i1; have := R.im; rw [← e1]; omega), rfl, same_new hL, upd_same⟩, ?_⟩
    rintro n σ H1 ⟨k, rfl, hk9, rfl, s1, h1⟩
    have last : atI ((dbl i m (k + 1)).map V.int) (-1) = some (.int ((min (i * 2 ^ (k + 1)) m : Nat) : Int)) := by
      rw [dbl_succ, List.map_append]
      exact atI_last _ _
    refine ⟨_, rfl, _, rfl, L, _, _, _, rfl, rfl, SqL.of h1, last, _, rfl, _, _, rfl, rfl, _, rfl, ?_⟩
    refine ite2 (fun h => ?_) (fun h => ?_)
    · have hlt : min (i * 2 ^ (k + 1)) m < m := by have := of_decide_eq_true h; omega
      refine ⟨fun σ H' => σ = [some (.ref a), some (.int f'), some (.int i), some (.int m), some (.ref L)] ∧ Same H H' ∧ H' L = some (.lst ((dbl i m (k + 2)).map V.int)), ?_, ?_⟩
      · rintro σ' H' ⟨rfl, s2, h2⟩
        have hd := dbl_lt R.i1 hlt
        exact ⟨_, by omega, k + 1, rfl, by omega, rfl, s2, h2⟩
      · refine ⟨_, rfl, .inl ⟨rfl, _, SqL.of h1⟩, _, rfl, _, rfl, L, _, _, _, rfl, rfl, SqL.of h1, last, _, _, rfl, rfl, .inl ⟨by decide, by decide⟩, _, rfl, _, _, rfl, ?_⟩
        rw [min_of rfl rfl, dbl_two]
        refine ⟨L, _, _, rfl, rfl, h1, ?_, rfl, ?_, ?_⟩
        · rw [List.length_map, dbl_len, sizeLine_eq]
          have := R.m9
          omega
        · exact fun b o e => by rw [upd_ne (ne_of_none e hL)]; exact s1 b o e
        · rw [upd_same, show k + 2 = (k + 1) + 1 from rfl, dbl_succ i m (k + 1), List.map_append]
          rfl
    · have hge : m ≤ i * 2 ^ (k + 1) := by
        have := of_decide_eq_false (Bool.eq_false_iff.mpr h)
        omega
      exact ⟨_, rfl, q L (k + 1) H1 (by omega) hge s1 h1⟩
def spMark : Sp := fun vs H Q _ => ∃ a b r f i m u run wait, ∃ due : Int, vs = [.ref a, .ref b] ∧ Rl r f i m a H ∧ H b = some (.tup [.bl u, .int (run : Nat), .int (wait : Nat), .int due]) ∧ Mk.Good r f i m (u, run, wait) ∧ (wait : Int) ≤ due ∧ ∀ H', Same H H' → Q (.bl true) H'
theorem ok_is_mark {f f1 f2 f3 : Addr} {fd fd1 fd2 fd3 : FuncData} (F : Fn K mg "is_mark" s_is_mark ["rule", "thing"] f fd) (B : Con mg tr) (F_is_integer : Fn K mg "is_integer" s_is_integer ["thing"] f1 fd1)
    (F_is_health_rule : Fn K mg "is_health_rule" s_is_health_rule ["thing"] f2 fd2) (F_doubled_waits : Fn K mg "doubled_waits" s_doubled_waits ["rule"] f3 fd3) : FnOk P w K mg base CX0 3 f fd ["rule", "thing"] spMark := by
  have G_is_integer : FnOk P w K mg base CX0 1 f1 fd1 ["thing"] spInteger := ok_is_integer F_is_integer B.toBlt
  have G_is_health_rule : FnOk P w K mg base CX0 2 f2 fd2 ["thing"] spRule := ok_is_rule F_is_health_rule B F_is_integer
  have G_doubled_waits : FnOk P w K mg base CX0 1 f3 fd3 ["rule"] spDbl := ok_dbl F_doubled_waits B
  refine F.F.ok sc_is_mark (fun vs H Q E h => ?_) (fun cdv A outer s H vs Q E hr h => ?_)
  · obtain ⟨a, b, r, f', i, m, u, run, wait, due, rfl, _⟩ := h
    rfl
  · obtain ⟨a, b, r, f', i, m, u, run, wait, due, rfl, R, hb, hg, hd, q⟩ := h
    refine ⟨_, (pss_cons (ps_if (pt_not (pt_val (pe_call G_is_health_rule (hr.mono (by decide)) (by rfl) F_is_health_rule.g F_is_health_rule.F.kp F_is_health_rule.b .nil pass0 (pa_cons (pv 0) pa_nil))))
      (pss_one ps_never)
      pss_nil)
      (pss_cons (ps_if (PW.pt (pw_or (pt_not (pt_val (pe_callB call_isi (by rfl) B.n_isinstance (by decide +kernel) (pa_cons (pv 1) (pa_cons (pe_bltn (v := .ty "tuple") (by rfl) B.n_tuple (by decide +kernel) rfl) pa_nil))))) (pw_or1 (pt_cmpR op_ne (pe_callB call_len_seq (by rfl) B.n_len PySem.boot_len (pa_cons (pv 1) pa_nil)) pe_int (nomark _)))))
      (pss_one (ps_ret pe_bl))
      pss_nil)
      (pss_cons (ps_asg (pv 1) (pg_tup rfl (pgs_cons (pg_name (i := 2) sc_is_mark.nd rfl (Or.inl rfl)) (pgs_cons (pg_name (i := 3) sc_is_mark.nd rfl (Or.inl rfl)) (pgs_cons (pg_name (i := 4) sc_is_mark.nd rfl (Or.inl rfl)) (pgs_cons (pg_name (i := 5) sc_is_mark.nd rfl (Or.inl rfl)) pgs_nil))))))
      (pss_cons (ps_if (PW.pt (pw_or (pt_not (pt_val (pe_callB call_isi (by rfl) B.n_isinstance (by decide +kernel) (pa_cons (pv 2) (pa_cons (pe_bltn (v := .ty "bool") (by rfl) B.n_bool (by decide +kernel) rfl) pa_nil))))) (pw_or1 (pt_not (pt_val (pe_callB (cr_all rfl) (by rfl) B.n_all (by decide +kernel) (pa_cons (pe_lc (own := [("number", 10)]) rfl sc_is_mark.nd (pi_tup (pe_tup (pa_cons (pv 3) (pa_cons (pv 4) (pa_cons (pv 5) pa_nil))))) (blkOk_by (N := N_is_mark) (sc := defScope s_is_mark) (by decide +kernel)) (fun _ _ _ _ _ => (pg_name (i := 10) sc_is_mark.nd rfl (Or.inl rfl))) (fun _ _ _ _ _ => pts_nil) (fun _ _ _ _ _ => (pe_call G_is_integer (hr.mono (by decide)) (by rfl) F_is_integer.g F_is_integer.F.kp F_is_integer.b .nil pass0 (pa_cons (pv 10) pa_nil)))) pa_nil)))))))
      (pss_one (ps_ret pe_bl))
      pss_nil)
      (pss_cons (ps_if (PW.pt (pw_or (pt_cmpR op_lt (pv 3) pe_int (nomark _)) (pw_or1 (pt_cmpR op_lt (pv 5) (pv 4) (nomark _)))))
      (pss_one (ps_ret pe_bl))
      pss_nil)
      (pss_cons (ps_asg (pv 0) (pg_tup rfl (pgs_cons (pg_name (i := 6) sc_is_mark.nd rfl (Or.inl rfl)) (pgs_cons (pg_name (i := 7) sc_is_mark.nd rfl (Or.inl rfl)) (pgs_cons (pg_name (i := 8) sc_is_mark.nd rfl (Or.inl rfl)) (pgs_cons (pg_name (i := 9) sc_is_mark.nd rfl (Or.inl rfl)) pgs_nil))))))
      (pss_cons (ps_if (pt_val (pv 2))
      (pss_one (ps_ret (pe_and (pe_cmpR op_lt (pv 3) (pv 7) (nomark _)) (pe_one (pe_cmpR op_eq (pv 4) (pv 8) (nomark _))))))
      pss_nil)
      (pss_cons (ps_if (pt_cmpR op_gt (pv 3) pe_int (nomark _))
      (pss_one (ps_ret (pe_and (pe_cmpR op_lt (pv 3) (pv 6) (nomark _)) (pe_one (pe_cmpR op_eq (pv 4) (pv 8) (nomark _))))))
      pss_nil)
      (pss_one (ps_ret (pe_cmpR op_in_seq (pv 4) (pe_call G_doubled_waits (hr.mono (by decide)) (by rfl) F_doubled_waits.g F_doubled_waits.F.kp F_doubled_waits.b .nil pass0 (pa_cons (pv 0) pa_nil)) rfl))))))))))), ?_⟩
    refine ⟨_, rfl, a, r, f', i, m, rfl, R, fun H1 s1 => ⟨_, rfl, iteF ?_⟩⟩
    have hb1 := s1 _ _ hb
    refine ⟨_, rfl, .ref b, .ty "tuple", _, _, true, rfl, .ty "tuple", .base (.tup hb1), kit_ty (by decide +kernel), _, rfl, iteF ?_⟩
    refine ⟨_, rfl, b, _, rfl, .inr (SqT.of hb1), rfl, _, rfl, iteF ?_⟩
    refine ⟨_, rfl, b, _, rfl, SqT.of hb1, rfl, _, _, rfl, _, _, rfl, _, _, rfl, _, _, rfl, rfl, ?_⟩
    refine ⟨_, rfl, .bl u, .ty "bool", _, _, true, rfl, .ty "bool", .base (.bl u), kit_ty (by decide +kernel), _, rfl, iteF ?_⟩
    refine ⟨_, rfl, _, rfl, _, rfl, sz (by show 3 ≤ 16000000; decide), fun T hT => ?_⟩
    have s3 := s1.trans (same_new (o := .tup [.int run, .int wait, .int due]) hT)
    have hT3 : upd H1 T (.tup [.int run, .int wait, .int due]) T = some (.tup [.int run, .int wait, .int due]) := upd_same
    generalize upd H1 T (.tup [.int run, .int wait, .int due]) = H3 at s3 hT3 ⊢
    refine ⟨T, rfl, ⟨_, SqT.of hT3⟩, fun D2 hD2 => ?_⟩
    refine lc_sel (walk_tup (K := K) (a := T) (xs := [.int run, .int wait, .int due])) (fun _ => true) (fun _ => .bl true) (by show 3 ≤ 16000000; decide) hD2 (fun H' s => SqT.of (s _ _ hT3)) ?_ ?_
    · rintro j y H4 H5 k k0 hi s4 ⟨rfl, hy⟩ hk _
      have hk := hk rfl H5 (Same.refl _)
      obtain ⟨n, rfl⟩ : ∃ n : Int, y = .int n := by
        match j, hy with
        | 0, hy => exact ⟨_, (Option.some.inj hy).symm⟩
        | 1, hy => exact ⟨_, (Option.some.inj hy).symm⟩
        | 2, hy => exact ⟨_, (Option.some.inj hy).symm⟩
        | j + 3, hy => cases hy
      exact ⟨rfl, _, rfl, n, rfl, hk⟩
    · intro H4 s4 h4
      have h4 : H4 D2 = some (.lst ([true, true, true].map V.bl)) := h4
      have s5 := s3.trans s4
      refine ⟨D2, _, rfl, SqL.of h4, _, rfl, iteF ?_⟩
      refine ⟨_, rfl, _, _, rfl, rfl, _, rfl, ?_⟩
      rw [decide_eq_false (by omega : ¬ ((run : Int) < 0))]
      refine iteF ⟨_, rfl, _, rfl, _, _, rfl, rfl, _, rfl, ?_⟩
      rw [decide_eq_false (by omega : ¬ (due < (wait : Int)))]
      refine iteF ?_
      refine ⟨_, rfl, a, _, rfl, SqT.of (s5 _ _ R.at_), rfl, _, _, rfl, _, _, rfl, _, _, rfl, _, _, rfl, rfl, ?_⟩
      refine ⟨_, rfl, u, rfl, ?_⟩
      cases u with
      | true =>
        obtain ⟨g1, g2⟩ : run < f' ∧ wait = i := by
          rcases hg with ⟨_, a1, a2⟩ | ⟨a0, _⟩ | ⟨a0, _⟩
          · exact ⟨a1, a2⟩
          · cases a0
          · cases a0
        subst g2
        refine iteT ⟨_, rfl, _, rfl, _, _, rfl, rfl, _, rfl, ?_⟩
        rw [decide_eq_true (by omega : (run : Int) < f')]
        exact iteT ⟨_, rfl, _, rfl, rfl, bl_t rfl (q _ s5)⟩
      | false =>
        refine iteF ⟨_, rfl, _, _, rfl, rfl, _, rfl, ?_⟩
        rcases hg with ⟨a0, _⟩ | ⟨_, a1, a2, a3⟩ | ⟨_, a1, j, j1, a2⟩
        · cases a0
        · have a1 : 1 ≤ run := a1
          have a2 : run ≤ r - 1 := a2
          have a3 : wait = i := a3
          subst a3
          have := R.r1
          rw [decide_eq_true (by omega : (run : Int) > 0)]
          refine iteT ⟨_, rfl, _, rfl, _, _, rfl, rfl, _, rfl, ?_⟩
          rw [decide_eq_true (by omega : (run : Int) < r)]
          exact iteT ⟨_, rfl, _, rfl, rfl, bl_t rfl (q _ s5)⟩
        · have a1 : run = 0 := a1
          have a2 : wait = min (i * 2 ^ j) m := a2
          subst a1 a2
          refine iteF ⟨_, rfl, _, rfl, a, r, f', i, m, rfl, R.to s5, fun L k H6 k1 k2 s6 h6 => ?_⟩
          refine ⟨L, _, rfl, .inl (SqL.of h6), rfl, flat_ints _, ?_⟩
          rw [inV_ints (dbl_mem k2 k1 j1)]
          exact q _ (s5.trans s6)
end
end Ag

end
/-! ## M3 -/
section
set_option linter.all false
set_option maxRecDepth 100000
namespace Ag
open PySem PySem.Spec PyProof.Rows L2
/-- a mark stands at b -/
structure Mrk (r f i m : Nat) (s : Bool × Nat × Nat) (due : Int) (b : Addr) (H : Hp) : Prop where
  at_ : H b = some (.tup [.bl s.1, .int s.2.1, .int s.2.2, .int due])
  ok : Mk.Good r f i m s
  le : (s.2.2 : Int) ≤ due
theorem Mrk.to {r f i m : Nat} {s : Bool × Nat × Nat} {due : Int} {b : Addr} {H H' : Hp} (M : Mrk r f i m s due b H) (sm : Same H H') : Mrk r f i m s due b H' := ⟨sm _ _ M.at_, M.ok, M.le⟩
section
variable {P : Program} {w : World} {K : PySem.W.Frag} {mg : Str → Option Value} {base : Heap} {tr : Tok}
def spNew : Sp := fun vs H Q _ => ∃ a r f i m, vs = [.ref a] ∧ Rl r f i m a H ∧ ∀ t H', Same H H' → H' t = some (.tup [.bl true, .int 0, .int i, .int i]) → Q (.ref t) H'
theorem ok_new {f f1 : Addr} {fd fd1 : FuncData} (F : Fn K mg "new_mark" s_new_mark ["rule"] f fd) (B : Con mg tr)
    (F_is_health_rule : Fn K mg "is_health_rule" s_is_health_rule ["thing"] f1 fd1) (G_is_health_rule : FnOk P w K mg base CX0 2 f1 fd1 ["thing"] spRule) : FnOk P w K mg base CX0 3 f fd ["rule"] spNew := by
  refine F.F.ok sc_new_mark (fun vs H Q E h => ?_) (fun cdv A outer s H vs Q E hr h => ?_)
  · obtain ⟨a, r, f', i, m, rfl, _⟩ := h
    rfl
  · obtain ⟨a, r, f', i, m, rfl, R, q⟩ := h
    refine ⟨_, (pss_cons (ps_if (pt_not (pt_val (pe_call G_is_health_rule (hr.mono (by decide)) (by rfl) F_is_health_rule.g F_is_health_rule.F.kp F_is_health_rule.b .nil pass0 (pa_cons (pv 0) pa_nil))))
      (pss_one ps_never)
      pss_nil)
      (pss_cons (ps_asg (pv 0) (pg_tup rfl (pgs_cons (pg_name (i := 1) sc_new_mark.nd rfl (Or.inl rfl)) (pgs_cons (pg_name (i := 1) sc_new_mark.nd rfl (Or.inl rfl)) (pgs_cons (pg_name (i := 2) sc_new_mark.nd rfl (Or.inl rfl)) (pgs_cons (pg_name (i := 1) sc_new_mark.nd rfl (Or.inl rfl)) pgs_nil))))))
      (pss_one (ps_ret (pe_tup (pa_cons pe_bl (pa_cons pe_int (pa_cons (pv 2) (pa_cons (pv 2) pa_nil))))))))), ?_⟩
    refine ⟨_, rfl, a, r, f', i, m, rfl, R, fun H1 s1 => ⟨_, rfl, iteF ?_⟩⟩
    refine ⟨_, rfl, a, _, rfl, SqT.of (s1 _ _ R.at_), rfl, _, _, rfl, _, _, rfl, _, _, rfl, _, _, rfl, rfl, ?_⟩
    refine ⟨_, rfl, _, rfl, sz (by show 4 ≤ 16000000; decide), fun t ht => ?_⟩
    exact q t _ (s1.trans (same_new ht)) upd_same
def spLooked : Sp := fun vs H Q _ => ∃ a b r f i m s g, ∃ due now : Int, vs = [.ref a, .ref b, .bl g, .int now] ∧ Rl r f i m a H ∧ Mrk r f i m s due b H ∧ 0 ≤ now ∧
  ∀ t H', Same H H' → Mrk r f i m (Mk.mstep r f i m s g) (now + (Mk.mstep r f i m s g).2.2) t H' → Q (.ref t) H'
set_option maxHeartbeats 4000000 in
theorem ok_looked {f f1 f2 : Addr} {fd fd1 fd2 : FuncData} (F : Fn K mg "looked" s_looked ["rule", "mark", "is_good", "now"] f fd) (B : Con mg tr)
    (F_is_mark : Fn K mg "is_mark" s_is_mark ["rule", "thing"] f1 fd1) (G_is_mark : FnOk P w K mg base CX0 3 f1 fd1 ["rule", "thing"] spMark)
    (F_is_integer : Fn K mg "is_integer" s_is_integer ["thing"] f2 fd2) (G_is_integer : FnOk P w K mg base CX0 1 f2 fd2 ["thing"] spInteger) : FnOk P w K mg base CX0 4 f fd ["rule", "mark", "is_good", "now"] spLooked := by
  refine F.F.ok sc_looked (fun vs H Q E h => ?_) (fun cdv A outer s H vs Q E hr h => ?_)
  · obtain ⟨a, b, r, f', i, m, u, g, due, now, rfl, _⟩ := h
    rfl
  · obtain ⟨a, b, r, f', i, m, ⟨u, run, wait⟩, g, due, now, rfl, R, M, hn, q⟩ := h
    refine ⟨_, (pss_cons (ps_if (pt_not (pt_val (pe_call G_is_mark (hr.mono (by decide)) (by rfl) F_is_mark.g F_is_mark.F.kp F_is_mark.b .nil pass0 (pa_cons (pv 0) (pa_cons (pv 1) pa_nil)))))
      (pss_one ps_never)
      pss_nil)
      (pss_cons (ps_if (pt_not (pt_val (pe_callB call_isi (by rfl) B.n_isinstance (by decide +kernel) (pa_cons (pv 2) (pa_cons (pe_bltn (v := .ty "bool") (by rfl) B.n_bool (by decide +kernel) rfl) pa_nil)))))
      (pss_one ps_never)
      pss_nil)
      (pss_cons (ps_if (PW.pt (pw_or (pt_not (pt_val (pe_call G_is_integer (hr.mono (by decide)) (by rfl) F_is_integer.g F_is_integer.F.kp F_is_integer.b .nil pass0 (pa_cons (pv 3) pa_nil)))) (pw_or1 (pt_cmpR op_lt (pv 3) pe_int (nomark _)))))
      (pss_one ps_never)
      pss_nil)
      (pss_cons (ps_asg (pv 0) (pg_tup rfl (pgs_cons (pg_name (i := 4) sc_looked.nd rfl (Or.inl rfl)) (pgs_cons (pg_name (i := 5) sc_looked.nd rfl (Or.inl rfl)) (pgs_cons (pg_name (i := 6) sc_looked.nd rfl (Or.inl rfl)) (pgs_cons (pg_name (i := 7) sc_looked.nd rfl (Or.inl rfl)) pgs_nil))))))
      (pss_cons (ps_asg (pv 1) (pg_tup rfl (pgs_cons (pg_name (i := 8) sc_looked.nd rfl (Or.inl rfl)) (pgs_cons (pg_name (i := 9) sc_looked.nd rfl (Or.inl rfl)) (pgs_cons (pg_name (i := 10) sc_looked.nd rfl (Or.inl rfl)) (pgs_cons (pg_name (i := 11) sc_looked.nd rfl (Or.inl rfl)) pgs_nil))))))
      (pss_cons (ps_set (i := 9) sc_looked.nd rfl (.inl rfl) (pe_ifExp (pt_cmpR op_eq (pv 2) (pv 8) (nomark _)) pe_int (pe_op op_add (pv 9) pe_int)))
      (C8.pss_cut (ps_if (pt_cmpR op_eq (pv 9) (pe_ifExp (pt_val (pv 8)) (pv 5) (pv 4)) (nomark _))
      (pss_one (ps_par (i := 8) (j := 9) (by rfl) sc_looked.nd rfl rfl (by decide) rfl rfl (pa_cons (pe_not (pv 8)) (pa_cons pe_int pa_nil)) (by rfl)))
      pss_nil)
      (pss_cons (ps_set (i := 10) sc_looked.nd rfl (.inl rfl) (pe_ifExp (PW.pt (pw_or (pt_val (pv 2)) (pw_or1 (pt_val (pv 8))))) (pv 6) (pe_callB (call_min2 rfl) (by rfl) B.n_min (by decide +kernel) (pa_cons (pe_op op_mul pe_int (pv 10)) (pa_cons (pv 7) pa_nil)))))
      (pss_one (ps_ret (pe_tup (pa_cons (pv 8) (pa_cons (pv 9) (pa_cons (pv 10) (pa_cons (pe_op op_add (pv 3) (pv 10)) pa_nil))))))))))))))), ?_⟩
    refine ⟨_, rfl, _, rfl, a, b, r, f', i, m, u, run, wait, due, rfl, R, M.at_, M.ok, M.le, fun H1 s1 => ⟨_, rfl, iteF ?_⟩⟩
    refine ⟨_, rfl, .bl g, .ty "bool", _, _, true, rfl, .ty "bool", .base (.bl g), kit_ty (by decide +kernel), _, rfl, iteF ?_⟩
    refine ⟨_, rfl, now, rfl, _, rfl, iteF ⟨_, rfl, _, _, rfl, rfl, _, rfl, ?_⟩⟩
    rw [decide_eq_false (by omega : ¬ (now < 0))]
    refine iteF ?_
    refine ⟨_, rfl, a, _, rfl, SqT.of (s1 _ _ R.at_), rfl, _, _, rfl, _, _, rfl, _, _, rfl, _, _, rfl, rfl, ?_⟩
    refine ⟨_, rfl, b, _, rfl, SqT.of (s1 _ _ M.at_), rfl, _, _, rfl, _, _, rfl, _, _, rfl, _, _, rfl, rfl, ?_⟩
    have fin : ∀ (u' : Bool) (run' wait' : Nat), Mk.mstep r f' i m (u, run, wait) g = (u', run', wait') → ∀ t, H1 t = none → Q (.ref t) (upd H1 t (.tup [.bl u', .int run', .int wait', .int (now + wait')])) := by
      intro u' run' wait' e t ht
      have hok := Mk.good_step r f' i m R.r1 R.f1 R.im M.ok g
      rw [e] at hok q
      refine q t _ (s1.trans (same_new ht)) ⟨upd_same, hok, ?_⟩
      show (wait' : Int) ≤ now + wait'
      omega
    have r1 := R.r1
    have f1 := R.f1
    cases g <;> cases u
    · -- g = false, u = false
      refine ⟨_, rfl, _, rfl, rfl, _, rfl, iteT ?_⟩
      refine ⟨fun σ H' => H' = H1 ∧ σ = [some (.ref a), some (.ref b), some (.bl false), some (.int now), some (.int r), some (.int f'), some (.int i), some (.int m), some (.bl false), some (.int 0), some (.int wait), some (.int due)], ?_, ?_⟩
      · refine ⟨_, rfl, _, rfl, _, rfl, iteF ⟨_, rfl, rfl, _, rfl, ?_⟩⟩
        refine ite2 (fun z => ?_) (fun _ => ⟨rfl, rfl⟩)
        have z := of_decide_eq_true z
        have z : (0 : Int) = (r : Nat) := V.int.inj z
        omega
      · rintro σ H' ⟨rfl, rfl⟩
        refine ⟨_, rfl, false, rfl, iteF ⟨_, rfl, false, rfl, iteF ⟨_, rfl, _, _, rfl, rfl, .inl ⟨by decide, by decide⟩, _, rfl, _, _, rfl, ?_⟩⟩⟩
        rw [min_of rfl rfl]
        refine ⟨_, rfl, _, rfl, _, rfl, _, rfl, _, rfl, _, _, rfl, rfl, sz (by show 4 ≤ 16000000; decide), fun t ht => ?_⟩
        exact fin false 0 _ (by simp [Mk.mstep]) t ht
    · -- g = false, u = true
      refine ⟨_, rfl, _, rfl, rfl, _, rfl, iteF ⟨_, rfl, _, _, rfl, rfl, ?_⟩⟩
      refine ⟨fun σ H' => H' = H1 ∧ ((run + 1 = f' ∧ σ = [some (.ref a), some (.ref b), some (.bl false), some (.int now), some (.int r), some (.int f'), some (.int i), some (.int m), some (.bl false), some (.int 0), some (.int wait), some (.int due)]) ∨ (¬ run + 1 = f' ∧ σ = [some (.ref a), some (.ref b), some (.bl false), some (.int now), some (.int r), some (.int f'), some (.int i), some (.int m), some (.bl true), some (.int ((run + 1 : Nat))), some (.int wait), some (.int due)])), ?_, ?_⟩
      · refine ⟨_, rfl, _, rfl, _, rfl, iteT ⟨_, rfl, rfl, _, rfl, ?_⟩⟩
        refine ite2 (fun z => ?_) (fun z => ?_)
        · have z := of_decide_eq_true z
          have z : (run : Int) + 1 = (f' : Nat) := V.int.inj z
          exact ⟨_, rfl, _, rfl, _, _, rfl, rfl, .inl ⟨by omega, rfl⟩⟩
        · refine ⟨rfl, .inr ⟨fun y => z (decide_eq_true ?_), rfl⟩⟩
          show V.int ((run : Int) + 1) = .int (f' : Nat)
          rw [← y]
          rfl
      · rintro σ H' ⟨rfl, ⟨e, rfl⟩ | ⟨e, rfl⟩⟩
        · refine ⟨_, rfl, false, rfl, iteF ⟨_, rfl, false, rfl, iteF ⟨_, rfl, _, _, rfl, rfl, .inl ⟨by decide, by decide⟩, _, rfl, _, _, rfl, ?_⟩⟩⟩
          rw [min_of rfl rfl]
          refine ⟨_, rfl, _, rfl, _, rfl, _, rfl, _, rfl, _, _, rfl, rfl, sz (by show 4 ≤ 16000000; decide), fun t ht => ?_⟩
          exact fin false 0 _ (by simp [Mk.mstep, Mk.manyN, e]) t ht
        · refine ⟨_, rfl, false, rfl, iteF ⟨_, rfl, true, rfl, iteT ⟨_, rfl, ?_⟩⟩⟩
          refine ⟨_, rfl, _, rfl, _, rfl, _, rfl, _, rfl, _, _, rfl, rfl, sz (by show 4 ≤ 16000000; decide), fun t ht => ?_⟩
          exact fin true (run + 1) i (by simp [Mk.mstep, Mk.manyN, e]) t ht
    · -- g = true, u = false
      refine ⟨_, rfl, _, rfl, rfl, _, rfl, iteF ⟨_, rfl, _, _, rfl, rfl, ?_⟩⟩
      refine ⟨fun σ H' => H' = H1 ∧ ((run + 1 = r ∧ σ = [some (.ref a), some (.ref b), some (.bl true), some (.int now), some (.int r), some (.int f'), some (.int i), some (.int m), some (.bl true), some (.int 0), some (.int wait), some (.int due)]) ∨ (¬ run + 1 = r ∧ σ = [some (.ref a), some (.ref b), some (.bl true), some (.int now), some (.int r), some (.int f'), some (.int i), some (.int m), some (.bl false), some (.int ((run + 1 : Nat))), some (.int wait), some (.int due)])), ?_, ?_⟩
      · refine ⟨_, rfl, _, rfl, _, rfl, iteF ⟨_, rfl, rfl, _, rfl, ?_⟩⟩
        refine ite2 (fun z => ?_) (fun z => ?_)
        · have z := of_decide_eq_true z
          have z : (run : Int) + 1 = (r : Nat) := V.int.inj z
          exact ⟨_, rfl, _, rfl, _, _, rfl, rfl, .inl ⟨by omega, rfl⟩⟩
        · refine ⟨rfl, .inr ⟨fun y => z (decide_eq_true ?_), rfl⟩⟩
          show V.int ((run : Int) + 1) = .int (r : Nat)
          rw [← y]
          rfl
      · rintro σ H' ⟨rfl, ⟨e, rfl⟩ | ⟨e, rfl⟩⟩
        · refine ⟨_, rfl, true, rfl, iteT (iteT ⟨_, rfl, ?_⟩)⟩
          refine ⟨_, rfl, _, rfl, _, rfl, _, rfl, _, rfl, _, _, rfl, rfl, sz (by show 4 ≤ 16000000; decide), fun t ht => ?_⟩
          exact fin true 0 i (by simp [Mk.mstep, Mk.manyN, e]) t ht
        · refine ⟨_, rfl, true, rfl, iteT (iteT ⟨_, rfl, ?_⟩)⟩
          refine ⟨_, rfl, _, rfl, _, rfl, _, rfl, _, rfl, _, _, rfl, rfl, sz (by show 4 ≤ 16000000; decide), fun t ht => ?_⟩
          exact fin false (run + 1) i (by simp [Mk.mstep, Mk.manyN, e]) t ht
    · -- g = true, u = true
      refine ⟨_, rfl, _, rfl, rfl, _, rfl, iteT ?_⟩
      refine ⟨fun σ H' => H' = H1 ∧ σ = [some (.ref a), some (.ref b), some (.bl true), some (.int now), some (.int r), some (.int f'), some (.int i), some (.int m), some (.bl true), some (.int 0), some (.int wait), some (.int due)], ?_, ?_⟩
      · refine ⟨_, rfl, _, rfl, _, rfl, iteT ⟨_, rfl, rfl, _, rfl, ?_⟩⟩
        refine ite2 (fun z => ?_) (fun _ => ⟨rfl, rfl⟩)
        have z := of_decide_eq_true z
        have z : (0 : Int) = (f' : Nat) := V.int.inj z
        omega
      · rintro σ H' ⟨rfl, rfl⟩
        refine ⟨_, rfl, true, rfl, iteT (iteT ⟨_, rfl, ?_⟩)⟩
        refine ⟨_, rfl, _, rfl, _, rfl, _, rfl, _, rfl, _, _, rfl, rfl, sz (by show 4 ≤ 16000000; decide), fun t ht => ?_⟩
        exact fin true 0 i (by simp [Mk.mstep]) t ht
def spDue : Sp := fun vs H Q _ => ∃ a b r f i m s, ∃ due now : Int, vs = [.ref a, .ref b, .int now] ∧ Rl r f i m a H ∧ Mrk r f i m s due b H ∧ 0 ≤ now ∧ ∀ H', Same H H' → Q (.bl (decide (due ≤ now))) H'
theorem ok_due {f f1 f2 : Addr} {fd fd1 fd2 : FuncData} (F : Fn K mg "is_due" s_is_due ["rule", "mark", "now"] f fd) (B : Con mg tr)
    (F_is_mark : Fn K mg "is_mark" s_is_mark ["rule", "thing"] f1 fd1) (G_is_mark : FnOk P w K mg base CX0 3 f1 fd1 ["rule", "thing"] spMark)
    (F_is_integer : Fn K mg "is_integer" s_is_integer ["thing"] f2 fd2) (G_is_integer : FnOk P w K mg base CX0 1 f2 fd2 ["thing"] spInteger) : FnOk P w K mg base CX0 4 f fd ["rule", "mark", "now"] spDue := by
  refine F.F.ok sc_is_due (fun vs H Q E h => ?_) (fun cdv A outer s H vs Q E hr h => ?_)
  · obtain ⟨a, b, r, f', i, m, u, due, now, rfl, _⟩ := h
    rfl
  · obtain ⟨a, b, r, f', i, m, ⟨u, run, wait⟩, due, now, rfl, R, M, hn, q⟩ := h
    refine ⟨_, (pss_cons (ps_if (pt_not (pt_val (pe_call G_is_mark (hr.mono (by decide)) (by rfl) F_is_mark.g F_is_mark.F.kp F_is_mark.b .nil pass0 (pa_cons (pv 0) (pa_cons (pv 1) pa_nil)))))
      (pss_one ps_never)
      pss_nil)
      (pss_cons (ps_if (PW.pt (pw_or (pt_not (pt_val (pe_call G_is_integer (hr.mono (by decide)) (by rfl) F_is_integer.g F_is_integer.F.kp F_is_integer.b .nil pass0 (pa_cons (pv 2) pa_nil)))) (pw_or1 (pt_cmpR op_lt (pv 2) pe_int (nomark _)))))
      (pss_one ps_never)
      pss_nil)
      (pss_one (ps_ret (pe_cmpR op_ge (pv 2) (pe_ix ix_tup (pv 1) pe_int (fun _ _ => rfl)) (nomark _)))))), ?_⟩
    refine ⟨_, rfl, _, rfl, a, b, r, f', i, m, u, run, wait, due, rfl, R, M.at_, M.ok, M.le, fun H1 s1 => ⟨_, rfl, iteF ?_⟩⟩
    refine ⟨_, rfl, now, rfl, _, rfl, iteF ⟨_, rfl, _, _, rfl, rfl, _, rfl, ?_⟩⟩
    rw [decide_eq_false (by omega : ¬ (now < 0))]
    refine iteF ?_
    exact ⟨_, rfl, _, rfl, b, _, _, _, rfl, rfl, SqT.of (s1 _ _ M.at_), rfl, _, _, rfl, rfl, q _ s1⟩
end
end Ag

end
/-! ## M4 -/
section
set_option linter.all false
set_option maxRecDepth 100000
set_option maxHeartbeats 4000000
namespace Ag
open PySem PySem.Spec PyProof.Rows L2
open SX (S S_len S_cat S_inj)
/-! ### the deck of draws -/
def kC : Key := Sum.inr (Str.ofString "left")
def kM : Key := Sum.inr (Str.ofString "mixed")
def kT : Key := Sum.inr (Str.ofString "draws")
def dkL (c : Addr) (m t : Int) : List (Key × V) := [(kC, .ref c), (kM, .int m), (kT, .int t)]
theorem nCM : ¬ kC = kM := by decide +kernel
theorem nCT : ¬ kC = kT := by decide +kernel
theorem nMT : ¬ kM = kT := by decide +kernel
section
variable {c : Addr} {m t u : Int}
theorem v_C : valV (dkL c m t) kC = some (.ref c) := valV_pos rfl
theorem v_M : valV (dkL c m t) kM = some (.int m) := (valV_neg nCM).trans (valV_pos rfl)
theorem v_T : valV (dkL c m t) kT = some (.int t) := (valV_neg nCT).trans ((valV_neg nMT).trans (valV_pos rfl))
theorem put_T : putK (dkL c m t) kT (.int u) = dkL c m u := by
  unfold putK dkL
  simp [nCT, nMT]
theorem merge_d : mergeK [] (dkL c m t) = dkL c m t := by
  unfold mergeK dkL putK
  simp [nCM, nCT, nMT]
end
/-- a deck stands at p, its cells at c -/
def Dk (p c : Addr) (H : Hp) : Prop := ∃ (m t : Int) (cs : List Int), H p = some (.dK (dkL c m t)) ∧ H c = some (.lst (cs.map V.int)) ∧ cs.length ≤ 63
/-- all but the deck is as it was, and the deck is one -/
def Gx (p c : Addr) (H H' : Hp) : Prop := (∀ b o, b ≠ p → b ≠ c → H b = some o → H' b = some o) ∧ Dk p c H'
theorem Gx.refl {p c : Addr} {H : Hp} (d : Dk p c H) : Gx p c H H := ⟨fun _ _ _ _ e => e, d⟩
theorem Gx.trans {p c : Addr} {H H1 H2 : Hp} (a : Gx p c H H1) (b : Gx p c H1 H2) : Gx p c H H2 := ⟨fun x o h1 h2 e => b.1 x o h1 h2 (a.1 x o h1 h2 e), b.2⟩
theorem Dk.same {p c : Addr} {H H' : Hp} (d : Dk p c H) (s : Same H H') : Dk p c H' := by
  obtain ⟨m, t, cs, h1, h2, h3⟩ := d
  exact ⟨m, t, cs, s _ _ h1, s _ _ h2, h3⟩
theorem Gx.same {p c : Addr} {H H' : Hp} (d : Dk p c H) (s : Same H H') : Gx p c H H' := ⟨fun b o _ _ e => s b o e, d.same s⟩
theorem Dk.ne {p c q : Addr} {H : Hp} (d : Dk p c H) (h : H q = none) : q ≠ p ∧ q ≠ c := by
  obtain ⟨m, t, cs, h1, h2, _⟩ := d
  exact ⟨(ne_of_none h1 h).symm, (ne_of_none h2 h).symm⟩
theorem Gx.free {p c q : Addr} {H H' : Hp} (g : Gx p c H H') (d : Dk p c H) (h : H' q = none) : H q = none := by
  cases e : H q with
  | none => rfl
  | some o =>
    have n := g.2.ne h
    have := g.1 q o n.1 n.2 e
    rw [h] at this
    cases this
/-- an object that the deck is not -/
def At (p c : Addr) (H : Hp) (a : Addr) (o : HO) : Prop := a ≠ p ∧ a ≠ c ∧ H a = some o
theorem At.gx {p c a : Addr} {H H' : Hp} {o : HO} (h : At p c H a o) (g : Gx p c H H') : At p c H' a o := ⟨h.1, h.2.1, g.1 a o h.1 h.2.1 h.2.2⟩
theorem At.new {p c a : Addr} {H : Hp} {o : HO} (d : Dk p c H) (h : H a = none) : At p c (upd H a o) a o := ⟨(d.ne h).1, (d.ne h).2, upd_same⟩
theorem Gx.new {p c a : Addr} {H : Hp} {o : HO} (d : Dk p c H) (h : H a = none) : Gx p c H (upd H a o) := Gx.same d (same_new h)
/-- a list's own change -/
theorem Gx.put {p c a : Addr} {H H' : Hp} {o : HO} (g : Gx p c H H') (d : Dk p c H) (h : H a = none) (n : a ≠ p ∧ a ≠ c) : Gx p c H (upd H' a o) := by
  refine ⟨fun b u h1 h2 e => ?_, ?_⟩
  · rw [upd_ne (ne_of_none e h)]
    exact g.1 b u h1 h2 e
  · obtain ⟨m, t, cs, h1, h2, h3⟩ := g.2
    exact ⟨m, t, cs, by rw [upd_ne n.1.symm]; exact h1, by rw [upd_ne n.2.symm]; exact h2, h3⟩
theorem cutV63 {ns : List Int} (h : ns.length ≤ 63) : cutV (ns.map V.int) none (some 63) = ns.map V.int := by
  unfold cutV
  rw [HT.sIx_none, show HT.sIx (ns.map V.int).length (ns.map V.int).length (some 63) = min 63 (ns.map V.int).length from HT.sIx_nat _ _ 63, List.drop_zero, List.take_of_length_le]
  rw [List.length_map]
  omega
section
variable {P : Program} {w : World} {K : PySem.W.Frag} {mg : Str → Option Value} {base : Heap} 
def spDeck (K : PySem.W.Frag) : Sp := fun vs H Q _ => ∃ (a : Addr) (ns : List Int), vs = [.ref a] ∧ SqL K H a (ns.map V.int) ∧ ns.length ≤ 63 ∧ ∀ p c H', H p = none → H c = none → Same H H' → Dk p c H' → Q (.ref p) H'
theorem ints_all {ns : List Int} {xs : List V} (hl : xs.length = ns.length) (h : ∀ (i : Nat) (y : V), xs[i]? = some y → ∃ z, ns[i]? = some z ∧ y = V.int z) : xs = ns.map V.int := by
  refine List.ext_getElem? fun i => ?_
  rw [List.getElem?_map]
  cases e : xs[i]? with
  | none =>
    have h1 := List.getElem?_eq_none_iff.mp e
    have h2 : ns[i]? = none := List.getElem?_eq_none_iff.mpr (by omega)
    rw [h2]
    rfl
  | some y =>
    obtain ⟨z, hz, rfl⟩ := h i y e
    rw [hz]
    rfl
theorem int_at {ns : List Int} {i : Nat} {x : V} (h : (ns.map V.int)[i]? = some x) : ∃ z, ns[i]? = some z ∧ x = V.int z := by
  rw [List.getElem?_map] at h
  cases e : ns[i]? with
  | none => rw [e] at h; cases h
  | some z =>
    rw [e] at h
    exact ⟨z, rfl, (Option.some.inj h).symm⟩
theorem ok_deck {f : Addr} {fd : FuncData} (F : Fn K mg "_law_deck" s__law_deck ["_law_script"] f fd) (B : Blt mg) : FnOk P w K mg base CX0 1 f fd ["_law_script"] (spDeck K) := by
  refine F.F.ok sc__law_deck (fun vs H Q E h => ?_) (fun cdv A outer s H vs Q E hr h => ?_)
  · obtain ⟨a, ns, rfl, _⟩ := h
    rfl
  · obtain ⟨a, ns, rfl, hS, hlen, q⟩ := h
    refine ⟨_, (pss_cons (ps_set (i := 1) sc__law_deck.nd rfl (.inl rfl) pe_int)
      (pss_cons (ps_for PassesOwn.never rfl (pi_list (pe_slice sl_list (pv 0) po_none (po_some pe_int))) (pg_name (i := 2) sc__law_deck.nd rfl (Or.inl rfl))
      (pss_one (ps_set (i := 1) sc__law_deck.nd rfl (.inl rfl) (pe_op op_mod (pe_callTy call_int1 (by rfl) B.n_int (by decide +kernel) (pa_cons (pe_op op_add (pe_op op_add (pe_op op_mul (pv 1) pe_int) (pe_op op_mod (pe_callTy call_int1 (by rfl) B.n_int (by decide +kernel) (pa_cons (pv 2) pa_nil)) pe_int)) pe_int) pa_nil)) pe_int))))
      (pss_one (ps_ret (pe_disp (pps_cons pe_str (pe_revL (pe_callTy call_list_of (by rfl) B.n_list (by decide +kernel) (pa_cons (pe_slice sl_list (pv 0) po_none (po_some pe_int)) pa_nil))) (pps_cons pe_str (pv 1) (pps_cons pe_str pe_int pps_nil))) (by rfl) (by rfl) (fun z => by cases z) (by decide)))))), ?_⟩
    have c63 := cutV63 hlen
    -- the mixed number
    refine ⟨_, rfl, 63, rfl, a, _, rfl, hS, fun u hu => ?_⟩
    rw [c63]
    refine ⟨u, rfl, ⟨_, SqL.of upd_same⟩, ?_⟩
    refine for_list (K := K) (a := u) (xs := ns.map V.int) (fun i σ H2 => ∃ (m : Int) (x : Option V), σ = [some (.ref a), some (.int m), x] ∧ Same H H2 ∧ H2 u = some (.lst (ns.map V.int))) ⟨_, none, rfl, same_new hu, upd_same⟩ (fun i σ H2 _ z => ?_) ?_ ?_
    · obtain ⟨_, _, _, _, e⟩ := z
      exact SqL.of e
    · rintro i x σ H2 hx ⟨m, y, rfl, sm, e⟩
      obtain ⟨z, _, rfl⟩ := int_at hx
      refine ⟨_, rfl, _, _, rfl, rfl, .inr ⟨by decide, by decide⟩, ?_⟩
      refine ⟨_, rfl, .inl ⟨z, rfl, _, _, rfl, rfl, (by show (0 : Int) < 2147483587; decide), _, _, rfl, rfl, _, _, rfl, rfl, .inl ⟨_, rfl, _, _, rfl, rfl, (by show (0 : Int) < 2147483629; decide), ?_⟩⟩⟩
      exact ⟨_, _, rfl, sm, e⟩
    · rintro σ H2 ⟨m, x, rfl, sm, e⟩
      -- the dict
      intro p hp
      have nHp : H p = none := sm.free hp
      have sm2 : Same H (upd H2 p (.dK [])) := sm.trans (same_new hp)
      refine ⟨_, rfl, 63, rfl, a, _, rfl, sm2.seq hS, fun v hv => ?_⟩
      rw [c63]
      have npv : p ≠ v := fun z => by rw [← z, upd_same] at hv; cases hv
      have sm3 := sm2.trans (same_new (o := .lst (ns.map V.int)) hv)
      have p3 : upd (upd H2 p (.dK [])) v (.lst (ns.map V.int)) p = some (.dK []) := by rw [upd_ne npv, upd_same]
      refine ⟨v, _, rfl, .inl (SqL.of upd_same), fun D hD => ?_⟩
      generalize upd (upd H2 p (.dK [])) v (.lst (ns.map V.int)) = H3 at sm3 p3 hD ⊢
      have nDp : p ≠ D := ne_of_none p3 hD
      refine ⟨D, _, rfl, SqL.of upd_same, fun R hR => ?_⟩
      have sm4 := sm3.trans (same_new (o := .lst (ns.map V.int)) hD)
      have p4 : upd H3 D (.lst (ns.map V.int)) p = some (.dK []) := by rw [upd_ne nDp]; exact p3
      generalize upd H3 D (.lst (ns.map V.int)) = H4 at sm4 p4 hR ⊢
      have hRp : p ≠ R := ne_of_none p4 hR
      refine ⟨_, rfl, ?_⟩
      refine ⟨by rw [upd_ne hRp]; exact p4, dkL R m 0, rfl, by show 3 ≤ 15; decide, ?_⟩
      rw [merge_d]
      have nR : H R = none := sm4.free hR
      refine q p R _ nHp nR (fun b o e => ?_) ⟨m, 0, ns.reverse, upd_same, ?_, by rw [List.length_reverse]; exact hlen⟩
      · rw [upd_ne (ne_of_none e nHp), upd_ne (ne_of_none e nR)]
        exact sm4 b o e
      · rw [upd_ne hRp.symm, upd_same, List.map_reverse]
end
theorem dpIntsG {K : PySem.W.Frag} {H : Hp} : ∀ cs : List Int, DpAll K H (cs.map V.int) (cs.map PyData.int)
  | [] => .nil
  | c :: cs => .cons (.int c) (dpIntsG cs)
theorem lay_ints : ∀ cs : List Int, PyData.canLayAll0 (cs.map PyData.int) = true
  | [] => by simp [PyData.canLayAll0]
  | c :: cs => by simp [PyData.canLayAll0, PyData.canLay0, lay_ints cs]
theorem depth_ints : ∀ cs : List Int, PyData.depthAll (cs.map PyData.int) = 0
  | [] => by simp [PyData.depthAll]
  | c :: cs => by simp [PyData.depthAll, PyData.depth, depth_ints cs]
theorem shaped_ints (cs : List Int) : SeqAt.shaped (.list (cs.map PyData.int)) = true := by
  simp [SeqAt.shaped, PyData.canLay0, PyData.depth, lay_ints, depth_ints]
theorem dget {H : Hp} {a : Addr} {kvs : List (Key × V)} {k : Key} {v : V} (e : H a = some (.dK kvs)) (h : valV kvs k = some v) : DGet H a (kV k) (some v) := h ▸ DGet.k e
theorem ne_nil_ints (cs : List Int) : (!PyData.eqv (.list (cs.map PyData.int)) (.list [])) = decide (cs ≠ []) := by
  cases cs <;> simp [PyData.eqv, PyData.eqvAll]
section
variable {P : Program} {w : World} {K : PySem.W.Frag} {mg : Str → Option Value} {base : Heap} 
def spDraw : Sp := fun vs H Q _ => ∃ (p c : Addr) (n : Int), vs = [.ref p, .int n] ∧ Dk p c H ∧ 1 ≤ n ∧ n ≤ 1000000000 ∧ ∀ (r : Nat) H', (r : Int) < n → Gx p c H H' → Q (.int (r : Int)) H'
theorem nat_mod {x n : Int} (h : 1 ≤ n) : ∃ r : Nat, x % n = (r : Int) ∧ (r : Int) < n := by
  refine ⟨(x % n).toNat, ?_, ?_⟩
  · have := Int.emod_nonneg x (by omega : n ≠ 0)
    omega
  · have h1 := Int.emod_nonneg x (by omega : n ≠ 0)
    have h2 := Int.emod_lt_of_pos x (by omega : 0 < n)
    omega
theorem ok_draw {f : Addr} {fd : FuncData} (F : Fn K mg "_law_draw" s__law_draw ["_law_deck_here", "_law_many"] f fd) (B : Blt mg) : FnOk P w K mg base CX0 1 f fd ["_law_deck_here", "_law_many"] spDraw := by
  refine F.F.ok sc__law_draw (fun vs H Q E h => ?_) (fun cdv A outer s H vs Q E hr h => ?_)
  · obtain ⟨p, c, n, rfl, _⟩ := h
    rfl
  · obtain ⟨p, c, n, rfl, dk, n1, n2, q⟩ := h
    have hu := hu_of hr
    refine ⟨_, (pss_cons (ps_dput hu (pv 0) pe_str (pe_op op_add (pe_dget hu (pv 0) pe_str (fun _ _ => rfl)) pe_int) rfl)
      (pss_cons (ps_set (i := 2) sc__law_draw.nd rfl (.inl rfl) (pe_op op_add (pe_dget hu (pv 0) pe_str (fun _ _ => rfl)) (pe_op op_mul pe_int (pe_dget hu (pv 0) pe_str (fun _ _ => rfl)))))
      (C8.pss_cut (ps_if (pt_cmpR (op_neD hr.units) (pe_dget hu (pv 0) pe_str (fun _ _ => rfl)) (pe_lst pa_nil) (nomark _))
      (pss_cons (ps_set (i := 3) sc__law_draw.nd rfl (.inl rfl) (pe_bm0 PySem.F.plainAttrs_list PySem.F.slot_list_pop PySem.F.type_list_pop mt_pop (pe_dget hu (pv 0) pe_str (fun _ _ => rfl))))
        (pss_cons (ps_if (pt_cmpR op_ge (pv 3) (pe_op op_pow pe_int pe_int) (nomark _))
        (pss_cons (ps_expr (pe_bm PySem.F.plainAttrs_list PySem.F.slot_list_append PySem.F.type_list_append mt_append (pe_dget hu (pv 0) pe_str (fun _ _ => rfl)) (pa_cons (pe_op op_fdiv (pv 3) (pe_callB (call_max2 rfl) (by rfl) B.n_max (by decide +kernel) (pa_cons pe_int (pa_cons (pv 1) pa_nil)))) pa_nil)))
          (pss_one (ps_ret (pe_op op_mod (pe_callTy call_int1 (by rfl) B.n_int (by decide +kernel) (pa_cons (pv 3) pa_nil)) (pv 1)))))
        pss_nil)
        (pss_one (ps_set (i := 2) sc__law_draw.nd rfl (.inl rfl) (pe_op op_add (pv 2) (pe_op op_mod (pe_callTy call_int1 (by rfl) B.n_int (by decide +kernel) (pa_cons (pv 3) pa_nil)) pe_int))))))
      pss_nil)
      (pss_cons (ps_set (i := 2) sc__law_draw.nd rfl (.inl rfl) (pe_op op_mod (pe_callTy call_int1 (by rfl) B.n_int (by decide +kernel) (pa_cons (pe_op op_add (pe_op op_mul (pv 2) pe_int) pe_int) pa_nil)) pe_int))
      (pss_cons (ps_set (i := 2) sc__law_draw.nd rfl (.inl rfl) (pe_op op_mod (pe_callTy call_int1 (by rfl) B.n_int (by decide +kernel) (pa_cons (pe_op op_add (pe_op op_add (pe_op op_mul (pv 2) (pv 2)) (pe_op op_mul pe_int (pe_dget hu (pv 0) pe_str (fun _ _ => rfl)))) pe_int) pa_nil)) pe_int))
      (pss_cons (ps_set (i := 2) sc__law_draw.nd rfl (.inl rfl) (pe_op op_mod (pe_callTy call_int1 (by rfl) B.n_int (by decide +kernel) (pa_cons (pe_op op_mul (pv 2) pe_int) pa_nil)) pe_int))
      (pss_one (ps_ret (pe_op op_mod (pe_callTy call_int1 (by rfl) B.n_int (by decide +kernel) (pa_cons (pe_op op_fdiv (pv 2) pe_int) pa_nil)) (pv 1)))))))))), ?_⟩
    obtain ⟨m, t, cs, h1, h2, h3⟩ := id dk
    have fin : ∀ (x : Int) (H2 : Hp), Gx p c H H2 → Q (.int (x % n)) H2 := by
      intro x H2 g
      obtain ⟨r, er, hr'⟩ := nat_mod (x := x) n1
      rw [er]
      exact q r H2 hr' g
    have npc : p ≠ c := ne_of h1 h2 (by intro z; cases z)
    -- turn
    refine ⟨_, rfl, p, _, rfl, dget (k := kT) h1 v_T, _, _, rfl, rfl, _, rfl, p, _, rfl, DPut.k (k := kT) h1 (by rw [sizeLine_eq]; show 3 < _; decide), ?_⟩
    rw [put_T]
    have g1 : Gx p c H (upd H p (.dK (dkL c m (t + 1)))) := ⟨fun b o b1 _ e => by rw [upd_ne b1]; exact e, ⟨m, t + 1, cs, upd_same, by rw [upd_ne npc.symm]; exact h2, h3⟩⟩
    generalize upd H p (.dK (dkL c m (t + 1))) = H1 at g1
    obtain ⟨m1, t1, cs1, k1, k2, k3⟩ := g1.2
    -- the figure
    refine ⟨_, rfl, p, _, rfl, dget (k := kM) k1 v_M, _, rfl, p, _, rfl, dget (k := kT) k1 v_T, _, _, rfl, rfl, .inl ⟨by decide, by decide⟩, _, _, rfl, rfl, ?_⟩
    refine ⟨fun σ H' => ∃ (fig : Int) (x3 : Option V), σ = [some (.ref p), some (.int n), some (.int fig), x3] ∧ Gx p c H H', ?_, ?_⟩
    · refine ⟨_, rfl, p, _, rfl, dget (k := kC) k1 v_C, Nat.zero_le _, fun z hz => ?_⟩
      have dk1 : Dk p c H1 := g1.2
      have nz := dk1.ne hz
      have k1' : upd H1 z (.lst []) p = some (.dK (dkL c m1 t1)) := by rw [upd_ne nz.1.symm]; exact k1
      have k2' : upd H1 z (.lst []) c = some (.lst (cs1.map V.int)) := by rw [upd_ne nz.2.symm]; exact k2
      have g2 : Gx p c H (upd H1 z (.lst [])) := g1.trans (Gx.new dk1 hz)
      refine ⟨.list (cs1.map .int), .list [], .lst (SqL.of k2') (dpIntsG cs1), .lst (SqL.of upd_same) .nil, shaped_ints cs1, shaped_ints [], _, rfl, ?_⟩
      rw [ne_nil_ints]
      refine ite2 (fun h => ?_) (fun h => ?_)
      · have hne : cs1 ≠ [] := of_decide_eq_true h
        obtain ⟨ini, cell, rfl⟩ : ∃ ini cell, cs1 = ini ++ [cell] := ⟨_, _, (List.dropLast_concat_getLast hne).symm⟩
        refine ⟨_, rfl, p, _, rfl, dget (k := kC) k1' v_C, .inl ⟨rfl, _, SqL.of k2'⟩, c, _, .int cell, rfl, rfl, k2', by simp, ?_⟩
        have ed : ((ini ++ [cell]).map V.int).dropLast = ini.map V.int := by simp
        rw [ed]
        rw [List.length_append, List.length_singleton] at k3
        have k1'' : upd (upd H1 z (.lst [])) c (.lst (ini.map V.int)) p = some (.dK (dkL c m1 t1)) := by rw [upd_ne npc]; exact k1'
        have putc : ∀ (xs : List Int) (H2 : Hp), (∀ b, b ≠ c → H2 b = upd H1 z (.lst []) b) → xs.length ≤ 63 → Gx p c H (upd H2 c (.lst (xs.map V.int))) := by
          intro xs H2 hb hx
          refine ⟨fun b o b1 b2 e => ?_, ⟨m1, t1, xs, ?_, upd_same, hx⟩⟩
          · rw [upd_ne b2, hb b b2]
            exact g2.1 b o b1 b2 e
          · rw [upd_ne npc, hb p npc]
            exact k1'
        refine ⟨_, rfl, _, _, rfl, rfl, ⟨by decide, by decide, by decide⟩, _, _, rfl, rfl, _, rfl, ?_⟩
        refine ite2 (fun h => ?_) (fun h => ?_)
        · refine ⟨_, rfl, p, _, rfl, dget (k := kC) k1'' v_C, .inl ⟨rfl, _, SqL.of upd_same⟩, _, rfl, _, rfl, 2, n, rfl, _, _, rfl, rfl, ?_, c, _, _, rfl, rfl, upd_same, ?_, ?_⟩
          · show (0 : Int) < (if n > 2 then n else 2) ∧ (if n > 2 then n else 2) < 1073741824
            split <;> omega
          · rw [List.length_map, sizeLine_eq]; omega
          refine ⟨_, rfl, .inl ⟨_, rfl, _, rfl, _, _, rfl, rfl, (by show (0 : Int) < n; omega), ?_⟩⟩
          refine fin cell _ ?_
          have e2 : ini.map V.int ++ [V.int (cell / (if n > 2 then n else 2))] = (ini ++ [cell / (if n > 2 then n else 2)]).map V.int := by simp
          show Gx p c H (upd _ c (.lst (ini.map V.int ++ [V.int (cell / (if n > 2 then n else 2))])))
          rw [e2]
          exact putc _ _ (fun b hb => by rw [upd_ne hb]) (by simp; omega)
        · refine ⟨_, rfl, _, rfl, .inl ⟨_, rfl, _, _, rfl, rfl, (by show (0 : Int) < 2147483587; decide), _, _, rfl, rfl, _, _, rfl, putc _ _ (fun b hb => rfl) (by omega)⟩⟩
      · exact ⟨_, _, rfl, g2⟩
    · rintro σ H2 ⟨fig, x3, rfl, g2⟩
      obtain ⟨m2, t2, cs2, j1, j2, j3⟩ := g2.2
      refine ⟨_, rfl, _, _, rfl, rfl, .inr ⟨by decide, by decide⟩, _, _, rfl, rfl, .inl ⟨_, rfl, _, _, rfl, rfl, (by show (0 : Int) < 2147483563; decide), ?_⟩⟩
      have b1 := Int.emod_nonneg (fig * 40014 + 22) (by decide : (2147483563 : Int) ≠ 0)
      have b2 := Int.emod_lt_of_pos (fig * 40014 + 22) (by decide : (0 : Int) < 2147483563)
      generalize (fig * 40014 + 22) % 2147483563 = f1 at b1 b2
      refine ⟨_, rfl, _, rfl, _, _, rfl, rfl, .inl ⟨by omega, by omega⟩, _, rfl, p, _, rfl, dget (k := kT) j1 v_T, _, _, rfl, rfl, .inl ⟨by decide, by decide⟩, _, _, rfl, rfl, _, _, rfl, rfl, .inl ⟨_, rfl, _, _, rfl, rfl, (by show (0 : Int) < 2147483399; decide), ?_⟩⟩
      refine ⟨_, rfl, _, _, rfl, rfl, .inr ⟨by decide, by decide⟩, .inl ⟨_, rfl, _, _, rfl, rfl, (by show (0 : Int) < 2147483647; decide), ?_⟩⟩
      refine ⟨_, rfl, _, _, rfl, rfl, ⟨by decide, by decide⟩, .inl ⟨_, rfl, _, rfl, _, _, rfl, rfl, (by show (0 : Int) < n; omega), ?_⟩⟩
      exact fin _ H2 g2
/-- _law_pick: any item of a list that the deck is not, any sign of a text -/
def spPick : Sp := fun vs H Q _ => ∃ (p c : Addr) (v : V), vs = [.ref p, v] ∧ Dk p c H ∧
  ((∃ (a : Addr) (xs : List V), v = .ref a ∧ At p c H a (.lst xs) ∧ 1 ≤ xs.length ∧ xs.length ≤ 100000 ∧ ∀ (r : Nat) x H', xs[r]? = some x → Gx p c H H' → Q x H') ∨
   ∃ z : List Nat, v = .str (S z) ∧ 1 ≤ z.length ∧ z.length ≤ 1000 ∧ ∀ (r : Nat) d H', z[r]? = some d → Gx p c H H' → Q (.str (S [d])) H')
theorem ok_pick {f f1 : Addr} {fd fd1 : FuncData} (F : Fn K mg "_law_pick" s__law_pick ["_law_deck_here", "_law_some"] f fd) (B : Blt mg) (F__law_draw : Fn K mg "_law_draw" s__law_draw ["_law_deck_here", "_law_many"] f1 fd1) :
    FnOk P w K mg base CX0 2 f fd ["_law_deck_here", "_law_some"] spPick := by
  have G__law_draw : FnOk P w K mg base CX0 1 f1 fd1 ["_law_deck_here", "_law_many"] spDraw := ok_draw F__law_draw B
  refine F.F.ok sc__law_pick (fun vs H Q E h => ?_) (fun cdv A outer s H vs Q E hr h => ?_)
  · obtain ⟨p, c, v, rfl, _⟩ := h
    rfl
  · obtain ⟨p, c, v, rfl, dk, h⟩ := h
    refine ⟨_, (pss_one (ps_ret (pe_ix ix_seq (pv 1) (pe_call G__law_draw (hr.mono (by decide)) (by rfl) F__law_draw.g F__law_draw.F.kp F__law_draw.b .nil pass0 (pa_cons (pv 0) (pa_cons (pe_callB call_len (by rfl) B.n_len PySem.boot_len (pa_cons (pv 1) pa_nil)) pa_nil))) (fun _ _ => rfl)))), ?_⟩
    rcases h with ⟨a, xs, rfl, ha, hl1, hl2, q⟩ | ⟨z, rfl, hl1, hl2, q⟩
    · refine ⟨_, rfl, _, rfl, _, rfl, .ref a, xs.length, rfl, .inl ⟨xs, SqL.of ha.2.2, rfl⟩, p, c, _, rfl, dk, by omega, by omega, fun r H' hr' g => ?_⟩
      have hlt : r < xs.length := by omega
      exact .inl ⟨a, xs, _, _, rfl, rfl, SqL.of (ha.gx g).2.2, atI_nat (List.getElem?_eq_getElem hlt), q r _ H' (List.getElem?_eq_getElem hlt) g⟩
    · refine ⟨_, rfl, _, rfl, _, rfl, .str (S z), z.length, rfl, ⟨sz (by rw [S_len]; omega), by rw [S_len]⟩, p, c, _, rfl, dk, by omega, by omega, fun r H' hr' g => ?_⟩
      have hlt : r < z.length := by omega
      have hz : (S z).cps.toList[r]? = some z[r] := List.getElem?_eq_getElem hlt
      exact .inr (.inr ⟨S z, _, _, rfl, rfl, sz (by rw [S_len]; omega), atI_nat hz, q r _ H' (List.getElem?_eq_getElem hlt) g⟩)
end
end Ag

end
/-! ## M5 -/
section
set_option linter.all false
set_option maxRecDepth 100000
namespace Ag
open PySem PySem.Spec PyProof.Rows L2
/-- looks at L -/
def ItA (H : Hp) (ts : List Addr) (lk : List (Bool × Int)) : Prop := ts.length = lk.length ∧ ∀ (j : Nat) (t : Addr), ts[j]? = some t → ∃ e : Bool × Int, lk[j]? = some e ∧ H t = some (.tup [.bl e.1, .int e.2])
def Lks (L : Addr) (ts : List Addr) (lk : List (Bool × Int)) (H : Hp) : Prop := H L = some (.lst (ts.map V.ref)) ∧ ItA H ts lk
theorem ItA.to {H H' : Hp} {ts : List Addr} {lk : List (Bool × Int)} (h : ItA H ts lk) (s : Same H H') : ItA H' ts lk := ⟨h.1, fun j t e => by
  obtain ⟨x, h1, h2⟩ := h.2 j t e
  exact ⟨x, h1, s _ _ h2⟩⟩
theorem Lks.to {L : Addr} {ts : List Addr} {H H' : Hp} {lk : List (Bool × Int)} (h : Lks L ts lk H) (s : Same H H') : Lks L ts lk H' := ⟨s _ _ h.1, h.2.to s⟩
theorem ItA.at_ {H : Hp} {ts : List Addr} {lk : List (Bool × Int)} (h : ItA H ts lk) {j : Nat} {y : V} (hy : (ts.map V.ref)[j]? = some y) : ∃ t e, y = .ref t ∧ ts[j]? = some t ∧ lk[j]? = some e ∧ H t = some (.tup [.bl e.1, .int e.2]) := by
  rw [List.getElem?_map] at hy
  cases e : ts[j]? with
  | none => rw [e] at hy; cases hy
  | some t =>
    rw [e] at hy
    obtain ⟨x, h1, h2⟩ := h.2 j t e
    exact ⟨t, x, (Option.some.inj hy).symm, rfl, h1, h2⟩
theorem ItA.cut {H : Hp} {ts : List Addr} {lk : List (Bool × Int)} (h : ItA H ts lk) (a b : Nat) : ItA H ((ts.drop a).take b) ((lk.drop a).take b) := by
  refine ⟨by simp [h.1], fun j t e => ?_⟩
  rw [List.getElem?_take] at e ⊢
  split at e
  · rename_i hj
    rw [if_pos hj]
    rw [List.getElem?_drop] at e ⊢
    exact h.2 _ _ e
  · cases e
theorem cut_V {xs : List V} {a b : Nat} (ha : a ≤ xs.length) (hb : b ≤ xs.length) : cutV xs (some (a : Int)) (some (b : Int)) = (xs.drop a).take (b - a) := by
  unfold cutV
  rw [sIx_at ha, sIx_at hb]
theorem cut_Vf {xs : List V} {a : Nat} (ha : a ≤ xs.length) : cutV xs (some (a : Int)) none = xs.drop a := by
  unfold cutV
  rw [sIx_at ha, HT.sIx_none, List.take_of_length_le]
  rw [List.length_drop]
  exact Nat.le_refl _
theorem dp_bls {K : PySem.W.Frag} {H : Hp} {α : Type} (b : Bool) : ∀ l : List α, DpAll K H (l.map fun _ => V.bl b) (l.map fun _ => PyData.bool b)
  | [] => .nil
  | _ :: l => .cons (.bl b) (dp_bls b l)
theorem lay_bls {α : Type} (b : Bool) : ∀ l : List α, PyData.canLayAll0 (l.map fun _ => PyData.bool b) = true ∧ PyData.depthAll (l.map fun _ => PyData.bool b) = 0
  | [] => by simp [PyData.canLayAll0, PyData.depthAll]
  | _ :: l => by
    obtain ⟨h1, h2⟩ := lay_bls b l
    simp [PyData.canLayAll0, PyData.canLay0, PyData.depthAll, PyData.depth, h1, h2]
theorem shaped_bls {α : Type} (b : Bool) (l : List α) : SeqAt.shaped (.list (l.map fun _ => PyData.bool b)) = true := by
  obtain ⟨h1, h2⟩ := lay_bls b l
  simp [SeqAt.shaped, PyData.canLay0, PyData.depth, h1, h2]
def lkD (e : Bool × Int) : PyData := .tuple [.bool e.1, .int e.2]
theorem dp_lks {K : PySem.W.Frag} {H : Hp} : ∀ {ts : List Addr} {lk : List (Bool × Int)}, ItA H ts lk → DpAll K H (ts.map V.ref) (lk.map lkD)
  | [], [], _ => .nil
  | [], _ :: _, h => by cases h.1
  | _ :: _, [], h => by cases h.1
  | t :: ts, e :: lk, h => by
    obtain ⟨x, h1, h2⟩ := h.2 0 t rfl
    cases h1
    exact .cons (.tup (SqT.of h2) (.cons (.bl _) (.cons (.int _) .nil))) (dp_lks ⟨by simpa using h.1, fun j t' e' => h.2 (j + 1) t' e'⟩)
theorem lay_lks : ∀ l : List (Bool × Int), PyData.canLayAll0 (l.map lkD) = true ∧ PyData.depthAll (l.map lkD) ≤ 1
  | [] => by simp [PyData.canLayAll0, PyData.depthAll]
  | x :: l => by
    obtain ⟨h1, h2⟩ := lay_lks l
    refine ⟨by simp [lkD, PyData.canLayAll0, PyData.canLay0, h1], ?_⟩
    have e : PyData.depthAll ((x :: l).map lkD) = max 1 (PyData.depthAll (l.map lkD)) := by simp [lkD, PyData.depthAll, PyData.depth]
    rw [e]
    omega
theorem shaped_lks (l : List (Bool × Int)) : SeqAt.shaped (.list (l.map lkD)) = true := by
  obtain ⟨h1, h2⟩ := lay_lks l
  simp only [SeqAt.shaped, PyData.canLay0, h1, Bool.true_and, decide_eq_true_eq, PyData.depth]
  have : PyData.depthAll (l.map lkD) + 1 ≤ 64 := by omega
  exact decide_eq_true this
/-- the last look's time -/
def lastN (lk : List (Bool × Int)) : Int := match lk.getLast? with
  | some e => e.2
  | none => 0
section
variable {P : Program} {w : World} {K : PySem.W.Frag} {mg : Str → Option Value} {base : Heap} {tr : Tok}
def spDrawn : Sp := fun vs H Q _ => ∃ (p c : Addr), vs = [.ref p] ∧ Dk p c H ∧ ∀ a r f i m H', Gx p c H H' → a ≠ p → a ≠ c → Rl r f i m a H' → Q (.ref a) H'
theorem ok_drawn {f f1 f2 : Addr} {fd fd1 fd2 : FuncData} (F : Fn K mg "_law_drawn_rule" s__law_drawn_rule ["_law_deck_here"] f fd) (B : Blt mg)
    (F__law_pick : Fn K mg "_law_pick" s__law_pick ["_law_deck_here", "_law_some"] f1 fd1) (G__law_pick : FnOk P w K mg base CX0 2 f1 fd1 ["_law_deck_here", "_law_some"] spPick)
    (F__law_draw : Fn K mg "_law_draw" s__law_draw ["_law_deck_here", "_law_many"] f2 fd2) (G__law_draw : FnOk P w K mg base CX0 1 f2 fd2 ["_law_deck_here", "_law_many"] spDraw) : FnOk P w K mg base CX0 3 f fd ["_law_deck_here"] spDrawn := by
  refine F.F.ok sc__law_drawn_rule (fun vs H Q E h => ?_) (fun cdv A outer s H vs Q E hr h => ?_)
  · obtain ⟨p, c, rfl, _⟩ := h
    rfl
  · obtain ⟨p, c, rfl, dk, q⟩ := h
    refine ⟨_, (pss_cons (ps_set (i := 1) sc__law_drawn_rule.nd rfl (.inl rfl) (pe_call G__law_pick (hr.mono (by decide)) (by rfl) F__law_pick.g F__law_pick.F.kp F__law_pick.b .nil pass0 (pa_cons (pv 0) (pa_cons (pe_lst (pa_cons pe_int (pa_cons pe_int (pa_cons pe_int (pa_cons pe_int pa_nil))))) pa_nil))))
      (pss_cons (ps_set (i := 2) sc__law_drawn_rule.nd rfl (.inl rfl) (pe_callB cr_sortedI (by rfl) B.n_sorted (by decide +kernel) (pa_cons (pe_lst (pa_cons (pe_op op_add pe_int (pe_call G__law_draw (hr.mono (by decide)) (by rfl) F__law_draw.g F__law_draw.F.kp F__law_draw.b .nil pass0 (pa_cons (pv 0) (pa_cons (pe_call G__law_pick (hr.mono (by decide)) (by rfl) F__law_pick.g F__law_pick.F.kp F__law_pick.b .nil pass0 (pa_cons (pv 0) (pa_cons (pe_lst (pa_cons pe_int (pa_cons pe_int pa_nil))) pa_nil))) pa_nil)))) (pa_cons (pe_op op_add pe_int (pe_call G__law_draw (hr.mono (by decide)) (by rfl) F__law_draw.g F__law_draw.F.kp F__law_draw.b .nil pass0 (pa_cons (pv 0) (pa_cons pe_int pa_nil)))) pa_nil))) pa_nil)))
      (pss_one (ps_ret (pe_op op_catA (pe_tup (pa_cons (pe_op op_add pe_int (pe_call G__law_draw (hr.mono (by decide)) (by rfl) F__law_draw.g F__law_draw.F.kp F__law_draw.b .nil pass0 (pa_cons (pv 0) (pa_cons (pv 1) pa_nil)))) (pa_cons (pe_op op_add pe_int (pe_call G__law_draw (hr.mono (by decide)) (by rfl) F__law_draw.g F__law_draw.F.kp F__law_draw.b .nil pass0 (pa_cons (pv 0) (pa_cons (pv 1) pa_nil)))) pa_nil))) (pe_callTy call_tuple_of (by rfl) B.n_tuple (by decide +kernel) (pa_cons (pv 2) pa_nil))))))), ?_⟩
    refine ⟨_, rfl, sz (by show 4 ≤ 16000000; decide), fun L hL => ⟨p, c, .ref L, rfl, dk.same (same_new hL), .inl ⟨L, _, rfl, At.new dk hL, (by show 1 ≤ 4; decide), (by show 4 ≤ 100000; decide), fun z x Ha hx ga => ?_⟩⟩⟩
    have ga := (Gx.new dk hL).trans ga
    obtain ⟨mo, mo1, mo9, rfl⟩ : ∃ n : Nat, 1 ≤ n ∧ n ≤ 99 ∧ x = .int (n : Int) := by
      match z, hx with
      | 0, hx => exact ⟨3, by decide, by decide, (Option.some.inj hx).symm⟩
      | 1, hx => exact ⟨3, by decide, by decide, (Option.some.inj hx).symm⟩
      | 2, hx => exact ⟨99, by decide, by decide, (Option.some.inj hx).symm⟩
      | 3, hx => exact ⟨6, by decide, by decide, (Option.some.inj hx).symm⟩
      | z + 4, hx => cases hx
    clear hx
    -- the waits
    refine ⟨_, rfl, _, rfl, sz (by show 2 ≤ 16000000; decide), fun L2 hL2 => ⟨p, c, .ref L2, rfl, ga.2.same (same_new hL2), .inl ⟨L2, _, rfl, At.new ga.2 hL2, (by show 1 ≤ 2; decide), (by show 2 ≤ 100000; decide), fun z x Hb hx gb => ?_⟩⟩⟩
    have gb := (ga.trans (Gx.new ga.2 hL2)).trans gb
    obtain ⟨n2, n21, n29, rfl⟩ : ∃ n : Nat, 1 ≤ n ∧ n ≤ 99 ∧ x = .int (n : Int) := by
      match z, hx with
      | 0, hx => exact ⟨5, by decide, by decide, (Option.some.inj hx).symm⟩
      | 1, hx => exact ⟨99, by decide, by decide, (Option.some.inj hx).symm⟩
      | z + 2, hx => cases hx
    clear hx
    refine ⟨p, c, n2, rfl, gb.2, by omega, by omega, fun w1 Hc hw1 gc => ?_⟩
    have gc := gb.trans gc
    refine ⟨_, _, rfl, rfl, _, rfl, p, c, 99, rfl, gc.2, by decide, by decide, fun w2 Hd hw2 gd => ?_⟩
    have gd := gc.trans gd
    refine ⟨_, _, rfl, rfl, sz (by show 2 ≤ 16000000; decide), fun L3 hL3 => ?_⟩
    have ge := gd.trans (Gx.new (o := .lst [.int (1 + (w1 : Int)), .int (1 + (w2 : Int))]) gd.2 hL3)
    have h3 : upd Hd L3 (.lst [.int (1 + (w1 : Int)), .int (1 + (w2 : Int))]) L3 = some (.lst ([1 + (w1 : Int), 1 + (w2 : Int)].map V.int)) := upd_same
    generalize upd Hd L3 (.lst [.int (1 + (w1 : Int)), .int (1 + (w2 : Int))]) = He at ge h3 ⊢
    refine ⟨L3, _, rfl, SqL.of h3, fun ns' S perm srt hS => ?_⟩
    obtain ⟨i, m, rfl, i1, im, m9⟩ : ∃ i m : Nat, ns' = [(i : Int), (m : Int)] ∧ 1 ≤ i ∧ i ≤ m ∧ m ≤ 99 := by
      have hl := perm.length_eq
      match ns', hl with
      | [x, y], _ =>
        have hx : x ∈ [1 + (w1 : Int), 1 + (w2 : Int)] := perm.mem_iff.mp (by simp)
        have hy : y ∈ [1 + (w1 : Int), 1 + (w2 : Int)] := perm.mem_iff.mp (by simp)
        have hle : x ≤ y := by
          rw [List.pairwise_cons] at srt
          exact srt.1 y (by simp)
        simp only [List.mem_cons, List.not_mem_nil, or_false] at hx hy
        refine ⟨x.toNat, y.toNat, ?_, ?_, ?_, ?_⟩
        · rw [Int.toNat_of_nonneg (by omega), Int.toNat_of_nonneg (by omega)]
        · omega
        · omega
        · omega
    have gf := ge.trans (Gx.new (o := .lst ([(i : Int), (m : Int)].map V.int)) ge.2 hS)
    have aS : At p c (upd He S (.lst ([(i : Int), (m : Int)].map V.int))) S (.lst ([(i : Int), (m : Int)].map V.int)) := At.new ge.2 hS
    generalize upd He S (.lst ([(i : Int), (m : Int)].map V.int)) = Hf at gf aS ⊢
    refine ⟨_, rfl, _, rfl, p, c, mo, rfl, gf.2, by omega, by omega, fun r Hg hr1 gg => ?_⟩
    have aS := aS.gx gg
    have gg := gf.trans gg
    refine ⟨_, _, rfl, rfl, _, rfl, _, rfl, p, c, mo, rfl, gg.2, by omega, by omega, fun f' Hh hf1 gh => ?_⟩
    have aS := aS.gx gh
    have gh := gg.trans gh
    refine ⟨_, _, rfl, rfl, sz (by show 2 ≤ 16000000; decide), fun T hT => ?_⟩
    have aT : At p c (upd Hh T (.tup [.int (1 + (r : Int)), .int (1 + (f' : Int))])) T _ := At.new gh.2 hT
    have aS := aS.gx (Gx.new (o := .tup [.int (1 + (r : Int)), .int (1 + (f' : Int))]) gh.2 hT)
    have gi := gh.trans (Gx.new (o := .tup [.int (1 + (r : Int)), .int (1 + (f' : Int))]) gh.2 hT)
    generalize upd Hh T (.tup [.int (1 + (r : Int)), .int (1 + (f' : Int))]) = Hi at gi aS aT ⊢
    refine ⟨_, rfl, S, _, rfl, .inl ⟨SqL.of aS.2.2, fun T2 hT2 => ?_⟩⟩
    have aT2 : At p c (upd Hi T2 (.tup ([(i : Int), (m : Int)].map V.int))) T2 _ := At.new gi.2 hT2
    have aT := aT.gx (Gx.new (o := .tup ([(i : Int), (m : Int)].map V.int)) gi.2 hT2)
    have gj := gi.trans (Gx.new (o := .tup ([(i : Int), (m : Int)].map V.int)) gi.2 hT2)
    generalize upd Hi T2 (.tup ([(i : Int), (m : Int)].map V.int)) = Hj at gj aT aT2 ⊢
    refine ⟨T, T2, _, _, rfl, rfl, SqT.of aT.2.2, SqT.of aT2.2.2, sz (by show 4 ≤ 16000000; decide), (fun z => by cases z), (fun _ z => by cases z), fun _ _ R hR => ?_⟩
    have n := gj.2.ne hR
    refine q R (1 + r) (1 + f') i m _ (gj.trans (Gx.new gj.2 hR)) n.1 n.2 ⟨upd_same, by omega, by omega, by omega, by omega, i1, im, m9⟩
end
end Ag

end
/-! ## M6 -/
section
set_option linter.all false
set_option maxRecDepth 100000
namespace Ag
open PySem PySem.Spec PyProof.Rows L2
theorem iteB {b : Bool} (h : b = true) {p q : Prop} (hp : p) : if b = true then p else q := by rw [if_pos h]; exact hp
theorem iteC {b : Bool} (h : b = false) {p q : Prop} (hq : q) : if b = true then p else q := by rw [if_neg (by rw [h]; decide)]; exact hq
def gl (lk : List (Bool × Int)) : List Bool := lk.map Prod.fst
section
variable {P : Program} {w : World} {K : PySem.W.Frag} {mg : Str → Option Value} {base : Heap} {tr : Tok}
def spBy : Sp := fun vs H Q _ => ∃ a L ts lk r f i m, vs = [.ref a, .ref L] ∧ Rl r f i m a H ∧ Lks L ts lk H ∧ lk.length ≤ 100000 ∧
  ∀ t H', Same H H' → H' t = some (.tup [.bl (Mk.mfold r f i m (gl lk)).1, .int (Mk.mfold r f i m (gl lk)).2.1, .int (Mk.mfold r f i m (gl lk)).2.2, .int (lastN lk + (Mk.mfold r f i m (gl lk)).2.2)]) → Q (.ref t) H'
set_option maxHeartbeats 4000000 in
theorem ok_by {f : Addr} {fd : FuncData} (F : Fn K mg "_law_mark_by" s__law_mark_by ["_law_rule", "_law_looks"] f fd) (B : Blt mg) : FnOk P w K mg base CX0 1 f fd ["_law_rule", "_law_looks"] spBy := by
  refine F.F.ok sc__law_mark_by (fun vs H Q E h => ?_) (fun cdv A outer s H vs Q E hr h => ?_)
  · obtain ⟨a, L, ts, lk, r, f', i, m, rfl, _⟩ := h
    rfl
  · obtain ⟨a, L, ts, lk, r, f', i, m, rfl, R, hL, hlen, q⟩ := h
    refine ⟨_, (pss_cons (ps_asg (pv 0) (pg_tup rfl (pgs_cons (pg_name (i := 2) sc__law_mark_by.nd rfl (Or.inl rfl)) (pgs_cons (pg_name (i := 3) sc__law_mark_by.nd rfl (Or.inl rfl)) (pgs_cons (pg_name (i := 4) sc__law_mark_by.nd rfl (Or.inl rfl)) (pgs_cons (pg_name (i := 5) sc__law_mark_by.nd rfl (Or.inl rfl)) pgs_nil))))))
      (pss_cons (ps_asg (pe_tup (pa_cons pe_bl (pa_cons pe_int pa_nil))) (pg_tup rfl (pgs_cons (pg_name (i := 6) sc__law_mark_by.nd rfl (Or.inr rfl)) (pgs_cons (pg_name (i := 7) sc__law_mark_by.nd rfl (Or.inl rfl)) pgs_nil))))
      (pss_cons (ps_for PassesOwn.never rfl (pi_range2 (by rfl) B.n_range (pa_cons pe_int (pa_cons (pe_op op_add (pe_callB call_len_seq (by rfl) B.n_len PySem.boot_len (pa_cons (pv 1) pa_nil)) pe_int) pa_nil))) (pg_name (i := 8) sc__law_mark_by.nd rfl (Or.inl rfl))
      (pss_cons (ps_set (i := 9) sc__law_mark_by.nd rfl (.inl rfl) (pe_ifExp (pt_val (pv 6)) (pv 3) (pv 2)))
        (pss_one (ps_if (PW.pt (pw_and (pt_cmpR op_ge (pe_op op_sub (pv 8) (pv 7)) (pv 9) (nomark _)) (pw_and1 (pt_cmpR (op_eqD hr.units) (pe_lc (own := [("_law_one", 12), ("_law_now", 13)]) rfl sc__law_mark_by.nd (pi_list (pe_slice sl_list (pv 1) (po_some (pe_op op_sub (pv 8) (pv 9))) (po_some (pv 8)))) (blkOk_by (N := N__law_mark_by) (sc := defScope s__law_mark_by) (by decide +kernel)) (fun _ _ _ _ _ => pg_two (i := 12) (j := 13) K rfl sc__law_mark_by.nd rfl rfl rfl rfl rfl) (fun _ _ _ _ _ => (pts_one (pt_cmpR op_eq (pv 12) (pv 6) (nomark _)))) (fun _ _ _ _ _ => (pv 12))) (pe_lst pa_nil) (nomark _)))))
        (pss_one (ps_asg (pe_tup (pa_cons (pe_not (pv 6)) (pa_cons (pv 8) pa_nil))) (pg_tup rfl (pgs_cons (pg_name (i := 6) sc__law_mark_by.nd rfl (Or.inr rfl)) (pgs_cons (pg_name (i := 7) sc__law_mark_by.nd rfl (Or.inl rfl)) pgs_nil)))))
        pss_nil))))
      (pss_cons (ps_asg (pe_tup (pa_cons pe_int (pa_cons pe_int pa_nil))) (pg_tup rfl (pgs_cons (pg_name (i := 10) sc__law_mark_by.nd rfl (Or.inl rfl)) (pgs_cons (pg_name (i := 11) sc__law_mark_by.nd rfl (Or.inl rfl)) pgs_nil))))
      (pss_cons (ps_for PassesOwn.never rfl (pi_list (pe_slice sl_list (pv 1) (po_some (pv 7)) po_none)) (pg_tup rfl (pgs_cons (pg_name (i := 12) sc__law_mark_by.nd rfl (Or.inl rfl)) (pgs_cons (pg_name (i := 13) sc__law_mark_by.nd rfl (Or.inl rfl)) pgs_nil)))
      (pss_one (ps_set (i := 10) sc__law_mark_by.nd rfl (.inl rfl) (pe_ifExp (pt_cmpR op_ne (pv 12) (pv 6) (nomark _)) (pe_op op_add (pv 10) pe_int) pe_int))))
      (pss_cons (ps_for PassesOwn.never rfl (pi_list (pv 1)) (pg_tup rfl (pgs_cons (pg_name (i := 12) sc__law_mark_by.nd rfl (Or.inl rfl)) (pgs_cons (pg_name (i := 13) sc__law_mark_by.nd rfl (Or.inl rfl)) pgs_nil)))
      (pss_one (ps_set (i := 11) sc__law_mark_by.nd rfl (.inl rfl) (pe_ifExp (pt_val (pv 12)) pe_int (pe_op op_add (pv 11) pe_int)))))
      (pss_cons (ps_set (i := 14) sc__law_mark_by.nd rfl (.inl rfl) (pv 4))
      (C8.pss_cut (ps_if (pt_not (pt_val (pv 6)))
      (pss_one (ps_for PassesOwn.never rfl (pi_range1 (by rfl) B.n_range (pa_cons (pe_callB (call_min2 rfl) (by rfl) B.n_min (by decide +kernel) (pa_cons (pv 11) (pa_cons (pe_op op_add (pe_op op_sub (pe_callB call_len_seq (by rfl) B.n_len PySem.boot_len (pa_cons (pv 1) pa_nil)) (pv 7)) pe_int) pa_nil))) pa_nil)) (pg_name (i := 15) sc__law_mark_by.nd rfl (Or.inl rfl))
        (pss_one (ps_set (i := 14) sc__law_mark_by.nd rfl (.inl rfl) (pe_callB (call_min2 rfl) (by rfl) B.n_min (by decide +kernel) (pa_cons (pe_op op_mul pe_int (pv 14)) (pa_cons (pv 5) pa_nil)))))))
      pss_nil)
      (pss_one (ps_ret (pe_tup (pa_cons (pv 6) (pa_cons (pv 10) (pa_cons (pv 14) (pa_cons (pe_op op_add (pe_ifExp (pt_cmpR (op_neD hr.units) (pv 1) (pe_lst pa_nil) (nomark _)) (pe_ix ix_seq (pe_ix ix_list (pv 1) (pe_un un_neg pe_int) (fun _ _ => rfl)) pe_int (fun _ _ => rfl)) pe_int) (pv 14)) pa_nil))))))))))))))), ?_⟩
    refine ⟨_, rfl, a, _, rfl, SqT.of R.at_, rfl, _, _, rfl, _, _, rfl, _, _, rfl, _, _, rfl, rfl, ?_⟩
    refine ⟨sz (by show 2 ≤ 16000000; decide), fun T hT => ⟨T, _, rfl, SqT.of upd_same, rfl, _, _, rfl, _, _, rfl, rfl, ?_⟩⟩
    have s1 : Same H (upd H T (.tup [.bl true, .int 0])) := same_new hT
    generalize upd H T (.tup [.bl true, .int 0]) = H1 at s1 ⊢
    have hn : ts.length = lk.length := hL.2.1
    have hgl : (gl lk).length = lk.length := by simp [gl]
    -- up or down, and since when
    refine ⟨_, rfl, L, _, rfl, .inl (SqL.of (hL.to s1).1), _, _, rfl, rfl, 1, _, rfl, ⟨by decide, by decide, by omega, by rw [List.length_map]; omega⟩, ?_⟩
    refine for_range (lo := 1) (n := (((ts.map V.ref).length : Int) + 1 - 1).toNat) (fun j σ H' => ∃ x8 x9 x12 x13 : Option V, σ = [some (.ref a), some (.ref L), some (.int r), some (.int f'), some (.int i), some (.int m), some (.bl (Mk.usN r f' (gl lk) j).1), some (.int ((Mk.usN r f' (gl lk) j).2 : Nat)), x8, x9, none, none, x12, x13, none, none] ∧ Same H H') ⟨_, _, _, _, rfl, s1⟩ ?_ ?_
    · rintro j σ H2 hj ⟨x8, x9, x12, x13, rfl, s2⟩
      rw [List.length_map] at hj
      have hj : j < lk.length := by omega
      have hst := (Mk.all_ok r f' i m R.r1 R.f1 (gl lk) j (by omega)).st
      have eN : Mk.usN r f' (gl lk) (j + 1) = if Mk.manyN r f' (Mk.usN r f' (gl lk) j).1 ≤ j + 1 - (Mk.usN r f' (gl lk) j).2 ∧ ∀ g ∈ ((gl lk).take (j + 1)).drop (j + 1 - Mk.manyN r f' (Mk.usN r f' (gl lk) j).1), g ≠ (Mk.usN r f' (gl lk) j).1 then (!(Mk.usN r f' (gl lk) j).1, j + 1) else Mk.usN r f' (gl lk) j := rfl
      generalize Mk.usN r f' (gl lk) (j + 1) = p' at eN ⊢
      generalize Mk.usN r f' (gl lk) j = p at hst eN ⊢
      obtain ⟨up, st⟩ := p
      have hst : st ≤ j := hst
      have eN : p' = if Mk.manyN r f' up ≤ j + 1 - st ∧ ∀ g ∈ ((gl lk).take (j + 1)).drop (j + 1 - Mk.manyN r f' up), g ≠ up then (!up, j + 1) else (up, st) := eN
      have hmn : 1 ≤ Mk.manyN r f' up := by
        have := R.r1
        have := R.f1
        unfold Mk.manyN
        split <;> omega
      refine ⟨_, rfl, up, rfl, ?_⟩
      refine ite2 (fun z => ?_) (fun z => ?_)
      all_goals
        refine ⟨.int (Mk.manyN r f' up : Nat), ?_, ?_⟩
        · first | (rw [z]; rfl) | (rw [Bool.eq_false_iff.mpr z]; rfl)
        clear z
        generalize Mk.manyN r f' up = mn at eN hmn ⊢
        refine ⟨_, rfl, _, rfl, _, _, rfl, rfl, _, rfl, _, _, rfl, rfl, _, rfl, ?_⟩
        refine ite2 (fun z => ?_) (fun z => ?_)
        · have z : (mn : Int) ≤ 1 + (j : Int) - st := of_decide_eq_true z
          have L2 := hL.to s2
          refine ⟨_, rfl, _, rfl, _, rfl, _, _, rfl, rfl, _, rfl, _, rfl, _, rfl, L, _, rfl, SqL.of L2.1, fun U hU => ?_⟩
          have s3 := s2.trans (same_new (o := .lst (cutV (ts.map V.ref) (some (1 + (j : Int) - mn)) (some (1 + (j : Int))))) hU)
          have h3 : upd H2 U (.lst (cutV (ts.map V.ref) (some (1 + (j : Int) - mn)) (some (1 + (j : Int))))) U = some (.lst (((ts.drop (j + 1 - mn)).take mn).map V.ref)) := by
            rw [upd_same, show (1 + (j : Int) - mn) = ((j + 1 - mn : Nat) : Int) by omega, show (1 + (j : Int)) = ((j + 1 : Nat) : Int) by omega, cut_V (by rw [List.length_map]; omega) (by rw [List.length_map]; omega), show j + 1 - (j + 1 - mn) = mn by omega, List.map_take, List.map_drop]
          have L3 := L2.to (same_new (o := .lst (cutV (ts.map V.ref) (some (1 + (j : Int) - mn)) (some (1 + (j : Int))))) hU)
          generalize upd H2 U (.lst (cutV (ts.map V.ref) (some (1 + (j : Int) - mn)) (some (1 + (j : Int))))) = H3 at s3 h3 L3 ⊢
          have I3 := L3.2.cut (j + 1 - mn) mn
          have eS : (gl lk |>.take (j + 1)).drop (j + 1 - mn) = ((lk.drop (j + 1 - mn)).take mn).map Prod.fst := by
            unfold gl
            rw [List.drop_take, show j + 1 - (j + 1 - mn) = mn by omega, List.map_take, List.map_drop]
          rw [eS] at eN
          have hul : ((ts.drop (j + 1 - mn)).take mn).length ≤ 100000 := by rw [List.length_take, List.length_drop]; omega
          generalize (lk.drop (j + 1 - mn)).take mn = S at I3 eN
          generalize (ts.drop (j + 1 - mn)).take mn = us at I3 h3 hul
          refine ⟨U, rfl, ⟨_, SqL.of h3⟩, fun D hD => ?_⟩
          refine lc_sel (walk_list (K := K) (a := U) (xs := us.map V.ref)) (fun q => decide ((S.getD q (true, 0)).1 = up)) (fun _ => .bl up) ?_ hD (fun H' s => SqL.of (s _ _ h3)) ?_ ?_
          · rw [List.length_map]
            omega
          · rintro k y H4 H5 kk k0 hk s4 ⟨rfl, hy⟩ hk1 hk0
            obtain ⟨t, e, rfl, ht, he, hte⟩ := (I3.to s4).at_ hy
            rw [List.getD_eq_getElem?_getD, he] at hk1 hk0
            have hk1 : decide (e.1 = up) = true → ∀ H4, Same H5 H4 → kk (.bl up) H4 := hk1
            have hk0 : decide (e.1 = up) = false → ∀ H4, Same H5 H4 → k0 H4 := hk0
            refine ⟨t, _, rfl, SqT.of hte, rfl, _, _, rfl, _, _, rfl, rfl, rfl, _, rfl, _, rfl, rfl, _, rfl, ?_⟩
            cases hd : decide (e.1 = up) with
            | true =>
              have hd' : e.1 = up := of_decide_eq_true hd
              refine iteB (by rw [hd']; exact decide_eq_true rfl) ⟨_, rfl, ?_⟩
              rw [hd']
              exact hk1 hd _ (Same.refl _)
            | false =>
              have hd' : ¬ e.1 = up := of_decide_eq_false hd
              exact iteC (decide_eq_false fun y => hd' (V.bl.inj y)) (hk0 hd _ (Same.refl _))
          · intro H4 s4 h4
            refine ⟨Nat.zero_le _, fun Z hZ => ?_⟩
            have s5 := s3.trans (s4.trans (same_new (o := .lst []) hZ))
            have h5 := same_new (o := .lst []) hZ _ _ h4
            have hZ5 : upd H4 Z (.lst []) Z = some (.lst []) := upd_same
            generalize upd H4 Z (.lst []) = H5 at s5 h5 hZ5 ⊢
            have ef : (((List.range (us.map V.ref).length).filter fun q => decide ((S.getD q (true, 0)).1 = up)) = []) ↔ ∀ g ∈ S.map Prod.fst, g ≠ up := by
              rw [List.length_map, I3.1, List.filter_eq_nil_iff]
              constructor
              · intro h g hg
                obtain ⟨x, hx, rfl⟩ := List.mem_map.mp hg
                obtain ⟨k, hk, rfl⟩ := List.mem_iff_getElem.mp hx
                have := h k (List.mem_range.mpr hk)
                rw [List.getD_eq_getElem?_getD, List.getElem?_eq_getElem hk] at this
                simpa using this
              · intro h k hk
                have hk := List.mem_range.mp hk
                rw [List.getD_eq_getElem?_getD, List.getElem?_eq_getElem hk]
                simpa using h _ (List.mem_map_of_mem (List.getElem_mem hk))
            generalize ((List.range (us.map V.ref).length).filter fun q => decide ((S.getD q (true, 0)).1 = up)) = fl at h5 ef
            refine ⟨.list (fl.map fun _ => .bool up), .list [], .lst (SqL.of h5) (dp_bls up fl), .lst (SqL.of hZ5) .nil, shaped_bls up fl, shaped_lks [], _, rfl, ?_⟩
            rw [eqv_map_nil]
            refine ite2 (fun y => ?_) (fun y => ?_)
            · have y := ef.mp (of_decide_eq_true y)
              rw [if_pos ⟨by omega, y⟩] at eN
              subst eN
              refine ⟨_, rfl, _, rfl, _, rfl, sz (by show 2 ≤ 16000000; decide), fun T hT => ⟨T, _, rfl, SqT.of upd_same, rfl, _, _, rfl, _, _, rfl, rfl, ?_⟩⟩
              refine ⟨some (.int (1 + (j : Int))), some (.int mn), x12, x13, ?_, s5.trans (same_new hT)⟩
              show _ = [some (V.ref a), some (.ref L), some (.int r), some (.int f'), some (.int i), some (.int m), some (.bl (!up)), some (.int ((j + 1 : Nat) : Int)), _, _, none, none, x12, x13, none, none]
              rw [show ((j + 1 : Nat) : Int) = 1 + (j : Int) by omega]
              rfl
            · have y : ¬ fl = [] := of_decide_eq_false (Bool.eq_false_iff.mpr y)
              rw [if_neg (fun z => y (ef.mpr z.2))] at eN
              subst eN
              exact ⟨_, _, _, _, rfl, s5⟩
        · have z : ¬ (mn : Int) ≤ 1 + (j : Int) - st := of_decide_eq_false (Bool.eq_false_iff.mpr z)
          rw [if_neg (fun y => z (by omega))] at eN
          subst eN
          exact ⟨_, _, _, _, rfl, s2⟩
    · rintro σ H2 ⟨x8, x9, x12, x13, rfl, s2⟩
      have en : (((ts.map V.ref).length : Int) + 1 - 1).toNat = lk.length := by rw [List.length_map]; omega
      rw [en]
      have OK := Mk.all_ok r f' i m R.r1 R.f1 (gl lk) lk.length (by omega)
      have hst := OK.st
      have hrun := OK.run
      have hup := OK.up
      have hwt := OK.wait
      rw [← hgl, List.take_length] at hrun hup hwt
      generalize hfo : Mk.mfold r f' i m (gl lk) = fo at q hrun hup hwt
      rw [hgl] at hrun hup hwt
      unfold Mk.waitN at hwt
      generalize Mk.usN r f' (gl lk) lk.length = us at hst hrun hup hwt ⊢
      obtain ⟨up, st⟩ := us
      have hst : st ≤ lk.length := hst
      have hrun : fo.2.1 = Mk.tr (!up) ((gl lk).drop st) := hrun
      have hup : fo.1 = up := hup
      have L2 := hL.to s2
      refine ⟨sz (by show 2 ≤ 16000000; decide), fun T hT => ⟨T, _, rfl, SqT.of upd_same, rfl, _, _, rfl, _, _, rfl, rfl, ?_⟩⟩
      have s3 := s2.trans (same_new (o := .tup [.int 0, .int 0]) hT)
      generalize upd H2 T (.tup [.int 0, .int 0]) = H3 at s3 ⊢
      have L3 := hL.to s3
      -- the run
      refine ⟨_, rfl, _, rfl, st, rfl, L, _, rfl, SqL.of L3.1, fun U hU => ⟨U, rfl, ⟨_, SqL.of upd_same⟩, ?_⟩⟩
      rw [cut_Vf (by rw [List.length_map]; omega)]
      have s4 := s3.trans (same_new (o := .lst ((ts.map V.ref).drop st)) hU)
      have h4 : upd H3 U (.lst ((ts.map V.ref).drop st)) U = some (.lst ((ts.map V.ref).drop st)) := upd_same
      generalize upd H3 U (.lst ((ts.map V.ref).drop st)) = H4 at s4 h4 ⊢
      have L4 := hL.to s4
      refine for_list (K := K) (a := U) (xs := (ts.map V.ref).drop st) (fun j σ H' => ∃ x12 x13 : Option V, σ = [some (.ref a), some (.ref L), some (.int r), some (.int f'), some (.int i), some (.int m), some (.bl up), some (.int st), x8, x9, some (.int (Mk.tr (!up) (((gl lk).drop st).take j) : Nat)), some (.int 0), x12, x13, none, none] ∧ H4 = H') ⟨_, _, rfl, rfl⟩ (fun j σ H' _ z => ?_) ?_ ?_
      · obtain ⟨_, _, _, rfl⟩ := z
        exact SqL.of h4
      · rintro j x σ H' hx ⟨x12, x13, rfl, rfl⟩
        rw [List.getElem?_drop] at hx
        obtain ⟨t, e, rfl, ht, he, hte⟩ := L4.2.at_ hx
        have hg : (((gl lk).drop st).take (j + 1)) = ((gl lk).drop st).take j ++ [e.1] := by
          rw [List.take_add_one, List.getElem?_drop]
          unfold gl
          rw [List.getElem?_map, he]
          rfl
        refine ⟨t, _, rfl, SqT.of hte, rfl, _, _, rfl, _, _, rfl, rfl, ?_⟩
        rw [hg, Mk.tr_snoc]
        refine ⟨_, rfl, _, rfl, rfl, _, rfl, ?_⟩
        by_cases hu : e.1 = !up
        · rw [if_pos hu, hu]
          refine iteB (by cases up <;> rfl) ⟨_, rfl, _, _, rfl, rfl, _, _, rfl, rfl⟩
        · have hu : e.1 = up := by cases h1 : e.1 <;> cases up <;> simp_all
          rw [if_neg (by rw [hu]; cases up <;> decide), hu]
          refine iteC (by cases up <;> rfl) ⟨_, _, rfl, rfl⟩
      · rintro σ H' ⟨y12, y13, rfl, rfl⟩
        rw [List.length_drop, List.length_map, hn, List.take_of_length_le (by rw [List.length_drop, hgl]; exact Nat.le_refl _)]
        -- the bad looks
        refine ⟨_, rfl, L, rfl, ⟨_, SqL.of L4.1⟩, ?_⟩
        refine for_list (K := K) (a := L) (xs := ts.map V.ref) (fun j σ H' => ∃ x12 x13 : Option V, σ = [some (.ref a), some (.ref L), some (.int r), some (.int f'), some (.int i), some (.int m), some (.bl up), some (.int st), x8, x9, some (.int (Mk.tr (!up) ((gl lk).drop st) : Nat)), some (.int (Mk.tr false ((gl lk).take j) : Nat)), x12, x13, none, none] ∧ H4 = H') ⟨_, _, rfl, rfl⟩ (fun j σ H' _ z => ?_) ?_ ?_
        · obtain ⟨_, _, _, rfl⟩ := z
          exact SqL.of L4.1
        · rintro j x σ H' hx ⟨x12, x13, rfl, rfl⟩
          obtain ⟨t, e, rfl, ht, he, hte⟩ := L4.2.at_ hx
          have hg : (gl lk).take (j + 1) = (gl lk).take j ++ [e.1] := by
            rw [List.take_add_one]
            unfold gl
            rw [List.getElem?_map, he]
            rfl
          refine ⟨t, _, rfl, SqT.of hte, rfl, _, _, rfl, _, _, rfl, rfl, ?_⟩
          rw [hg, Mk.tr_snoc]
          refine ⟨_, rfl, e.1, rfl, ?_⟩
          cases e.1 with
          | true => exact iteT ⟨_, _, rfl, rfl⟩
          | false => exact iteF ⟨_, rfl, _, _, rfl, rfl, _, _, rfl, rfl⟩
        · rintro σ H' ⟨z12, z13, rfl, rfl⟩
          rw [List.length_map, hn, show (gl lk).take lk.length = gl lk by rw [← hgl, List.take_length]]
          -- the wait
          refine ⟨_, rfl, ?_⟩
          have hw9 : ∀ n, Mk.itN m n i ≤ 99 := fun n => by
            rw [Mk.itN_pow m R.im]
            have := R.m9
            omega
          refine ⟨fun σ H' => ∃ x15 : Option V, σ = [some (.ref a), some (.ref L), some (.int r), some (.int f'), some (.int i), some (.int m), some (.bl up), some (.int st), x8, x9, some (.int (Mk.tr (!up) ((gl lk).drop st) : Nat)), some (.int (Mk.tr false (gl lk) : Nat)), z12, z13, some (.int (fo.2.2 : Nat)), x15] ∧ H4 = H', ?_, ?_⟩
          · refine ⟨_, rfl, up, rfl, ?_⟩
            cases up with
            | true =>
              refine iteF ⟨none, ?_, rfl⟩
              have hwt : fo.2.2 = i := hwt
              rw [hwt]
              rfl
            | false =>
              have hwt : fo.2.2 = Mk.itN m (min (Mk.tr false (gl lk)) (lk.length - st + 1)) i := by
                rw [hwt, if_neg Bool.false_ne_true, ← hgl, List.take_length]
              refine iteT ⟨_, rfl, _, rfl, L, _, rfl, .inl (SqL.of L4.1), _, rfl, _, _, rfl, rfl, _, _, rfl, rfl, _, _, rfl, ?_⟩
              rw [hwt]
              have emin : (if ((ts.map V.ref).length : Int) - (st : Int) + 1 < (Mk.tr false (gl lk) : Int) then ((ts.map V.ref).length : Int) - (st : Int) + 1 else (Mk.tr false (gl lk) : Int)) = ((min (Mk.tr false (gl lk)) (lk.length - st + 1) : Nat) : Int) := by
                rw [List.length_map, hn]
                split <;> omega
              rw [emin]
              have hb : min (Mk.tr false (gl lk)) (lk.length - st + 1) ≤ 100001 := by omega
              generalize min (Mk.tr false (gl lk)) (lk.length - st + 1) = nn at hb ⊢
              refine ⟨_, rfl, by omega, by omega, ?_⟩
              refine for_range (lo := 0) (n := ((nn : Nat) : Int).toNat) (fun j σ H' => ∃ x15 : Option V, σ = [some (.ref a), some (.ref L), some (.int r), some (.int f'), some (.int i), some (.int m), some (.bl false), some (.int st), x8, x9, some (.int (Mk.tr (!false) ((gl lk).drop st) : Nat)), some (.int (Mk.tr false (gl lk) : Nat)), z12, z13, some (.int (Mk.itN m j i : Nat)), x15] ∧ H4 = H') ⟨_, rfl, rfl⟩ ?_ ?_
              · rintro j σ H' hj ⟨x15, rfl, rfl⟩
                refine ⟨_, rfl, _, _, rfl, rfl, .inl ⟨by decide, by decide⟩, _, rfl, _, _, rfl, ?_⟩
                rw [min_of rfl rfl, ← Mk.itN_succ]
                exact ⟨_, rfl, rfl⟩
              · rintro σ H' ⟨x15, rfl, rfl⟩
                rw [show ((nn : Nat) : Int).toNat = nn by simp]
                exact ⟨_, rfl, rfl⟩
          · rintro σ H' ⟨x15, rfl, rfl⟩
            rw [← hrun]
            refine ⟨_, rfl, _, rfl, _, rfl, ?_⟩
            have fin : ∀ (x : Int) (H5 : Hp), Same H4 H5 → x = lastN lk → ∀ t, H5 t = none → Q (.ref t) (upd H5 t (.tup [.bl up, .int fo.2.1, .int fo.2.2, .int (x + fo.2.2)])) := by
              intro x H5 s5 ex t ht
              refine q t _ (s4.trans (s5.trans (same_new ht))) ?_
              rw [upd_same, hup, ex]
            refine ⟨_, rfl, Nat.zero_le _, fun Z hZ => ?_⟩
            have s5 := same_new (o := .lst []) hZ
            have L5 := L4.to s5
            have hZ5 : upd H4 Z (.lst []) Z = some (.lst []) := upd_same
            generalize upd H4 Z (.lst []) = H5 at s5 L5 hZ5 ⊢
            refine ⟨.list (lk.map lkD), .list [], .lst (SqL.of L5.1) (dp_lks L5.2), .lst (SqL.of hZ5) .nil, shaped_lks lk, shaped_lks [], _, rfl, ?_⟩
            rw [eqv_map_nil]
            cases hlk : lk with
            | nil =>
              refine iteF ⟨_, rfl, _, _, rfl, rfl, sz (by show 4 ≤ 16000000; decide), fun t ht => ?_⟩
              exact fin 0 H5 s5 (by rw [hlk]; rfl) t ht
            | cons e0 l0 =>
              have hne : lk ≠ [] := by rw [hlk]; exact List.cons_ne_nil _ _
              obtain ⟨ini, tl, et⟩ : ∃ ini tl, ts = ini ++ [tl] := by
                have : ts ≠ [] := fun z => by rw [z, hlk] at hn; cases hn
                exact ⟨_, _, (List.dropLast_concat_getLast this).symm⟩
              have hat : atI (ts.map V.ref) (-1) = some (.ref tl) := by
                rw [et, List.map_append]
                exact atI_last _ _
              obtain ⟨t, e, h1, h2, h3, h4'⟩ := L5.2.at_ (j := ini.length) (y := .ref tl) (by rw [et]; simp)
              cases h1
              refine iteT ⟨_, rfl, _, rfl, L, _, _, _, rfl, rfl, SqL.of L5.1, hat, .inr (.inl ⟨tl, _, _, _, rfl, rfl, SqT.of h4', rfl, ?_⟩)⟩
              refine ⟨_, rfl, _, _, rfl, rfl, sz (by show 4 ≤ 16000000; decide), fun t ht => ?_⟩
              refine fin e.2 H5 s5 ?_ t ht
              have hl : lk.length = ini.length + 1 := by rw [← hn, et]; simp
              unfold lastN
              rw [List.getLast?_eq_getElem?, hl, Nat.add_sub_cancel, h3]
end
end Ag

end
/-! ## Rep -/
section
set_option linter.all false
set_option maxRecDepth 100000
namespace Ag
open PySem PySem.Spec PyProof.Rows L2
open SX (S S_len S_cat S_inj)
theorem toStr (n : Nat) : (Str.ofString (toString ((n : Nat) : Int))) = S (numL n) := SX.num_S n
theorem log_small {n : Nat} (h : n < 2 ^ 200) : ((n : Nat) : Int).natAbs.log2 < 1920 := by
  rw [Int.natAbs_natCast]
  by_cases z : n = 0
  · subst z; decide
  · have h2 : n < 2 ^ 1920 := Nat.lt_of_lt_of_le h (Nat.pow_le_pow_right (by decide) (by decide))
    exact (Nat.log2_lt z).mpr h2
theorem hu66 {k : Nat} {A : Around} (hr : Room k A) : A.units + 66 < cLine := by have := hr.un; omega
def asc (l : List Nat) : Prop := ∀ c ∈ l, c < 128
/-! data whose texts are ascii, and whose ints are small -/
mutual
def okD : PyData → Bool
  | .none => true
  | .bool _ => true
  | .int i => decide (0 ≤ i) && decide (i ≤ 1000000000000000000)
  | .str x => x.cps.toList.all (· < 128)
  | .list xs => okAll xs
  | .tuple xs => okAll xs
  | .dict _ => false
def okAll : List PyData → Bool
  | [] => true
  | x :: xs => okD x && okAll xs
end
theorem shown_small {i : Int} (h0 : 0 ≤ i) (h1 : i ≤ 1000000000000000000) : (PyData.int i).shown.length ≤ 22 := by
  rw [PyData.shown_int]
  obtain ⟨n, rfl⟩ := Int.eq_ofNat_of_zero_le h0
  rw [toStr, S_len]
  have : (numL n).length ≤ 19 := TL.numL_len (by decide) (by omega)
  omega
mutual
theorem ok_all4 : ∀ d : PyData, okD d = true → d.showable = true ∧ d.hasDict = false ∧ d.canLay0 = true ∧ d.leavesShort 22 = true
  | .none, _ => by simp [PyData.showable, PyData.hasDict, PyData.canLay0, PyData.leavesShort]
  | .bool _, _ => by simp [PyData.showable, PyData.hasDict, PyData.canLay0, PyData.leavesShort]
  | .int i, h => by
    simp only [okD, Bool.and_eq_true, decide_eq_true_eq] at h
    obtain ⟨n, rfl⟩ := Int.eq_ofNat_of_zero_le h.1
    have hs := shown_small h.1 h.2
    have hl : ((n : Int)).natAbs.log2 < 1920 := log_small (Nat.lt_of_le_of_lt (show n ≤ 1000000000000000000 by omega) (by decide))
    simp only [PyData.showable, PyData.hasDict, PyData.canLay0, PyData.leavesShort, decide_eq_true_eq]
    exact ⟨hl, trivial, trivial, hs⟩
  | .str x, h => by
    simp only [okD, List.all_eq_true, decide_eq_true_eq] at h
    simp only [PyData.showable, PyData.hasDict, PyData.canLay0, PyData.leavesShort]
    refine ⟨trivial, trivial, ?_, ?_⟩
    · unfold PyData.strOk
      rw [← Array.all_toList, List.all_eq_true]
      intro c hc
      have := h c hc
      simp
      omega
    · rw [List.all_eq_true]
      intro c hc
      have := h c hc
      simp
      omega
  | .list xs, h => by
    have := ok_allA xs (by simpa only [okD] using h)
    simpa only [PyData.showable, PyData.hasDict, PyData.canLay0, PyData.leavesShort] using this
  | .tuple xs, h => by
    have := ok_allA xs (by simpa only [okD] using h)
    simpa only [PyData.showable, PyData.hasDict, PyData.canLay0, PyData.leavesShort] using this
  | .dict _, h => by simp [okD] at h
theorem ok_allA : ∀ xs : List PyData, okAll xs = true → PyData.showableAll xs = true ∧ PyData.hasDictAll xs = false ∧ PyData.canLayAll0 xs = true ∧ PyData.leavesShortAll 22 xs = true
  | [], _ => by simp [PyData.showableAll, PyData.hasDictAll, PyData.canLayAll0, PyData.leavesShortAll]
  | x :: xs, h => by
    simp only [okAll, Bool.and_eq_true] at h
    obtain ⟨a1, a2, a3, a4⟩ := ok_all4 x h.1
    obtain ⟨b1, b2, b3, b4⟩ := ok_allA xs h.2
    simp only [PyData.showableAll, PyData.hasDictAll, PyData.canLayAll0, PyData.leavesShortAll, a1, a2, a3, a4, b1, b2, b3, b4]
    exact ⟨rfl, rfl, rfl, rfl⟩
end
structure Fit (d : PyData) : Prop where
  ok : okD d = true
  dp : d.depth ≤ 60
  bk : d.bulk ≤ 500000
theorem Fit.shown {d : PyData} (f : Fit d) : d.showable = true ∧ d.hasDict = false ∧ d.depth ≤ 64 ∧ d.shown.length ≤ sizeLine := by
  obtain ⟨a1, a2, a3, a4⟩ := ok_all4 d f.ok
  refine ⟨a1, a2, by have := f.dp; omega, ?_⟩
  have := PyData.shown_le_bulk 22 (by decide) d a4
  have := f.bk
  rw [sizeLine_eq]
  omega
theorem Fit.shaped {d : PyData} (f : Fit d) : SeqAt.shaped d = true := by
  obtain ⟨a1, a2, a3, a4⟩ := ok_all4 d f.ok
  unfold SeqAt.shaped
  rw [a3, decide_eq_true (by have := f.dp; omega)]
  rfl
theorem Fit.refl {d : PyData} (f : Fit d) : PyData.eqv d d = true := SeqAt.eqv_refl d (ok_all4 d f.ok).2.2.1
theorem ok_str {l : List Nat} (h : asc l) : okD (.str (S l)) = true := by
  simp only [okD]
  rw [List.all_eq_true]
  intro c hc
  simpa using h c hc
/-- small data: how deep, how much -/
structure Sm (d : PyData) (n b : Nat) : Prop where
  ok : okD d = true
  dp : d.depth ≤ n
  bk : d.bulk ≤ b
structure SmA (ds : List PyData) (n b : Nat) : Prop where
  ok : okAll ds = true
  dp : PyData.depthAll ds ≤ n
  bk : PyData.bulkAll ds ≤ b
theorem Sm.fit {d : PyData} {n b : Nat} (h : Sm d n b) (hn : n ≤ 60) (hb : b ≤ 500000) : Fit d := ⟨h.ok, by have := h.dp; omega, by have := h.bk; omega⟩
theorem SmA.nil {n b : Nat} : SmA [] n b := ⟨by simp [okAll], by simp [PyData.depthAll], by simp [PyData.bulkAll]⟩
theorem SmA.cons {d : PyData} {ds : List PyData} {n b b1 b2 : Nat} (h : Sm d n b1) (k : SmA ds n b2) (hb : b1 + b2 + 2 ≤ b) : SmA (d :: ds) n b := by
  refine ⟨?_, ?_, ?_⟩
  · simp only [okAll, h.ok, k.ok]
    rfl
  · simp only [PyData.depthAll]
    have := h.dp
    have := k.dp
    omega
  · simp only [PyData.bulkAll]
    have := h.bk
    have := k.bk
    omega
theorem Sm.tup {ds : List PyData} {n b : Nat} (h : SmA ds n b) : Sm (.tuple ds) (n + 1) (b + 2) := by
  refine ⟨?_, ?_, ?_⟩
  · simp only [okD]
    exact h.ok
  · simp only [PyData.depth]
    have := h.dp
    omega
  · simp only [PyData.bulk]
    have := h.bk
    omega
theorem Sm.lst {ds : List PyData} {n b : Nat} (h : SmA ds n b) : Sm (.list ds) (n + 1) (b + 2) := by
  refine ⟨?_, ?_, ?_⟩
  · simp only [okD]
    exact h.ok
  · simp only [PyData.depth]
    have := h.dp
    omega
  · simp only [PyData.bulk]
    have := h.bk
    omega
theorem Sm.str {l : List Nat} {n b : Nat} (h : asc l) (hb : l.length + 2 ≤ b) : Sm (.str (S l)) n b := by
  refine ⟨ok_str h, by simp [PyData.depth], ?_⟩
  simp only [PyData.bulk]
  rw [show (S l).cps.size = l.length from List.size_toArray ..]
  omega
theorem Sm.int {k n b : Nat} (h : k ≤ 1000000000000000000) (hb : 2 ≤ b) : Sm (.int (k : Int)) n b := by
  refine ⟨?_, by simp [PyData.depth], ?_⟩
  · simp only [okD, Bool.and_eq_true, decide_eq_true_eq]
    omega
  · simp only [PyData.bulk]
    omega
theorem Sm.bool {c : Bool} {n b : Nat} (hb : 2 ≤ b) : Sm (.bool c) n b := by
  refine ⟨by simp [okD], by simp [PyData.depth], ?_⟩
  simp only [PyData.bulk]
  omega
theorem Sm.mono {d : PyData} {n m b c : Nat} (h : Sm d n b) (hn : n ≤ m) (hb : b ≤ c) : Sm d m c := ⟨h.ok, Nat.le_trans h.dp hn, Nat.le_trans h.bk hb⟩
end Ag

end
/-! ## M7 -/
section
set_option linter.all false
set_option maxRecDepth 100000
namespace Ag
open PySem PySem.Spec PyProof.Rows L2
theorem testE {t : TE} {σ : L2.St} {H : Hp} {Q : VK} (I : V → Hp → Prop) (h : ∀ Q' : VK, (∀ v H', I v H' → Q' v H') → t σ H Q') (k : ∀ v H', I v H' → Q v H') : t σ H Q := h Q k
theorem tup_gx {p c a : Addr} {H H' : Hp} {xs : List V} (d : Dk p c H) (g : Gx p c H H') (h : H a = some (.tup xs)) : H' a = some (.tup xs) := by
  obtain ⟨m, t, cs, h1, h2, _⟩ := d
  exact g.1 a _ (ne_of h h1 (by intro z; cases z)) (ne_of h h2 (by intro z; cases z)) h
/-- what changes: the deck, and the list of looks -/
structure LS (r f i m : Nat) (p c a L : Addr) (ts : List Addr) (lk : List (Bool × Int)) (t : Addr) (mk : Bool × Nat × Nat) (due : Int) (H : Hp) : Prop where
  dk : Dk p c H
  R : Rl r f i m a H
  M : Mrk r f i m mk due t H
  hL : Lks L ts lk H
  n1 : L ≠ p
  n2 : L ≠ c
section
variable {r f i m : Nat} {p c a L t : Addr} {ts : List Addr} {lk : List (Bool × Int)} {mk : Bool × Nat × Nat} {due : Int} {H H' : Hp}
theorem Rl.gx (R : Rl r f i m a H) (d : Dk p c H) (g : Gx p c H H') : Rl r f i m a H' := ⟨tup_gx d g R.at_, R.r1, R.r9, R.f1, R.f9, R.i1, R.im, R.m9⟩
theorem Mrk.gx (M : Mrk r f i m mk due t H) (d : Dk p c H) (g : Gx p c H H') : Mrk r f i m mk due t H' := ⟨tup_gx d g M.at_, M.ok, M.le⟩
theorem ItA.gx (h : ItA H ts lk) (d : Dk p c H) (g : Gx p c H H') : ItA H' ts lk := ⟨h.1, fun j t e => by
  obtain ⟨x, h1, h2⟩ := h.2 j t e
  exact ⟨x, h1, tup_gx d g h2⟩⟩
theorem LS.gx (s : LS r f i m p c a L ts lk t mk due H) (g : Gx p c H H') : LS r f i m p c a L ts lk t mk due H' :=
  ⟨g.2, s.R.gx s.dk g, s.M.gx s.dk g, ⟨g.1 _ _ s.n1 s.n2 s.hL.1, s.hL.2.gx s.dk g⟩, s.n1, s.n2⟩
theorem LS.same (s : LS r f i m p c a L ts lk t mk due H) (g : Same H H') : LS r f i m p c a L ts lk t mk due H' := s.gx (Gx.same s.dk g)
theorem LS.app (s : LS r f i m p c a L ts lk t mk due H) {T : Addr} {g : Bool} {n : Int} (hT : H T = some (.tup [.bl g, .int n])) : LS r f i m p c a L (ts ++ [T]) (lk ++ [(g, n)]) t mk due (upd H L (.lst (ts.map V.ref ++ [.ref T]))) := by
  have hl := s.hL.1
  have tp : ∀ {b : Addr} {xs : List V}, H b = some (.tup xs) → upd H L (.lst (ts.map V.ref ++ [.ref T])) b = some (.tup xs) := fun h => by
    rw [upd_ne (ne_of h hl (by intro z; cases z))]
    exact h
  obtain ⟨mm, tt, cs, h1, h2, h3⟩ := s.dk
  refine ⟨⟨mm, tt, cs, by rw [upd_ne s.n1.symm]; exact h1, by rw [upd_ne s.n2.symm]; exact h2, h3⟩, ⟨tp s.R.at_, s.R.r1, s.R.r9, s.R.f1, s.R.f9, s.R.i1, s.R.im, s.R.m9⟩, ⟨tp s.M.at_, s.M.ok, s.M.le⟩, ⟨?_, ?_, ?_⟩, s.n1, s.n2⟩
  · rw [upd_same, List.map_append]
    rfl
  · simp [s.hL.2.1]
  · intro j t' e
    rw [List.getElem?_append] at e
    split at e
    · obtain ⟨x, x1, x2⟩ := s.hL.2.2 j t' e
      refine ⟨x, ?_, tp x2⟩
      rw [List.getElem?_append_left]
      · exact x1
      · rename_i h
        rw [← s.hL.2.1]
        exact h
    · rename_i h
      have e0 : j - ts.length = 0 := by
        cases hq : j - ts.length with
        | zero => rfl
        | succ k => rw [hq] at e; simp at e
      rw [e0] at e
      simp at e
      subst e
      refine ⟨(g, n), ?_, tp hT⟩
      rw [List.getElem?_append_right (by rw [← s.hL.2.1]; omega), ← s.hL.2.1, e0]
      rfl
end
def mkD (mk : Bool × Nat × Nat) (due : Int) : PyData := .tuple [.bool mk.1, .int mk.2.1, .int mk.2.2, .int due]
theorem dp_mk {K : PySem.W.Frag} {H : Hp} {t : Addr} {mk : Bool × Nat × Nat} {due : Int} (h : H t = some (.tup [.bl mk.1, .int mk.2.1, .int mk.2.2, .int due])) : Dp K H (.ref t) (mkD mk due) :=
  .tup (SqT.of h) (.cons (.bl _) (.cons (.int _) (.cons (.int _) (.cons (.int _) .nil))))
theorem fit_mk {mk : Bool × Nat × Nat} {due : Int} (h1 : mk.2.1 ≤ 1000) (h2 : mk.2.2 ≤ 1000) (h3 : 0 ≤ due) (h4 : due ≤ 100000000000000) : Sm (mkD mk due) 1 20 := by
  obtain ⟨d, rfl⟩ := Int.eq_ofNat_of_zero_le h3
  exact .tup (.cons (b1 := 2) (b2 := 14) (.bool (by decide)) (.cons (b1 := 2) (b2 := 10) (.int (by omega) (by decide)) (.cons (b1 := 2) (b2 := 6) (.int (by omega) (by decide)) (.cons (b1 := 2) (b2 := 2) (.int (by omega) (by decide)) .nil (by decide)) (by decide)) (by decide)) (by decide))
theorem good_le {r f i m : Nat} {mk : Bool × Nat × Nat} (h : Mk.Good r f i m mk) (hr : r ≤ 99) (hf : f ≤ 99) (hi : i ≤ m) (hm : m ≤ 99) : mk.2.1 ≤ 1000 ∧ mk.2.2 ≤ 1000 := by
  rcases h with ⟨_, a, b⟩ | ⟨_, _, a, b⟩ | ⟨_, a, j, _, b⟩ <;> omega
theorem good_pos {r f i m : Nat} {mk : Bool × Nat × Nat} (h : Mk.Good r f i m mk) (h1 : 1 ≤ i) (hi : i ≤ m) : 1 ≤ mk.2.2 := by
  rcases h with ⟨_, a, b⟩ | ⟨_, _, a, b⟩ | ⟨_, a, j, _, b⟩
  · omega
  · omega
  · have p : 1 ≤ i * 2 ^ j := Nat.le_trans h1 (Nat.le_mul_of_pos_right _ (Nat.pow_pos (by decide)))
    omega
def LawI (r f i m : Nat) (a0 p c a L : Addr) (j : Nat) (σ : L2.St) (H : Hp) : Prop := ∃ (t : Addr) (ts : List Addr) (lk : List (Bool × Int)) (now : Int) (g : Bool) (x7 x8 x9 : Option V),
  σ = [some (.ref a0), some (.ref p), some (.ref a), some (.ref t), some (.ref L), some (.int now), some (.bl g), x7, x8, x9] ∧
  LS r f i m p c a L ts lk t (Mk.mfold r f i m (gl lk)) (now + (Mk.mfold r f i m (gl lk)).2.2) H ∧ lk.length = j ∧ 0 ≤ now ∧ now ≤ (j : Int) * 1000000000000
section
variable {P : Program} {w : World} {K : PySem.W.Frag} {mg : Str → Option Value} {base : Heap} {tr : Tok}
def spLaw (K : PySem.W.Frag) : Sp := fun vs H Q _ => ∃ (a : Addr) (ns : List Int), vs = [.ref a] ∧ SqL K H a (ns.map V.int) ∧ ns.length ≤ 63 ∧ ∀ H', Q (.bl true) H'
set_option maxHeartbeats 4000000 in
theorem ok_law {f f1 f2 f3 f4 f5 f6 f7 f8 f9 fa : Addr} {fd fd1 fd2 fd3 fd4 fd5 fd6 fd7 fd8 fd9 fda : FuncData} (F : Fn K mg "law" s_law ["_law_script"] f fd) (B : Con mg tr)
    (F__law_deck : Fn K mg "_law_deck" s__law_deck ["_law_script"] f1 fd1) (G__law_deck : FnOk P w K mg base CX0 1 f1 fd1 ["_law_script"] (spDeck K))
    (F__law_draw : Fn K mg "_law_draw" s__law_draw ["_law_deck_here", "_law_many"] f2 fd2) (G__law_draw : FnOk P w K mg base CX0 1 f2 fd2 ["_law_deck_here", "_law_many"] spDraw)
    (F__law_pick : Fn K mg "_law_pick" s__law_pick ["_law_deck_here", "_law_some"] f3 fd3) (G__law_pick : FnOk P w K mg base CX0 2 f3 fd3 ["_law_deck_here", "_law_some"] spPick)
    (F__law_drawn_rule : Fn K mg "_law_drawn_rule" s__law_drawn_rule ["_law_deck_here"] f4 fd4) (G__law_drawn_rule : FnOk P w K mg base CX0 3 f4 fd4 ["_law_deck_here"] spDrawn)
    (F__law_mark_by : Fn K mg "_law_mark_by" s__law_mark_by ["_law_rule", "_law_looks"] f5 fd5) (G__law_mark_by : FnOk P w K mg base CX0 1 f5 fd5 ["_law_rule", "_law_looks"] spBy)
    (F_new_mark : Fn K mg "new_mark" s_new_mark ["rule"] f6 fd6) (G_new_mark : FnOk P w K mg base CX0 3 f6 fd6 ["rule"] spNew) (K_new_mark_rule : KwB K fd6 ["rule"] ["rule"] (fun x => x) (fun x => x))
    (F_is_health_rule : Fn K mg "is_health_rule" s_is_health_rule ["thing"] f7 fd7) (G_is_health_rule : FnOk P w K mg base CX0 2 f7 fd7 ["thing"] spRule)
    (F_looked : Fn K mg "looked" s_looked ["rule", "mark", "is_good", "now"] f8 fd8) (G_looked : FnOk P w K mg base CX0 4 f8 fd8 ["rule", "mark", "is_good", "now"] spLooked) (K_looked_now_is_good_mark_rule : KwB K fd8 ["rule", "mark", "is_good", "now"] ["now", "is_good", "mark", "rule"] List.reverse List.reverse)
    (F_is_mark : Fn K mg "is_mark" s_is_mark ["rule", "thing"] f9 fd9) (G_is_mark : FnOk P w K mg base CX0 3 f9 fd9 ["rule", "thing"] spMark)
    (F_is_due : Fn K mg "is_due" s_is_due ["rule", "mark", "now"] fa fda) (G_is_due : FnOk P w K mg base CX0 4 fa fda ["rule", "mark", "now"] spDue) (K_is_due_now_mark_rule : KwB K fda ["rule", "mark", "now"] ["now", "mark", "rule"] List.reverse List.reverse) :
    FnG P w K mg base 5 f fd ["_law_script"] (spLaw K) := by
  refine okG F.F sc_law (fun vs H Q E h => ?_) (fun cdv A outer s0 H vs Q E hr hG h => ?_)
  · obtain ⟨a, ns, rfl, _⟩ := h
    rfl
  · obtain ⟨a0, ns, rfl, hsc, hn, q⟩ := h
    refine ⟨_, (pss_cons (ps_set (i := 1) sc_law.nd rfl (.inl rfl) (pe_call G__law_deck (hr.mono (by decide)) (by rfl) F__law_deck.g F__law_deck.F.kp F__law_deck.b .nil pass0 (pa_cons (pv 0) pa_nil)))
      (pss_cons (ps_set (i := 2) sc_law.nd rfl (.inl rfl) (pe_call G__law_drawn_rule (hr.mono (by decide)) (by rfl) F__law_drawn_rule.g F__law_drawn_rule.F.kp F__law_drawn_rule.b .nil pass0 (pa_cons (pv 1) pa_nil)))
      (pss_cons (ps_asg (pe_tup (pa_cons (pe_call G_new_mark (hr.mono (by decide)) (by rfl) F_new_mark.g F_new_mark.F.kp F_new_mark.b .nil pass0 (pa_cons (pv 2) pa_nil)) (pa_cons (pe_lst pa_nil) (pa_cons pe_int (pa_cons pe_bl pa_nil))))) (pg_tup rfl (pgs_cons (pg_name (i := 3) sc_law.nd rfl (Or.inl rfl)) (pgs_cons (pg_name (i := 4) sc_law.nd rfl (Or.inl rfl)) (pgs_cons (pg_name (i := 5) sc_law.nd rfl (Or.inl rfl)) (pgs_cons (pg_name (i := 6) sc_law.nd rfl (Or.inl rfl)) pgs_nil))))))
      (pss_cons (ps_if (PW.pt (pw_or (pt_cmpR op_ne (pe_callB (call_repr_data (hu66 hr) hG) (by rfl) B.n_repr (by decide +kernel) (pa_cons (pe_tup (pa_cons (pv 3) (pa_cons (pe_callKwG (FnG.of G_new_mark) (hr.mono (by decide)) hG (by rfl) F_new_mark.g F_new_mark.F.kp K_new_mark_rule (pk_cons (pv 2) pk_nil)) pa_nil))) pa_nil)) (pe_callB (call_repr_data (hu66 hr) hG) (by rfl) B.n_repr (by decide +kernel) (pa_cons (pe_op op_repT (pe_tup (pa_cons (pe_call G__law_mark_by (hr.mono (by decide)) (by rfl) F__law_mark_by.g F__law_mark_by.F.kp F__law_mark_by.b .nil pass0 (pa_cons (pv 2) (pa_cons (pe_lst pa_nil) pa_nil))) pa_nil)) pe_int) pa_nil)) (nomark _)) (pw_or1 (pt_cmpR op_ne (pe_callB (call_repr_data (hu66 hr) hG) (by rfl) B.n_repr (by decide +kernel) (pa_cons (pe_call G_is_health_rule (hr.mono (by decide)) (by rfl) F_is_health_rule.g F_is_health_rule.F.kp F_is_health_rule.b .nil pass0 (pa_cons (pv 2) pa_nil)) pa_nil)) pe_str (nomark _)))))
      (pss_one (ps_ret pe_bl))
      pss_nil)
      (pss_cons (ps_for PassesOwn.never rfl (pi_range1 (by rfl) B.n_range (pa_cons (pe_call G__law_pick (hr.mono (by decide)) (by rfl) F__law_pick.g F__law_pick.F.kp F__law_pick.b .nil pass0 (pa_cons (pv 1) (pa_cons (pe_lst (pa_cons pe_int (pa_cons pe_int (pa_cons pe_int (pa_cons pe_int pa_nil))))) pa_nil))) pa_nil)) (pg_name (i := 7) sc_law.nd rfl (Or.inl rfl))
      (pss_cons (ps_set (i := 5) sc_law.nd rfl (.inl rfl) (pe_op op_add (pv 5) (pe_call G__law_pick (hr.mono (by decide)) (by rfl) F__law_pick.g F__law_pick.F.kp F__law_pick.b .nil pass0 (pa_cons (pv 1) (pa_cons (pe_lst (pa_cons pe_int (pa_cons pe_int (pa_cons pe_int (pa_cons pe_int (pa_cons (pe_call G__law_draw (hr.mono (by decide)) (by rfl) F__law_draw.g F__law_draw.F.kp F__law_draw.b .nil pass0 (pa_cons (pv 1) (pa_cons pe_int pa_nil))) (pa_cons (pe_op op_pow pe_int pe_int) pa_nil))))))) pa_nil)))))
        (pss_cons (ps_set (i := 6) sc_law.nd rfl (.inl rfl) (pe_ifExp (pt_cmpR op_gt (pe_call G__law_draw (hr.mono (by decide)) (by rfl) F__law_draw.g F__law_draw.F.kp F__law_draw.b .nil pass0 (pa_cons (pv 1) (pa_cons pe_int pa_nil))) pe_int (nomark _)) (pv 6) (pe_not (pv 6))))
        (pss_cons (ps_expr (pe_bm PySem.F.plainAttrs_list PySem.F.slot_list_append PySem.F.type_list_append mt_append (pv 4) (pa_cons (pe_tup (pa_cons (pv 6) (pa_cons (pv 5) pa_nil))) pa_nil)))
        (C8.pss_cut (ps_if (pt_cmpR op_eq (pe_call G__law_draw (hr.mono (by decide)) (by rfl) F__law_draw.g F__law_draw.F.kp F__law_draw.b .nil pass0 (pa_cons (pv 1) (pa_cons pe_int pa_nil))) pe_int (nomark _))
        (pss_one (ps_set (i := 3) sc_law.nd rfl (.inl rfl) (pe_callKwG (FnG.of G_looked) (hr.mono (by decide)) hG (by rfl) F_looked.g F_looked.F.kp K_looked_now_is_good_mark_rule (pk_cons (pv 5) (pk_cons (pv 6) (pk_cons (pv 3) (pk_cons (pv 2) pk_nil)))))))
        (pss_one (ps_set (i := 3) sc_law.nd rfl (.inl rfl) (pe_call G_looked (hr.mono (by decide)) (by rfl) F_looked.g F_looked.F.kp F_looked.b .nil pass0 (pa_cons (pv 2) (pa_cons (pv 3) (pa_cons (pv 6) (pa_cons (pv 5) pa_nil))))))))
        (pss_cons (ps_set (i := 8) sc_law.nd rfl (.inl rfl) (pe_call G__law_mark_by (hr.mono (by decide)) (by rfl) F__law_mark_by.g F__law_mark_by.F.kp F__law_mark_by.b .nil pass0 (pa_cons (pv 2) (pa_cons (pv 4) pa_nil))))
        (pss_cons (ps_if (PW.pt (pw_or (pt_cmpR op_ne (pe_callB (call_repr_data (hu66 hr) hG) (by rfl) B.n_repr (by decide +kernel) (pa_cons (pv 3) pa_nil)) (pe_callB (call_repr_data (hu66 hr) hG) (by rfl) B.n_repr (by decide +kernel) (pa_cons (pv 8) pa_nil)) (nomark _)) (pw_or1 (pt_cmpR op_ne (pe_callB (call_repr_data (hu66 hr) hG) (by rfl) B.n_repr (by decide +kernel) (pa_cons (pe_call G_is_mark (hr.mono (by decide)) (by rfl) F_is_mark.g F_is_mark.F.kp F_is_mark.b .nil pass0 (pa_cons (pv 2) (pa_cons (pv 3) pa_nil))) pa_nil)) pe_str (nomark _)))))
        (pss_one (ps_ret pe_bl))
        pss_nil)
        (pss_cons (ps_set (i := 9) sc_law.nd rfl (.inl rfl) (pe_call G__law_pick (hr.mono (by decide)) (by rfl) F__law_pick.g F__law_pick.F.kp F__law_pick.b .nil pass0 (pa_cons (pv 1) (pa_cons (pe_lst (pa_cons (pv 5) (pa_cons (pe_ix ix_tup (pv 8) pe_int (fun _ _ => rfl)) (pa_cons (pe_op op_sub (pe_ix ix_tup (pv 8) pe_int (fun _ _ => rfl)) pe_int) (pa_cons (pe_op op_add (pe_ix ix_tup (pv 8) pe_int (fun _ _ => rfl)) pe_int) pa_nil))))) pa_nil))))
        (pss_one (ps_if (pt_cmpR op_ne (pe_callB (call_repr_data (hu66 hr) hG) (by rfl) B.n_repr (by decide +kernel) (pa_cons (pe_tup (pa_cons (pe_call G_is_due (hr.mono (by decide)) (by rfl) F_is_due.g F_is_due.F.kp F_is_due.b .nil pass0 (pa_cons (pv 2) (pa_cons (pv 3) (pa_cons (pv 9) pa_nil)))) (pa_cons (pe_callKwG (FnG.of G_is_due) (hr.mono (by decide)) hG (by rfl) F_is_due.g F_is_due.F.kp K_is_due_now_mark_rule (pk_cons (pv 9) (pk_cons (pv 3) (pk_cons (pv 2) pk_nil)))) pa_nil))) pa_nil)) (pe_callB (call_repr_data (hu66 hr) hG) (by rfl) B.n_repr (by decide +kernel) (pa_cons (pe_op op_repT (pe_tup (pa_cons (pe_cmpR op_ge (pv 9) (pe_ix ix_tup (pv 8) pe_int (fun _ _ => rfl)) (nomark _)) pa_nil)) pe_int) pa_nil)) (nomark _))
        (pss_one (ps_ret pe_bl))
        pss_nil))))))))))
      (pss_one (ps_ret pe_bl))))))), ?_⟩
    refine ⟨_, rfl, a0, ns, rfl, hsc, hn, fun p c H1 hp hc sm1 dk => ?_⟩
    refine ⟨_, rfl, p, c, rfl, dk, fun a r f i m H2 g2 na1 na2 R => ?_⟩
    refine ⟨_, rfl, a, r, f, i, m, rfl, R, fun t H3 s3 ht => ?_⟩
    refine ⟨Nat.zero_le _, fun L hL => ?_⟩
    have dk3 := g2.2.same s3
    have nL := dk3.ne hL
    have S0 : LS r f i m p c a L [] [] t (true, 0, i) i (upd H3 L (.lst [])) := ⟨dk3.same (same_new hL), (R.to s3).to (same_new hL), ⟨same_new hL _ _ ht, .inl ⟨rfl, R.f1, rfl⟩, Int.le_refl _⟩, ⟨upd_same, rfl, fun j t e => by cases e⟩, nL.1, nL.2⟩
    generalize upd H3 L (.lst []) = H4 at S0 ⊢
    refine ⟨sz (by show 4 ≤ 16000000; decide), fun T hT => ⟨T, _, rfl, SqT.of upd_same, rfl, _, _, rfl, _, _, rfl, _, _, rfl, _, _, rfl, rfl, ?_⟩⟩
    have S0 := S0.same (same_new (o := .tup [.ref t, .ref L, .int 0, .bl true]) hT)
    generalize upd H4 T (.tup [.ref t, .ref L, .int 0, .bl true]) = H5 at S0 ⊢
    -- the new mark
    refine ⟨_, rfl, _, rfl, rfl, a, r, f, i, m, rfl, S0.R, fun t2 H6 s6 ht2 => ?_⟩
    have S6 := S0.same s6
    refine ⟨sz (by show 2 ≤ 16000000; decide), fun T2 hT2 => ?_⟩
    have s7 := same_new (o := .tup [.ref t, .ref t2]) hT2
    have hT7 : upd H6 T2 (.tup [.ref t, .ref t2]) T2 = some (.tup [.ref t, .ref t2]) := upd_same
    have ht7 := s7 _ _ ht2
    have S7 := S6.same s7
    generalize upd H6 T2 (.tup [.ref t, .ref t2]) = H7 at hT7 ht7 S7 ⊢
    have b1 := R.i1
    have b2 := R.im
    have b3 := R.m9
    have F0 : Sm (mkD (true, 0, i) i) 1 20 := fit_mk (by show 0 ≤ 1000; decide) (by show i ≤ 1000; omega) (by omega) (by omega)
    have F2 : Sm (.tuple [mkD (true, 0, i) i, mkD (true, 0, i) i]) 2 60 := (Sm.tup (b := 58) (.cons F0 (.cons (b2 := 0) F0 .nil (by show 20 + 0 + 2 ≤ 36; decide)) (by decide)))
    obtain ⟨z1, z2, z3, z4⟩ := (F2.fit (by decide) (by decide)).shown
    refine ⟨.ref T2, _, rfl, .tup (SqT.of hT7) (.cons (dp_mk (mk := (true, 0, i)) S7.M.at_) (.cons (dp_mk (mk := (true, 0, i)) (due := i) ht7) .nil)), z1, z2, z3, z4, ?_⟩
    refine ⟨_, rfl, Nat.zero_le _, fun Z hZ => ?_⟩
    have S8 := S7.same (same_new (o := .lst []) hZ)
    have hZ8 : upd H7 Z (.lst []) Z = some (.lst []) := upd_same
    generalize upd H7 Z (.lst []) = H8 at S8 hZ8 ⊢
    refine ⟨a, Z, [], [], r, f, i, m, rfl, S8.R, ⟨hZ8, rfl, fun j t e => by cases e⟩, (by decide), fun t3 H9 s9 ht3 => ?_⟩
    have S9 := S8.same s9
    refine ⟨sz (by show 1 ≤ 16000000; decide), fun T3 hT3 => ?_⟩
    have s10 := same_new (o := .tup [.ref t3]) hT3
    have hT10 : upd H9 T3 (.tup [.ref t3]) T3 = some (.tup [.ref t3]) := upd_same
    have ht10 := s10 _ _ ht3
    have S10 := S9.same s10
    generalize upd H9 T3 (.tup [.ref t3]) = H10 at hT10 ht10 S10 ⊢
    refine ⟨T3, 2, _, rfl, rfl, SqT.of hT10, (by simp), (by decide), (by decide), (by show 1 ≤ 1000; decide), fun T4 hT4 => ?_⟩
    have s11 := same_new (o := .tup [.ref t3, .ref t3]) hT4
    have hT11 : upd H10 T4 (.tup [.ref t3, .ref t3]) T4 = some (.tup [.ref t3, .ref t3]) := upd_same
    have ht11 := s11 _ _ ht10
    have S11 := S10.same s11
    have ht12 : upd H10 T4 (.tup [.ref t3, .ref t3]) t3 = some (.tup [.bl true, .int (0 : Nat), .int i, .int i]) := by
      rw [show lastN [] + ((Mk.mfold r f i m (gl [])).2.2 : Int) = (i : Int) from Int.zero_add _] at ht11
      exact ht11
    refine ⟨.ref T4, .tuple [mkD (true, 0, i) i, mkD (true, 0, i) i], rfl, .tup (SqT.of hT11) (.cons (dp_mk (mk := (true, 0, i)) (due := i) ?_) (.cons (dp_mk (mk := (true, 0, i)) (due := i) ?_) .nil)), z1, z2, z3, z4, ?_⟩
    · exact ht12
    · exact ht12
    refine ⟨rfl, _, rfl, ?_⟩
    rw [decide_eq_true rfl]
    refine iteF ⟨_, rfl, a, r, f, i, m, rfl, S11.R, fun H12 s12 => ?_⟩
    have S12 := S11.same s12
    obtain ⟨y1, y2, y3, y4⟩ := ((Sm.bool (c := true) (n := 1) (b := 5) (by decide)).fit (by decide) (by decide)).shown
    refine ⟨.bl true, _, rfl, .bl true, y1, y2, y3, y4, rfl, _, rfl, ?_⟩
    rw [PyData.shown_bool]
    refine iteF ?_
    -- the turns
    refine ⟨_, rfl, sz (by show 4 ≤ 16000000; decide), fun Z hZ => ⟨p, c, .ref Z, rfl, S12.dk.same (same_new hZ), .inl ⟨Z, _, rfl, At.new S12.dk hZ, (by show 1 ≤ 4; decide), (by show 4 ≤ 100000; decide), fun z x H13 hx g13 => ?_⟩⟩⟩
    have S13 := (S12.same (same_new hZ)).gx g13
    obtain ⟨n, n20, rfl⟩ : ∃ n : Nat, n ≤ 20 ∧ x = .int (n : Int) := by
      match z, hx with
      | 0, hx => exact ⟨12, by decide, (Option.some.inj hx).symm⟩
      | 1, hx => exact ⟨8, by decide, (Option.some.inj hx).symm⟩
      | 2, hx => exact ⟨16, by decide, (Option.some.inj hx).symm⟩
      | 3, hx => exact ⟨20, by decide, (Option.some.inj hx).symm⟩
      | z + 4, hx => cases hx
    refine ⟨_, rfl, by omega, by omega, ?_⟩
    refine for_range (lo := 0) (n := ((n : Nat) : Int).toNat) (LawI r f i m a0 p c a L) ⟨t, [], [], 0, true, _, _, _, rfl, ?_, rfl, Int.le_refl _, by decide⟩ ?_ ?_
    · rw [Int.zero_add]
      exact S13
    · rintro j σ Ha hj ⟨t, ts, lk, now, g, x7, x8, x9, rfl, Sa, hlk, hn0, hn9⟩
      have hj : j < 20 := by omega
      clear S13 S12 S11 S10 S9 S8 S7 S6 S0 ht12 ht11 ht10 hT11 hT10 hZ8 hT7 ht7 ht3 ht2
      -- the time
      refine ⟨_, rfl, _, rfl, _, rfl, p, c, 100000, rfl, Sa.dk, by decide, by decide, fun d Hb hd gb => ?_⟩
      have Sb := Sa.gx gb
      refine ⟨_, _, rfl, rfl, ⟨by decide, by decide, by decide⟩, sz (by show 6 ≤ 16000000; decide), fun Z hZ => ⟨p, c, .ref Z, rfl, Sb.dk.same (same_new hZ), .inl ⟨Z, _, rfl, At.new Sb.dk hZ, (by show 1 ≤ 6; decide), (by show 6 ≤ 100000; decide), fun z x Hc hx gc => ?_⟩⟩⟩
      have Sc := (Sb.same (same_new hZ)).gx gc
      obtain ⟨ad, ad0, ad9, rfl⟩ : ∃ ad : Int, 0 ≤ ad ∧ ad ≤ 1000000000000 ∧ x = .int ad := by
        match z, hx with
        | 0, hx => exact ⟨0, by decide, by decide, (Option.some.inj hx).symm⟩
        | 1, hx => exact ⟨1, by decide, by decide, (Option.some.inj hx).symm⟩
        | 2, hx => exact ⟨3, by decide, by decide, (Option.some.inj hx).symm⟩
        | 3, hx => exact ⟨50, by decide, by decide, (Option.some.inj hx).symm⟩
        | 4, hx => exact ⟨d, by omega, by omega, (Option.some.inj hx).symm⟩
        | 5, hx => exact ⟨10 ^ 12, by decide, by decide, (Option.some.inj hx).symm⟩
        | z + 6, hx => cases hx
      refine ⟨_, _, rfl, rfl, ?_⟩
      have hm0 : 0 ≤ now + ad := by omega
      have hm9 : now + ad ≤ ((j + 1 : Nat) : Int) * 1000000000000 := by omega
      -- good or bad
      unfold gName
      dsimp only
      unfold tSeq
      dsimp only
      unfold tAsg
      refine testE (fun v H' => ∃ g2 : Bool, v = .bl g2 ∧ Gx p c Hc H') (fun Q' hQ' => ?_) ?_
      · refine ⟨_, rfl, p, c, 3, rfl, Sc.dk, by decide, by decide, fun d2 Hd hd2 gd => ⟨_, _, rfl, rfl, _, rfl, ite2 (fun _ => ?_) (fun _ => ?_)⟩⟩
        · exact ⟨_, rfl, hQ' _ _ ⟨g, rfl, gd⟩⟩
        · exact ⟨_, rfl, _, rfl, hQ' _ _ ⟨!g, rfl, gd⟩⟩
      rintro _ Hd ⟨g2, rfl, gd⟩
      have Sd := Sc.gx gd
      -- the look
      refine ⟨_, rfl, .inl ⟨rfl, _, SqL.of Sd.hL.1⟩, _, rfl, _, rfl, sz (by show 2 ≤ 16000000; decide), fun T hT => ?_⟩
      have Se := Sd.same (same_new (o := .tup [.bl g2, .int (now + ad)]) hT)
      have hTe : upd Hd T (.tup [.bl g2, .int (now + ad)]) T = some (.tup [.bl g2, .int (now + ad)]) := upd_same
      generalize upd Hd T (.tup [.bl g2, .int (now + ad)]) = He at Se hTe ⊢
      have hl := Se.hL.2.1
      refine ⟨L, _, _, rfl, rfl, Se.hL.1, by rw [List.length_map, sizeLine_eq]; omega, ?_⟩
      have Sf := Se.app hTe
      generalize upd He L (.lst (ts.map V.ref ++ [.ref T])) = Hf at Sf ⊢
      have eg : gl (lk ++ [(g2, (now + ad))]) = gl lk ++ [g2] := by simp [gl]
      have ef : Mk.mfold r f i m (gl (lk ++ [(g2, (now + ad))])) = Mk.mstep r f i m (Mk.mfold r f i m (gl lk)) g2 := by
        rw [eg]
        unfold Mk.mfold
        rw [List.foldl_append]
        rfl
      generalize hmk : Mk.mfold r f i m (gl lk) = mk at Sf ef
      have hln : lastN (lk ++ [(g2, (now + ad))]) = (now + ad) := by simp [lastN]
      have hln2 : (lk ++ [(g2, (now + ad))]).length = j + 1 := by simp [hlk]
      generalize ts ++ [T] = ts2 at Sf
      generalize lk ++ [(g2, (now + ad))] = lk2 at Sf eg ef hln hln2
      have hstep : Mk.mstep r f i m mk g2 = Mk.mfold r f i m (gl lk2) := ef.symm
      clear ef eg
      obtain ⟨mk2, hmf⟩ : ∃ x, Mk.mfold r f i m (gl lk2) = x := ⟨_, rfl⟩
      rw [hmf] at hstep
      refine ⟨fun σ H' => ∃ t2, σ = [some (.ref a0), some (.ref p), some (.ref a), some (.ref t2), some (.ref L), some (.int (now + ad)), some (.bl g2), some (.int (0 + (j : Int))), x8, x9] ∧ LS r f i m p c a L ts2 lk2 t2 mk2 (now + ad + mk2.2.2) H', ?_, ?_⟩
      · refine ⟨_, rfl, p, c, 4, rfl, Sf.dk, by decide, by decide, fun d2 Hg hd2 gg => ⟨rfl, _, rfl, ite2 (fun _ => ?_) (fun _ => ?_)⟩⟩
        all_goals have Sg := Sf.gx gg
        · refine ⟨_, rfl, _, rfl, _, rfl, _, rfl, rfl, a, t, r, f, i, m, mk, g2, _, now + ad, rfl, Sg.R, Sg.M, hm0, fun t2 Hh sh Mh => ?_⟩
          rw [hstep] at Mh
          exact ⟨t2, rfl, Sg.dk.same sh, Sg.R.to sh, Mh, Sg.hL.to sh, Sg.n1, Sg.n2⟩
        · refine ⟨_, rfl, _, rfl, _, rfl, _, rfl, a, t, r, f, i, m, mk, g2, _, now + ad, rfl, Sg.R, Sg.M, hm0, fun t2 Hh sh Mh => ?_⟩
          rw [hstep] at Mh
          exact ⟨t2, rfl, Sg.dk.same sh, Sg.R.to sh, Mh, Sg.hL.to sh, Sg.n1, Sg.n2⟩
      rintro σ Hg ⟨t2, rfl, Sg⟩
      -- the mark by all looks
      refine ⟨_, rfl, _, rfl, a, L, ts2, lk2, r, f, i, m, rfl, Sg.R, Sg.hL, by omega, fun t3 Hh sh ht3 => ?_⟩
      have Sh := Sg.same sh
      rw [hmf, hln] at ht3
      obtain ⟨u2, run2, wait2⟩ := mk2
      obtain ⟨gl1, gl2⟩ := good_le Sh.M.ok R.r9 R.f9 R.im R.m9
      have gp : 1 ≤ wait2 := good_pos Sh.M.ok R.i1 R.im
      have gl1 : run2 ≤ 1000 := gl1
      have gl2 : wait2 ≤ 1000 := gl2
      have htm : now + ad + (wait2 : Int) ≤ 100000000000000 := by omega
      have ht3 : Hh t3 = some (.tup [.bl u2, .int run2, .int wait2, .int (now + ad + wait2)]) := ht3
      obtain ⟨z1, z2, z3, z4⟩ := ((fit_mk (mk := (u2, run2, wait2)) (due := now + ad + wait2) gl1 gl2 (by omega) htm).fit (by decide) (by decide)).shown
      refine ⟨_, rfl, .ref t2, mkD (u2, run2, wait2) (now + ad + wait2), rfl, dp_mk Sh.M.at_, z1, z2, z3, z4, _, rfl, .ref t3, mkD (u2, run2, wait2) (now + ad + wait2), rfl, dp_mk (mk := (u2, run2, wait2)) ht3, z1, z2, z3, z4, rfl, _, rfl, ?_⟩
      rw [decide_eq_true rfl]
      refine iteF ⟨_, rfl, _, rfl, a, t2, r, f, i, m, u2, run2, wait2, now + ad + wait2, rfl, Sh.R, Sh.M.at_, Sh.M.ok, Sh.M.le, fun Hi si => ?_⟩
      have Si := Sh.same si
      have ht3 := si _ _ ht3
      obtain ⟨y1, y2, y3, y4⟩ := ((Sm.bool (c := true) (n := 1) (b := 5) (by decide)).fit (by decide) (by decide)).shown
      refine ⟨.bl true, _, rfl, .bl true, y1, y2, y3, y4, rfl, _, rfl, ?_⟩
      rw [PyData.shown_bool]
      refine iteF ?_
      -- a time
      refine ⟨_, rfl, _, rfl, _, rfl, t3, _, _, _, rfl, rfl, SqT.of ht3, atI_nat (j := 3) rfl, _, rfl, t3, _, _, _, rfl, rfl, SqT.of ht3, atI_nat (j := 3) rfl, _, _, rfl, rfl, _, rfl, t3, _, _, _, rfl, rfl, SqT.of ht3, atI_nat (j := 3) rfl, _, _, rfl, rfl, ?_⟩
      refine ⟨sz (by show 4 ≤ 16000000; decide), fun Z hZ => ⟨p, c, .ref Z, rfl, Si.dk.same (same_new hZ), .inl ⟨Z, _, rfl, At.new Si.dk hZ, (by show 1 ≤ 4; decide), (by show 4 ≤ 100000; decide), fun z x Hj hx gj => ?_⟩⟩⟩
      have Sj := (Si.same (same_new hZ)).gx gj
      have ht3 := tup_gx (Si.dk.same (same_new hZ)) gj (same_new hZ _ _ ht3)
      obtain ⟨tm, tm0, rfl⟩ : ∃ tm : Int, 0 ≤ tm ∧ x = .int tm := by
        match z, hx with
        | 0, hx => exact ⟨_, hm0, (Option.some.inj hx).symm⟩
        | 1, hx => exact ⟨_, (by omega : 0 ≤ now + ad + wait2), (Option.some.inj hx).symm⟩
        | 2, hx => exact ⟨_, (by omega : 0 ≤ now + ad + wait2 - 1), (Option.some.inj hx).symm⟩
        | 3, hx => exact ⟨_, (by omega : 0 ≤ now + ad + wait2 + 1), (Option.some.inj hx).symm⟩
        | z + 4, hx => cases hx
      -- due at that time
      refine ⟨_, rfl, _, rfl, _, rfl, a, t2, r, f, i, m, _, _, tm, rfl, Sj.R, Sj.M, tm0, fun Hk sk => ?_⟩
      have Sk := Sj.same sk
      refine ⟨_, rfl, _, rfl, _, rfl, rfl, a, t2, r, f, i, m, _, _, tm, rfl, Sk.R, Sk.M, tm0, fun Hl sl => ?_⟩
      have Sl := Sk.same sl
      have ht3 := sl _ _ (sk _ _ ht3)
      generalize hb : decide (now + ad + (((u2, run2, wait2) : Bool × Nat × Nat).2.2 : Int) ≤ tm) = b
      refine ⟨sz (by show 2 ≤ 16000000; decide), fun T5 hT5 => ?_⟩
      have s5 := same_new (o := .tup [.bl b, .bl b]) hT5
      have hT5' : upd Hl T5 (.tup [.bl b, .bl b]) T5 = some (.tup [.bl b, .bl b]) := upd_same
      have Sm' := Sl.same s5
      have ht3 := s5 _ _ ht3
      generalize upd Hl T5 (.tup [.bl b, .bl b]) = Hm at hT5' Sm' ht3 ⊢
      have FB : Sm (.tuple [.bool b, .bool b]) 1 20 := .tup (.cons (b1 := 2) (b2 := 6) (.bool (by decide)) (.cons (b1 := 2) (b2 := 2) (.bool (by decide)) .nil (by decide)) (by decide))
      obtain ⟨w1, w2, w3, w4⟩ := (FB.fit (by decide) (by decide)).shown
      refine ⟨.ref T5, .tuple [.bool b, .bool b], rfl, .tup (SqT.of hT5') (.cons (.bl b) (.cons (.bl b) .nil)), w1, w2, w3, w4, ?_⟩
      refine ⟨_, rfl, _, rfl, t3, _, _, _, rfl, rfl, SqT.of ht3, atI_nat (j := 3) rfl, _, _, rfl, rfl, ?_⟩
      refine ⟨sz (by show 1 ≤ 16000000; decide), fun T6 hT6 => ?_⟩
      have hT6' : upd Hm T6 (.tup [.bl b]) T6 = some (.tup [.bl b]) := upd_same
      have hbv : (V.bl (decide (tm ≥ now + ad + (wait2 : Int)))) = .bl b := congrArg V.bl hb
      refine ⟨T6, 2, [.bl b], rfl, rfl, SqT.of ?_, (by simp), (by decide), (by decide), (by show 1 ≤ 1000; decide), fun T7 hT7 => ?_⟩
      · rw [upd_same]
        exact congrArg (fun z => some (HO.tup [z])) hbv
      refine ⟨.ref T7, .tuple [.bool b, .bool b], rfl, .tup (SqT.of (xs := [.bl b, .bl b]) upd_same) (.cons (.bl b) (.cons (.bl b) .nil)), w1, w2, w3, w4, rfl, _, rfl, ?_⟩
      rw [decide_eq_true rfl]
      refine iteF ⟨t2, ts2, lk2, now + ad, g2, _, _, _, rfl, ?_, hln2, hm0, hm9⟩
      have So := (Sm'.same (same_new hT6)).same (same_new (o := .tup [.bl b, .bl b]) hT7)
      rw [hmf]
      exact So
    · rintro σ Ha ⟨t, ts, lk, now, g, x7, x8, x9, rfl, _⟩
      exact q _
end
end Ag

end
/-! ## E -/
section
set_option linter.all false
set_option maxRecDepth 100000
namespace Ag
open PySem PySem.Spec PyProof.Rows L2
theorem vals_app : ∀ {a : List V} {b : List Value} {c : List V} {d : List Value}, Vals a b → Vals c d → Vals (a ++ c) (b ++ d)
  | [], [], _, _, _, h => h
  | _ :: _, _ :: _, _, _, .cons h t, k => .cons h (vals_app t k)
theorem vals_rev : ∀ {a : List V} {b : List Value}, Vals a b → Vals a.reverse b.reverse
  | [], [], _ => .nil
  | _ :: _, _ :: _, .cons h t => by
    rw [List.reverse_cons, List.reverse_cons]
    exact vals_app (vals_rev t) (.cons h .nil)
set_option maxHeartbeats 4000000 in
theorem all_mk {l : PySem.W.OpenLaw} {w : World} {K : PySem.W.Frag} {h : Heap} {mg : Str → Option Value} {fa f0 f1 f2 f3 f4 f5 f6 f7 f8 f9 f10 f11 f12 : Addr} (X : K.In h) (G : h.Ns mainGlobals mg) (hfa : mg "law" = some (.ref fa))
    {od0 an0 od1 an1 od2 an2 od3 an3 od4 an4 od5 an5 od6 an6 od7 an7 od8 an8 od9 an9 od10 an10 od11 an11 od12 an12 : Option Addr} {sl0 sl1 sl2 sl3 sl4 sl5 sl6 sl7 sl8 sl9 sl10 sl11 sl12 : Array (Option Value)} {oc0 kV0 dc0 pm0 ct0 cd0 oc1 kV1 dc1 pm1 ct1 cd1 oc2 kV2 dc2 pm2 ct2 cd2 oc3 kV3 dc3 pm3 ct3 cd3 oc4 kV4 dc4 pm4 ct4 cd4 oc5 kV5 dc5 pm5 ct5 cd5 oc6 kV6 dc6 pm6 ct6 cd6 oc7 kV7 dc7 pm7 ct7 cd7 oc8 kV8 dc8 pm8 ct8 cd8 oc9 kV9 dc9 pm9 ct9 cd9 oc10 kV10 dc10 pm10 ct10 cd10 oc11 kV11 dc11 pm11 ct11 cd11 oc12 kV12 dc12 pm12 ct12 cd12 : Value} {tk0 : Tok}
    (a0 : PySem.W.nsIn K mainGlobals "is_integer" = some (some (.ref f0))) (l0 : K.lookup f0 = some ⟨oc0, od0, .func (PySem.W.fnOf "is_integer" "is_integer" (defArgs s_is_integer) (defBody s_is_integer) (defScope s_is_integer) .none kV0 dc0 pm0 an0 cd0 ct0), sl0⟩) (c0 : PySem.W.codeIn K cd0 "is_integer" = true) (k0 : PySem.W.keepIn K (.ref f0) = true)
    (a1 : PySem.W.nsIn K mainGlobals "is_health_rule" = some (some (.ref f1))) (l1 : K.lookup f1 = some ⟨oc1, od1, .func (PySem.W.fnOf "is_health_rule" "is_health_rule" (defArgs s_is_health_rule) (defBody s_is_health_rule) (defScope s_is_health_rule) .none kV1 dc1 pm1 an1 cd1 ct1), sl1⟩) (c1 : PySem.W.codeIn K cd1 "is_health_rule" = true) (k1 : PySem.W.keepIn K (.ref f1) = true)
    (a2 : PySem.W.nsIn K mainGlobals "is_mark" = some (some (.ref f2))) (l2 : K.lookup f2 = some ⟨oc2, od2, .func (PySem.W.fnOf "is_mark" "is_mark" (defArgs s_is_mark) (defBody s_is_mark) (defScope s_is_mark) .none kV2 dc2 pm2 an2 cd2 ct2), sl2⟩) (c2 : PySem.W.codeIn K cd2 "is_mark" = true) (k2 : PySem.W.keepIn K (.ref f2) = true)
    (a3 : PySem.W.nsIn K mainGlobals "doubled_waits" = some (some (.ref f3))) (l3 : K.lookup f3 = some ⟨oc3, od3, .func (PySem.W.fnOf "doubled_waits" "doubled_waits" (defArgs s_doubled_waits) (defBody s_doubled_waits) (defScope s_doubled_waits) .none kV3 dc3 pm3 an3 cd3 ct3), sl3⟩) (c3 : PySem.W.codeIn K cd3 "doubled_waits" = true) (k3 : PySem.W.keepIn K (.ref f3) = true)
    (a4 : PySem.W.nsIn K mainGlobals "new_mark" = some (some (.ref f4))) (l4 : K.lookup f4 = some ⟨oc4, od4, .func (PySem.W.fnOf "new_mark" "new_mark" (defArgs s_new_mark) (defBody s_new_mark) (defScope s_new_mark) .none kV4 dc4 pm4 an4 cd4 ct4), sl4⟩) (c4 : PySem.W.codeIn K cd4 "new_mark" = true) (k4 : PySem.W.keepIn K (.ref f4) = true)
    (a5 : PySem.W.nsIn K mainGlobals "looked" = some (some (.ref f5))) (l5 : K.lookup f5 = some ⟨oc5, od5, .func (PySem.W.fnOf "looked" "looked" (defArgs s_looked) (defBody s_looked) (defScope s_looked) .none kV5 dc5 pm5 an5 cd5 ct5), sl5⟩) (c5 : PySem.W.codeIn K cd5 "looked" = true) (k5 : PySem.W.keepIn K (.ref f5) = true)
    (a6 : PySem.W.nsIn K mainGlobals "is_due" = some (some (.ref f6))) (l6 : K.lookup f6 = some ⟨oc6, od6, .func (PySem.W.fnOf "is_due" "is_due" (defArgs s_is_due) (defBody s_is_due) (defScope s_is_due) .none kV6 dc6 pm6 an6 cd6 ct6), sl6⟩) (c6 : PySem.W.codeIn K cd6 "is_due" = true) (k6 : PySem.W.keepIn K (.ref f6) = true)
    (a7 : PySem.W.nsIn K mainGlobals "_law_deck" = some (some (.ref f7))) (l7 : K.lookup f7 = some ⟨oc7, od7, .func (PySem.W.fnOf "_law_deck" "_law_deck" (defArgs s__law_deck) (defBody s__law_deck) (defScope s__law_deck) .none kV7 dc7 pm7 an7 cd7 ct7), sl7⟩) (c7 : PySem.W.codeIn K cd7 "_law_deck" = true) (k7 : PySem.W.keepIn K (.ref f7) = true)
    (a8 : PySem.W.nsIn K mainGlobals "_law_draw" = some (some (.ref f8))) (l8 : K.lookup f8 = some ⟨oc8, od8, .func (PySem.W.fnOf "_law_draw" "_law_draw" (defArgs s__law_draw) (defBody s__law_draw) (defScope s__law_draw) .none kV8 dc8 pm8 an8 cd8 ct8), sl8⟩) (c8 : PySem.W.codeIn K cd8 "_law_draw" = true) (k8 : PySem.W.keepIn K (.ref f8) = true)
    (a9 : PySem.W.nsIn K mainGlobals "_law_pick" = some (some (.ref f9))) (l9 : K.lookup f9 = some ⟨oc9, od9, .func (PySem.W.fnOf "_law_pick" "_law_pick" (defArgs s__law_pick) (defBody s__law_pick) (defScope s__law_pick) .none kV9 dc9 pm9 an9 cd9 ct9), sl9⟩) (c9 : PySem.W.codeIn K cd9 "_law_pick" = true) (k9 : PySem.W.keepIn K (.ref f9) = true)
    (a10 : PySem.W.nsIn K mainGlobals "_law_drawn_rule" = some (some (.ref f10))) (l10 : K.lookup f10 = some ⟨oc10, od10, .func (PySem.W.fnOf "_law_drawn_rule" "_law_drawn_rule" (defArgs s__law_drawn_rule) (defBody s__law_drawn_rule) (defScope s__law_drawn_rule) .none kV10 dc10 pm10 an10 cd10 ct10), sl10⟩) (c10 : PySem.W.codeIn K cd10 "_law_drawn_rule" = true) (k10 : PySem.W.keepIn K (.ref f10) = true)
    (a11 : PySem.W.nsIn K mainGlobals "_law_mark_by" = some (some (.ref f11))) (l11 : K.lookup f11 = some ⟨oc11, od11, .func (PySem.W.fnOf "_law_mark_by" "_law_mark_by" (defArgs s__law_mark_by) (defBody s__law_mark_by) (defScope s__law_mark_by) .none kV11 dc11 pm11 an11 cd11 ct11), sl11⟩) (c11 : PySem.W.codeIn K cd11 "_law_mark_by" = true) (k11 : PySem.W.keepIn K (.ref f11) = true)
    (a12 : PySem.W.nsIn K mainGlobals "law" = some (some (.ref f12))) (l12 : K.lookup f12 = some ⟨oc12, od12, .func (PySem.W.fnOf "law" "law" (defArgs s_law) (defBody s_law) (defScope s_law) .none kV12 dc12 pm12 an12 cd12 ct12), sl12⟩) (c12 : PySem.W.codeIn K cd12 "law" = true) (k12 : PySem.W.keepIn K (.ref f12) = true)
    (z0 : PySem.W.nsIn K mainGlobals "len" = some none)
    (z1 : PySem.W.nsIn K mainGlobals "int" = some none)
    (z2 : PySem.W.nsIn K mainGlobals "isinstance" = some none)
    (z3 : PySem.W.nsIn K mainGlobals "range" = some none)
    (z4 : PySem.W.nsIn K mainGlobals "tuple" = some none)
    (z5 : PySem.W.nsIn K mainGlobals "list" = some none)
    (z6 : PySem.W.nsIn K mainGlobals "max" = some none)
    (z7 : PySem.W.nsIn K mainGlobals "min" = some none)
    (z8 : PySem.W.nsIn K mainGlobals "sorted" = some none)
    (z9 : PySem.W.nsIn K mainGlobals "repr" = some none)
    (z10 : PySem.W.nsIn K mainGlobals "bool" = some none)
    (z11 : PySem.W.nsIn K mainGlobals "all" = some none)
    (x0 : PySem.W.nsIn K mainGlobals "RULE_MOST" = some (some (.int 99 tk0)))
    :
    ∃ fd : FuncData, (∀ (s : Shared) (v : Value), BindsTo s fd ⟨[v], []⟩ [("_law_script", v)]) ∧ ∀ base : Heap, K.In base → base.Ns mainGlobals mg → FnG l.prog w K mg base 5 fa fd ["_law_script"] (spLaw K) := by
  have e := hfa.symm.trans (PySem.W.mg_of X G a12)
  cases e
  have B : Blt mg := ⟨PySem.W.mg_none_of X G z0, PySem.W.mg_none_of X G z1, PySem.W.mg_none_of X G z2, PySem.W.mg_none_of X G z3, PySem.W.mg_none_of X G z4, PySem.W.mg_none_of X G z5, PySem.W.mg_none_of X G z6, PySem.W.mg_none_of X G z7, PySem.W.mg_none_of X G z8, PySem.W.mg_none_of X G z9, PySem.W.mg_none_of X G z10, PySem.W.mg_none_of X G z11⟩
  have Cn : Con mg tk0 := ⟨B, PySem.W.mg_of X G x0⟩
  have U0 := fun_mk (st := s_is_integer) l0 c0 k0
  have b0 := U0.binds (ps := ["thing"]) fun _ _ _ _ _ _ us hl => match us, hl with | [_], _ => rfl
  have F0 : Fn K mg "is_integer" s_is_integer ["thing"] _ _ := ⟨U0, b0, PySem.W.mg_of X G a0⟩
  have U1 := fun_mk (st := s_is_health_rule) l1 c1 k1
  have b1 := U1.binds (ps := ["thing"]) fun _ _ _ _ _ _ us hl => match us, hl with | [_], _ => rfl
  have F1 : Fn K mg "is_health_rule" s_is_health_rule ["thing"] _ _ := ⟨U1, b1, PySem.W.mg_of X G a1⟩
  have U2 := fun_mk (st := s_is_mark) l2 c2 k2
  have b2 := U2.binds (ps := ["rule", "thing"]) fun _ _ _ _ _ _ us hl => match us, hl with | [_, _], _ => rfl
  have F2 : Fn K mg "is_mark" s_is_mark ["rule", "thing"] _ _ := ⟨U2, b2, PySem.W.mg_of X G a2⟩
  have U3 := fun_mk (st := s_doubled_waits) l3 c3 k3
  have b3 := U3.binds (ps := ["rule"]) fun _ _ _ _ _ _ us hl => match us, hl with | [_], _ => rfl
  have F3 : Fn K mg "doubled_waits" s_doubled_waits ["rule"] _ _ := ⟨U3, b3, PySem.W.mg_of X G a3⟩
  have U4 := fun_mk (st := s_new_mark) l4 c4 k4
  have b4 := U4.binds (ps := ["rule"]) fun _ _ _ _ _ _ us hl => match us, hl with | [_], _ => rfl
  have F4 : Fn K mg "new_mark" s_new_mark ["rule"] _ _ := ⟨U4, b4, PySem.W.mg_of X G a4⟩
  have U5 := fun_mk (st := s_looked) l5 c5 k5
  have b5 := U5.binds (ps := ["rule", "mark", "is_good", "now"]) fun _ _ _ _ _ _ us hl => match us, hl with | [_, _, _, _], _ => rfl
  have F5 : Fn K mg "looked" s_looked ["rule", "mark", "is_good", "now"] _ _ := ⟨U5, b5, PySem.W.mg_of X G a5⟩
  have U6 := fun_mk (st := s_is_due) l6 c6 k6
  have b6 := U6.binds (ps := ["rule", "mark", "now"]) fun _ _ _ _ _ _ us hl => match us, hl with | [_, _, _], _ => rfl
  have F6 : Fn K mg "is_due" s_is_due ["rule", "mark", "now"] _ _ := ⟨U6, b6, PySem.W.mg_of X G a6⟩
  have U7 := fun_mk (st := s__law_deck) l7 c7 k7
  have b7 := U7.binds (ps := ["_law_script"]) fun _ _ _ _ _ _ us hl => match us, hl with | [_], _ => rfl
  have F7 : Fn K mg "_law_deck" s__law_deck ["_law_script"] _ _ := ⟨U7, b7, PySem.W.mg_of X G a7⟩
  have U8 := fun_mk (st := s__law_draw) l8 c8 k8
  have b8 := U8.binds (ps := ["_law_deck_here", "_law_many"]) fun _ _ _ _ _ _ us hl => match us, hl with | [_, _], _ => rfl
  have F8 : Fn K mg "_law_draw" s__law_draw ["_law_deck_here", "_law_many"] _ _ := ⟨U8, b8, PySem.W.mg_of X G a8⟩
  have U9 := fun_mk (st := s__law_pick) l9 c9 k9
  have b9 := U9.binds (ps := ["_law_deck_here", "_law_some"]) fun _ _ _ _ _ _ us hl => match us, hl with | [_, _], _ => rfl
  have F9 : Fn K mg "_law_pick" s__law_pick ["_law_deck_here", "_law_some"] _ _ := ⟨U9, b9, PySem.W.mg_of X G a9⟩
  have U10 := fun_mk (st := s__law_drawn_rule) l10 c10 k10
  have b10 := U10.binds (ps := ["_law_deck_here"]) fun _ _ _ _ _ _ us hl => match us, hl with | [_], _ => rfl
  have F10 : Fn K mg "_law_drawn_rule" s__law_drawn_rule ["_law_deck_here"] _ _ := ⟨U10, b10, PySem.W.mg_of X G a10⟩
  have U11 := fun_mk (st := s__law_mark_by) l11 c11 k11
  have b11 := U11.binds (ps := ["_law_rule", "_law_looks"]) fun _ _ _ _ _ _ us hl => match us, hl with | [_, _], _ => rfl
  have F11 : Fn K mg "_law_mark_by" s__law_mark_by ["_law_rule", "_law_looks"] _ _ := ⟨U11, b11, PySem.W.mg_of X G a11⟩
  have U12 := fun_mk (st := s_law) l12 c12 k12
  have b12 := U12.binds (ps := ["_law_script"]) fun _ _ _ _ _ _ us hl => match us, hl with | [_], _ => rfl
  have F12 : Fn K mg "law" s_law ["_law_script"] _ _ := ⟨U12, b12, PySem.W.mg_of X G a12⟩
  have Kn : KwB K (PySem.W.fnOf "new_mark" "new_mark" (defArgs s_new_mark) (defBody s_new_mark) (defScope s_new_mark) .none kV4 dc4 pm4 an4 cd4 ct4) ["rule"] ["rule"] (fun u => u) (fun u => u) := ⟨fun s ws hl => match ws, hl with | [y0], _ => .of_eq rfl, fun _ r => r⟩
  have Kl : KwB K (PySem.W.fnOf "looked" "looked" (defArgs s_looked) (defBody s_looked) (defScope s_looked) .none kV5 dc5 pm5 an5 cd5 ct5) ["rule", "mark", "is_good", "now"] ["now", "is_good", "mark", "rule"] List.reverse List.reverse := ⟨fun s ws hl => match ws, hl with | [y0, y1, y2, y3], _ => .of_eq rfl, fun _ r => vals_rev r⟩
  have Kd : KwB K (PySem.W.fnOf "is_due" "is_due" (defArgs s_is_due) (defBody s_is_due) (defScope s_is_due) .none kV6 dc6 pm6 an6 cd6 ct6) ["rule", "mark", "now"] ["now", "mark", "rule"] List.reverse List.reverse := ⟨fun s ws hl => match ws, hl with | [y0, y1, y2], _ => .of_eq rfl, fun _ r => vals_rev r⟩
  refine ⟨PySem.W.fnOf "law" "law" (defArgs s_law) (defBody s_law) (defScope s_law) .none kV12 dc12 pm12 an12 cd12 ct12, fun s v => .of_eq rfl, fun base _ _ => ?_⟩
  have Gint : FnOk l.prog w K mg base CX0 _ _ _ _ _ := ok_is_integer F0 B
  have Grule : FnOk l.prog w K mg base CX0 _ _ _ _ _ := ok_is_rule F1 Cn F0
  have Gmark : FnOk l.prog w K mg base CX0 _ _ _ _ _ := ok_is_mark F2 Cn F0 F1 F3
  have Gnew : FnOk l.prog w K mg base CX0 _ _ _ _ _ := ok_new F4 Cn F1 Grule
  have Glook : FnOk l.prog w K mg base CX0 _ _ _ _ _ := ok_looked F5 Cn F2 Gmark F0 Gint
  have Gdue : FnOk l.prog w K mg base CX0 _ _ _ _ _ := ok_due F6 Cn F2 Gmark F0 Gint
  have Gdeck : FnOk l.prog w K mg base CX0 _ _ _ _ _ := ok_deck F7 B
  have Gdraw : FnOk l.prog w K mg base CX0 _ _ _ _ _ := ok_draw F8 B
  have Gpick : FnOk l.prog w K mg base CX0 _ _ _ _ _ := ok_pick F9 B F8
  have Gdrawn : FnOk l.prog w K mg base CX0 _ _ _ _ _ := ok_drawn F10 B F9 Gpick F8 Gdraw
  have Gby : FnOk l.prog w K mg base CX0 _ _ _ _ _ := ok_by F11 B
  exact ok_law F12 Cn F7 Gdeck F8 Gdraw F9 Gpick F10 Gdrawn F11 Gby F4 Gnew Kn F1 Grule F5 Glook Kl F2 Gmark F6 Gdue Kd
end Ag

end
/-! ## Tail -/
open PySem PySem.W PyProof.Rows
set_option maxRecDepth 100000 in
set_option maxHeartbeats 0 in
theorem PySem.Challenge.cw_answergate_k22_whole_marks_under_any_loo_holds : PySem.Challenge.rw_answergate_k22_whole_marks_under_any_loo.Holds := by
  w_on; o_law; k_head; (case hw => w_witness2)
  k_fill
  refine Ag.walkG (l := PySem.Challenge.rw_answergate_k22_whole_marks_under_any_loo) (n := 63) (k := 5) (x := "_law_script") (sp := Ag.spLaw) rfl (by decide) rfl ⟨rfl, by decide, by decide⟩ (fun w h Y => PySem.W.kIn_of Y) ?F (fun K H a ns hl hS => ⟨a, ns, rfl, hS, hl, fun _ => rfl⟩)
  case F =>
    intro w mg fa h KX G hmg
    refine' Ag.all_mk KX G hmg ?ya0 ?yl0 ?yc0 ?yk0 ?ya1 ?yl1 ?yc1 ?yk1 ?ya2 ?yl2 ?yc2 ?yk2 ?ya3 ?yl3 ?yc3 ?yk3 ?ya4 ?yl4 ?yc4 ?yk4 ?ya5 ?yl5 ?yc5 ?yk5 ?ya6 ?yl6 ?yc6 ?yk6 ?ya7 ?yl7 ?yc7 ?yk7 ?ya8 ?yl8 ?yc8 ?yk8 ?ya9 ?yl9 ?yc9 ?yk9 ?ya10 ?yl10 ?yc10 ?yk10 ?ya11 ?yl11 ?yc11 ?yk11 ?ya12 ?yl12 ?yc12 ?yk12 ?yz0 ?yz1 ?yz2 ?yz3 ?yz4 ?yz5 ?yz6 ?yz7 ?yz8 ?yz9 ?yz10 ?yz11 ?yx0
    (case ya0 => k_is); (case yl0 => k_is); (case yc0 => k_is); (case yk0 => k_is)
    (case ya1 => k_is); (case yl1 => k_is); (case yc1 => k_is); (case yk1 => k_is)
    (case ya2 => k_is); (case yl2 => k_is); (case yc2 => k_is); (case yk2 => k_is)
    (case ya3 => k_is); (case yl3 => k_is); (case yc3 => k_is); (case yk3 => k_is)
    (case ya4 => k_is); (case yl4 => k_is); (case yc4 => k_is); (case yk4 => k_is)
    (case ya5 => k_is); (case yl5 => k_is); (case yc5 => k_is); (case yk5 => k_is)
    (case ya6 => k_is); (case yl6 => k_is); (case yc6 => k_is); (case yk6 => k_is)
    (case ya7 => k_is); (case yl7 => k_is); (case yc7 => k_is); (case yk7 => k_is)
    (case ya8 => k_is); (case yl8 => k_is); (case yc8 => k_is); (case yk8 => k_is)
    (case ya9 => k_is); (case yl9 => k_is); (case yc9 => k_is); (case yk9 => k_is)
    (case ya10 => k_is); (case yl10 => k_is); (case yc10 => k_is); (case yk10 => k_is)
    (case ya11 => k_is); (case yl11 => k_is); (case yc11 => k_is); (case yk11 => k_is)
    (case ya12 => k_is); (case yl12 => k_is); (case yc12 => k_is); (case yk12 => k_is)
    (case yz0 => k_is); (case yz1 => k_is); (case yz2 => k_is); (case yz3 => k_is); (case yz4 => k_is); (case yz5 => k_is); (case yz6 => k_is); (case yz7 => k_is); (case yz8 => k_is); (case yz9 => k_is); (case yz10 => k_is); (case yz11 => k_is)
    (case yx0 => k_is)

