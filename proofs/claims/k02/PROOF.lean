import PyProof.Rows.All
import Wide.All
import OpenK.AllK
import Wide.FinOn
import HandS.ForMost
import HandS.IsInst
import HandS.FStr
import HandS.StrMore
import HandS.Style
import HandS.SortInts
import HandS.Wide
import HandS.TupAny
import HandS.TupMul
import PyProof.StrBlock2
import PyProof.ReprRoads
import PyProof.ReprText
import HandS.Codes
import HandS.Walk
import PyProof.Draws
import PyProof.EnumFor
import PyProof.EnumMake
import PyProof.ListStr
import HandS.Conv
import HandS.More
import HandS.Zip
import HandS.StrSplit
import KE.KExcInit
import HandS.ExcInit
import HandS.ExcField
import KE.GoesZip
import KE.GoesMore
import KE.GoesEnum
import HandS.Dict
import HandS.RaiseMore
import HandS.Star
import HandS.WordsExc
import HandS.Steps
import HandS.Lambda
import HandS.EndOwn
import HandS.NestedK
import PySem.Challenge.RW_answergate_k02_whole_messages_and_their
set_option Elab.async false
/-! ## Base0 -/
section
set_option linter.all false
set_option maxRecDepth 100000
namespace Ag
open PySem PySem.Spec PyProof.Rows L2
/-! ### a def's promise where it is known that no repr runs around the call -/
structure FnG (P : Program) (w : World) (K : PySem.W.Frag) (mg : Str → Option Value) (base : Heap) (k : Nat) (f : Addr) (fd : FuncData) (ps : List Str) (sp : Sp) : Prop where
  len : ∀ vs H Q E, sp vs H Q E → vs.length = ps.length
  run : ∀ (A : Around) (outer : List Env) (s : Shared) (H : Hp) (args : Args) (us : List Value) (vs : List V) (Q : VK) (E : XK), Room k A → A.guards = some [] →
    Env0 P w K mg base A outer s H → BindsTo s fd args (ps.zip us) → Vals vs us → sp vs H Q E → codeAny (model P w) A (.call (.ref f) args) (CR CX0 outer P w H s Q E) s
theorem FnG.of {P : Program} {w : World} {K : PySem.W.Frag} {mg : Str → Option Value} {base : Heap} {k : Nat} {f : Addr} {fd : FuncData} {ps : List Str} {sp : Sp} (F : FnOk P w K mg base CX0 k f fd ps sp) :
    FnG P w K mg base k f fd ps sp := ⟨F.len, fun A outer s H args us vs Q E hr _ => F.run A outer s H args us vs Q E hr⟩
theorem g_deeper {A : Around} {env : Env} (h : A.guards = some []) : (A.deeper env).guards = some [] := by
  first | exact h | (simp [Around.deeper, h])
section
variable {P : Program} {w : World} {K : PySem.W.Frag} {mg : Str → Option Value} {base : Heap}
theorem okG {x qual : Str} {st : Stmt} {f : Addr} {fd : FuncData} {N ps : List Str} {k : Nat} {sp : Sp} (F : Fun K x qual st f fd) (S : FnScope N ps (defScope st))
    (len : ∀ vs H Q E, sp vs H Q E → vs.length = ps.length)
    (hbody : ∀ (cdv : Value) (A : Around) (outer : List Env) (s : Shared) (H : Hp) (vs : List V) (Q : VK) (E : XK), Room k (A.deeper (envOfC qual (defScope st) s.heap.objs.size f cdv)) →
      (A.deeper (envOfC qual (defScope st) s.heap.objs.size f cdv)).guards = some [] → sp vs H Q E →
      ∃ t, PSs (cxOf CX0 P w K mg base N qual (defScope st) f cdv A outer s H E).nox (defBody st) t ∧ t { nx := fun _ H' => Q .non H', rt := Q } (start N vs) H) :
    FnG P w K mg base (k + 1) f fd ps sp := by
  obtain ⟨oc, od, kV, doc, pm, an, cdv, ct, osl, rfl, lk, hcd⟩ := F.ex
  refine ⟨len, ?_⟩
  intro A outer s H args us vs Q E hr hg env0 hb rel hsp
  have hlen := len vs H Q E hsp
  have below : ∀ b o, base.get? b = some o → s.heap.get? b = some o := fun b o e => (env0.bs b o e).1
  have KX : K.In s.heap := env0.mod.kin.keeps below
  have noLim : s.heap.NoLimit := env0.mod.nolimit.keeps below
  have kinds : ∀ y ∈ ps.zip us, (defScope st).names.lookup y.1 = some .local ∨ ((defScope st).names.lookup y.1 = some .cell ∧ ((cellsFrom (s.heap.objs.size + 1) (defScope st).names []).lookup y.1).isSome = true) := by
    rintro ⟨n, v⟩ hy
    exact (S.par n (List.of_mem_zip hy).1).imp id fun q => ⟨q, PySem.W.cellsFrom_some _ _ _ (.inl q)⟩
  refine codeAny_call_function hr.depth (KX f _ lk) rfl S.co S.gen rfl (PySem.W.codeRec_of KX hcd) (hb _ _ _ _ (wpAny_newFunctionEnv_cells S.kind kinds ?_))
  intro env he s1 x
  subst he
  refine ⟨noLim.keeps x.toInCall.keep, codeAny_func ?_⟩
  obtain ⟨t, ht, hq⟩ := hbody cdv A outer s H vs Q E (hr.deeper _) (g_deeper hg) hsp
  have I := inv_start (CX := CX0) (E := E) S hr.hd env0 hlen rel x
  refine wpAny_mono (ht.nox.run [] s1 (start N vs) H _ I hq) (fun fl s' hs => ?_) (fun e s' hs => hs)
  cases fl with
  | brk => exact hs.elim fun _ z => z.elim fun _ z => z.2.elim
  | cont => exact hs.elim fun _ z => z.elim fun _ z => z.2.elim
  | next =>
    obtain ⟨σ', H', J, q⟩ := hs
    exact ⟨.non, H', J.os, J.bare, J.base, J.hok, rfl, q⟩
  | ret u =>
    obtain ⟨v, σ', H', J, rv, q⟩ := hs
    exact ⟨v, H', J.os, J.bare, J.base, J.hok, rv, q⟩
end
section
variable {X : Cx} {k : Nat} {f : Addr} {fd : FuncData} {ps : List Str} {sp : Sp} {x : Str} {p pos : Pos} {e : Expr} {es : List Expr} {t : TA}
theorem run_G {pins : List (Addr × Obj)} {σ : L2.St} {H : Hp} {s : Shared} {Q : VK} {us : List Value} {vs : List V} {args : Args} (F : FnG X.prog X.w X.K X.mg X.base k f fd ps sp) (hr : Room k X.A) (hG : X.A.guards = some [])
    (I : Inv X pins σ H s) (hb : BindsTo s fd args (ps.zip us)) (r : Vals vs us) (h : sp vs H Q E0) : codeAny (model X.prog X.w) X.A (.call (.ref f) args) (fun r s' => ∃ u, r = .ok (.ret u) ∧ EP X pins σ Q u s') s := by
  refine codeAny_mono (F.run X.A X.stack s H args us vs Q E0 hr hG I.env0 hb r h) ?_
  intro r s' hq
  match r, hq with
  | .error e, hq => exact hq.elim
  | .ok (.ret u), hq => exact ⟨u, rfl, I.after hq⟩
/-- f(e, ..) -/
theorem pe_callG (F : FnG X.prog X.w X.K X.mg X.base k f fd ps sp) (hr : Room k X.A) (hG : X.A.guards = some []) (hg : Gl X x) (hm : X.mg x = some (.ref f)) (hk : PySem.W.keepIn X.K (.ref f) = true) (hb : Binds X.K fd ps [])
    (ha : PA X (e :: es) t) (hdb : (x == ("__debug__" : Str)) = false := by decide) (he : starEach (e :: es) X.env = (false, eval e X.env) :: starEach es X.env := by rfl) (hpl : (backTo pos (starEach es X.env)).any (·.1) = false := by rfl) :
    PE X (.Call (.Name x p) (e :: es) [] pos) (tCall sp [] E0 t) := by
  constructor
  intro pins s σ H Q I h
  refine wpAny_Call_Name_kw (ld_glob I hg hm (PySem.W.callWith_K (h₀ := X.base) I.ok.mod.kin hk (thn (ha.run pos pins s σ H _ I h) ?_) he hpl) hdb)
  rintro us s1 ⟨vs, H1, I1, r, q⟩
  rw [List.append_nil] at q
  have hl : us.length = ps.length := by rw [← r.length]; exact F.len _ _ _ _ q
  have z := hb s1 us I1.kIn (by rw [List.append_nil]; exact hl)
  rw [List.append_nil] at z
  refine ⟨I1.kIn, ?_⟩
  show wpAny _ _ (call (.ref f) us) _ _ _
  refine wpAny_call (codeAny_mono (run_G F hr hG I1 z r q) ?_)
  rintro r s' ⟨u, rfl, z⟩
  exact z
/-- f(k = e, ..), keywords alone -/
structure KwB (K : PySem.W.Frag) (fd : FuncData) (ps ks : List Str) (gv : List Value → List Value) (gV : List V → List V) : Prop where
  to : ∀ (s : Shared) (ws : List Value), ws.length = ks.length → BindsTo s fd ⟨[], ks.zip ws⟩ (ps.zip (gv ws))
  rel : ∀ {zs : List V} {ws : List Value}, zs.length = ks.length → Vals zs ws → Vals (gV zs) (gv ws)
def tCallKw (sp : Sp) (n : Nat) (gV : List V → List V) (t : TA) : TE := fun σ H Q => t σ H fun zs H2 => zs.length = n ∧ sp (gV zs) H2 Q E0
variable {ks : List Str} {gv : List Value → List Value} {gV : List V → List V} {kws : List Keyword}
theorem pe_callKwG (F : FnG X.prog X.w X.K X.mg X.base k f fd ps sp) (hr : Room k X.A) (hG : X.A.guards = some []) (hg : Gl X x) (hm : X.mg x = some (.ref f)) (hk : PySem.W.keepIn X.K (.ref f) = true) (hb : KwB X.K fd ps ks gv gV)
    (ha : PK X kws t) (hall : (backToKw pos (keywordEach kws X.env)).all (·.1.isSome) = true := by rfl) (hks : (backToKw pos (keywordEach kws X.env)).filterMap (·.1) = ks := by rfl) (hdb : (x == ("__debug__" : Str)) = false := by decide)
    (hpl : ((backTo pos (starEach [] X.env)).any (·.1) || (backToKw pos (keywordEach kws X.env)).any (·.1.isNone)) = false := by rfl) : PE X (.Call (.Name x p) [] kws pos) (tCallKw sp ks.length gV t) := by
  constructor
  intro pins s σ H Q I h
  refine wpAny_Call_Name_kw (ld_glob I hg hm (PySem.W.callWith_KW0 (h₀ := X.base) I.ok.mod.kin hk hall (thn (ha.run pos pins s σ H _ I h) ?_) hpl) hdb)
  rintro ws s2 ⟨zs, H2, I2, rz, l, q⟩
  refine ⟨I2.kIn, ?_⟩
  rw [hks]
  refine wpAny_call (codeAny_mono (run_G (args := ⟨[], ks.zip ws⟩) F hr hG I2 (hb.to s2 ws (by rw [← rz.length]; exact l)) (hb.rel l rz) q) ?_)
  rintro r s' ⟨u, rfl, z⟩
  exact z
/-! ### repr of data -/
theorem call_repr_data (hu : X.A.units + 66 < cLine) (hG : X.A.guards = some []) : CallR X (.builtin "repr") (fun xs H Q => ∃ x d, xs = [x] ∧ Dp X.K H x d ∧ d.showable = true ∧ d.hasDict = false ∧ d.depth ≤ 64 ∧ d.shown.length ≤ sizeLine ∧ Q (.str d.shown) H) := by
  intro pins s σ H vs us Q I r h
  obtain ⟨x, d, rfl, hd, h1, h2, h3, h4, q⟩ := h
  obtain ⟨u, rfl, ru⟩ := vals1 r
  cases x with
  | ref a =>
    obtain ⟨as, rd⟩ := Dp.reads I d (.ref a) u hd ru
    obtain rfl : u = Value.ref a := ru
    refine repr_of_reads' rd h1 (fun z => by rw [h2] at z; cases z) hG (by omega) (fun _ _ e => e) (fun h' u tk kp => ?_) h4
    exact ⟨.str d.shown, H, I.kept kp, ⟨_, rfl⟩, q⟩
  | non =>
    cases hd
    obtain rfl : u = Value.none := ru
    exact PySem.P.repr_of_none ⟨.str _, H, I.tok _, ⟨_, rfl⟩, by rw [PyData.shown_none] at q; exact q⟩
  | bl b =>
    cases hd
    obtain rfl : u = Value.bool b := ru
    exact PySem.P.repr_of_bool ⟨.str _, H, I.tok _, ⟨_, rfl⟩, by rw [PyData.shown_bool] at q; exact q⟩
  | int i =>
    cases hd
    obtain ⟨t, rfl⟩ := ru
    exact PySem.P.repr_of_int (by simpa [PyData.showable] using h1) ⟨.str _, H, I.tok _, ⟨_, rfl⟩, by rw [PyData.shown_int] at q; exact q⟩
  | str z =>
    cases hd
    obtain ⟨t, rfl⟩ := ru
    rw [PyData.shown_str] at q h4
    exact PySem.P.repr_of_str ⟨.str _, H, I.tok _, ⟨_, rfl⟩, q⟩ h4
  | byt b => cases hd
  | flt b => cases hd
  | ty n => cases hd
end
end Ag

end
/-! ## Math1 -/
section
set_option linter.all false
namespace Ag
open PySem
/-! ### decimal texts -/
abbrev numL := TL.numL
abbrev digitsVal := NumText.digitsVal
def plainC (c : Nat) : Bool := decide (32 ≤ c) && decide (c ≤ 126)
def digC (c : Nat) : Bool := decide (48 ≤ c) && decide (c ≤ 57)
def plainL (l : List Nat) : Bool := l.all plainC
def isDec (l : List Nat) (m : Nat) : Bool := decide (numL (digitsVal l) = l) && decide (digitsVal l ≤ m)
theorem dv_snoc (l : List Nat) (c : Nat) : digitsVal (l ++ [c]) = digitsVal l * 10 + (c - 48) := by
  show List.foldl _ 0 (l ++ [c]) = _
  rw [List.foldl_append]
  rfl
theorem isDec_iff {l : List Nat} {m : Nat} : isDec l m = true ↔ ∃ k, k ≤ m ∧ l = numL k := by
  unfold isDec
  rw [Bool.and_eq_true, decide_eq_true_eq, decide_eq_true_eq]
  constructor
  · rintro ⟨a, b⟩
    exact ⟨_, b, a.symm⟩
  · rintro ⟨k, hk, rfl⟩
    have e : digitsVal (numL k) = k := TL.numL_val k
    rw [e]
    exact ⟨rfl, hk⟩
theorem numL_all (k : Nat) : ∀ c ∈ numL k, 48 ≤ c ∧ c ≤ 57 := TL.numL_digits k
theorem numL_ne (k : Nat) : numL k ≠ [] := TL.numL_ne k
theorem numL_val (k : Nat) : digitsVal (numL k) = k := TL.numL_val k
theorem numL_zero_head : ∀ (k : Nat) (l : List Nat), numL k = 48 :: l → k = 0 := by
  intro k
  induction k using Nat.strongRecOn with
  | ind k ih =>
    intro l h
    by_cases hk : k < 10
    · have e : numL k = [48 + k] := TL.numL_lt hk
      rw [e] at h
      injection h with h1 h2
      omega
    · have e : numL k = numL (k / 10) ++ [48 + k % 10] := TL.numL_step (by omega)
      rw [e] at h
      have hne := numL_ne (k / 10)
      cases hq : numL (k / 10) with
      | nil => exact absurd hq hne
      | cons d r =>
        rw [hq] at h
        injection h with h1 h2
        subst h1
        have z := ih (k / 10) (by omega) r hq
        omega
/-- one more digit -/
theorem isDec_snoc {s : List Nat} {c m : Nat} (hs : s = [] ∨ ∃ k, s = numL k) :
    isDec (s ++ [c]) m = (digC c && decide (s ≠ [48]) && decide (digitsVal (s ++ [c]) ≤ m)) := by
  rw [Bool.eq_iff_iff, isDec_iff]
  simp only [Bool.and_eq_true, decide_eq_true_eq, digC]
  constructor
  · rintro ⟨k, hk, e⟩
    have hc : 48 ≤ c ∧ c ≤ 57 := numL_all k c (by rw [← e]; simp)
    refine ⟨⟨hc, ?_⟩, ?_⟩
    · rintro rfl
      have z := numL_zero_head k [c] e.symm
      subst z
      have e2 : numL 0 = [48] := TL.numL_lt (by decide)
      rw [e2] at e
      simp at e
    · rw [e, numL_val]
      exact hk
  · rintro ⟨⟨hc, hne⟩, hv⟩
    refine ⟨digitsVal (s ++ [c]), hv, ?_⟩
    rw [dv_snoc]
    rcases hs with rfl | ⟨k, rfl⟩
    · show [c] = numL (0 * 10 + (c - 48))
      have e : numL (0 * 10 + (c - 48)) = [48 + (0 * 10 + (c - 48))] := TL.numL_lt (by omega)
      rw [e]
      congr 1
      omega
    · rw [numL_val]
      have hk : k ≠ 0 := by
        rintro rfl
        exact hne (TL.numL_lt (by decide))
      have e : numL (k * 10 + (c - 48)) = numL ((k * 10 + (c - 48)) / 10) ++ [48 + (k * 10 + (c - 48)) % 10] := TL.numL_step (by omega)
      rw [e, show (k * 10 + (c - 48)) / 10 = k by omega, show 48 + (k * 10 + (c - 48)) % 10 = c by omega]
theorem isDec_nil (m : Nat) : isDec [] m = false := by
  cases h : isDec [] m with
  | false => rfl
  | true =>
    obtain ⟨k, _, e⟩ := isDec_iff.mp h
    exact absurd e.symm (numL_ne k)
theorem numL_len3 {k : Nat} (h : k ≤ 200) : (numL k).length ≤ 3 := TL.numL_len (by decide) (by omega)
/-! ### reading, sign by sign -/
inductive Out where
  | read (ts : List (List Nat)) (r : List Nat)
  | wrong (ts : List (List Nat)) (k : Nat)
  deriving DecidableEq
def Out.pre (ts : List (List Nat)) (i : Nat) : Out → Out
  | .read us r => .read (ts ++ us) r
  | .wrong us k => .wrong (ts ++ us) (i + k)
theorem Out.pre_pre (ts us : List (List Nat)) (i j : Nat) (o : Out) : (o.pre us j).pre ts i = o.pre (ts ++ us) (i + j) := by
  cases o <;> simp [Out.pre, Nat.add_assoc]
theorem Out.pre_nil (o : Out) : o.pre [] 0 = o := by cases o <;> simp [Out.pre]
def glue (s : List Nat) : Option (List Nat) → List Nat
  | none => s
  | some t => s ++ 58 :: t
/-- one sign: none if it is wrong; else the text that is complete, if there is one, and the next state -/
def stp (s : List Nat) (t : Option (List Nat)) (c : Nat) : Option (Option (List Nat) × List Nat × Option (List Nat)) :=
  match t with
  | none => if c = 58 ∧ s ≠ [] then some (none, s, some []) else if isDec (s ++ [c]) 200 = true then some (none, s ++ [c], none) else none
  | some t => if t.length < digitsVal s then (if plainC c = true then some (none, s, some (t ++ [c])) else none) else if c = 44 then some (some t, [], none) else none
def lr (s : List Nat) (t : Option (List Nat)) : List Nat → Out
  | [] => .read [] (glue s t)
  | c :: cs => match stp s t c with
    | none => .wrong [] 0
    | some (o, s', t') => (lr s' t' cs).pre o.toList 1
/-- states that can be -/
def Vd (s : List Nat) : Option (List Nat) → Prop
  | none => s = [] ∨ ∃ k, k ≤ 200 ∧ s = numL k
  | some t => (∃ k, k ≤ 200 ∧ s = numL k ∧ t.length ≤ k) ∧ plainL t = true
theorem plainL_snoc {t : List Nat} {c : Nat} : plainL (t ++ [c]) = (plainL t && plainC c) := by
  simp [plainL, List.all_append]
theorem Vd.step {s : List Nat} {t : Option (List Nat)} {c : Nat} (v : Vd s t) {o : Option (List Nat)} {s' : List Nat} {t' : Option (List Nat)} (h : stp s t c = some (o, s', t')) : Vd s' t' := by
  cases t with
  | none =>
    simp only [stp] at h
    split at h
    · rename_i q
      cases h
      rcases v with rfl | ⟨k, hk, e⟩
      · exact absurd rfl q.2
      · exact ⟨⟨k, hk, e, Nat.zero_le _⟩, rfl⟩
    · split at h
      · rename_i q
        cases h
        exact .inr (isDec_iff.mp q)
      · cases h
  | some t =>
    simp only [stp] at h
    obtain ⟨⟨k, hk, e, hl⟩, hp⟩ := v
    split at h
    · rename_i q
      split at h
      · rename_i hc
        cases h
        refine ⟨⟨k, hk, e, ?_⟩, by rw [plainL_snoc, hp, hc]; rfl⟩
        rw [e, numL_val] at q
        simp
        omega
      · cases h
    · split at h
      · cases h
        exact .inl rfl
      · cases h
/-- the state of a rest -/
def spS (r : List Nat) : List Nat := match TL.par [58] [] r with | some (p, _) => p | none => r
def spT (r : List Nat) : Option (List Nat) := match TL.par [58] [] r with | some (_, q) => some q | none => none
theorem colon_free {k : Nat} : 58 ∉ numL k := TL.numL_free (.inr (by decide))
theorem Vd.free {s : List Nat} {t : Option (List Nat)} (v : Vd s t) : 58 ∉ s := by
  cases t with
  | none =>
    rcases v with rfl | ⟨k, _, rfl⟩
    · exact List.not_mem_nil
    · exact colon_free
  | some t =>
    obtain ⟨⟨k, _, rfl, _⟩, _⟩ := v
    exact colon_free
theorem par_glue {s : List Nat} {t : Option (List Nat)} (h : 58 ∉ s) : TL.par [58] [] (glue s t) = t.map fun t => (s, t) := by
  cases t with
  | none => exact SX.par_head_none h
  | some t => exact SX.par_head t h
theorem sp_glue {s : List Nat} {t : Option (List Nat)} (v : Vd s t) : spS (glue s t) = s ∧ spT (glue s t) = t := by
  unfold spS spT
  rw [par_glue v.free]
  cases t <;> exact ⟨rfl, rfl⟩
/-- reading leads to a rest -/
theorem lr_rest : ∀ (l : List Nat) {s : List Nat} {t : Option (List Nat)} {ts : List (List Nat)} {r : List Nat}, Vd s t → lr s t l = .read ts r → ∃ s' t', Vd s' t' ∧ r = glue s' t'
  | [], s, t, ts, r, v, h => by
    simp only [lr] at h
    cases h
    exact ⟨s, t, v, rfl⟩
  | c :: cs, s, t, ts, r, v, h => by
    simp only [lr] at h
    cases hs : stp s t c with
    | none => rw [hs] at h; cases h
    | some p =>
      obtain ⟨o, s', t'⟩ := p
      rw [hs] at h
      simp only at h
      cases hl : lr s' t' cs with
      | wrong us k => rw [hl] at h; cases h
      | read us r' =>
        rw [hl] at h
        cases h
        exact lr_rest cs (v.step hs) hl
/-- two strings, one behind the other -/
def Out.thn (n : Nat) (o : Out) (k : List Nat → Out) : Out := match o with
  | .read ts r => (k r).pre ts n
  | .wrong ts i => .wrong ts i
theorem lr_app : ∀ (a b : List Nat) {s : List Nat} {t : Option (List Nat)}, Vd s t → lr s t (a ++ b) = (lr s t a).thn a.length fun r => lr (spS r) (spT r) b
  | [], b, s, t, v => by
    show lr s t b = (lr (spS (glue s t)) (spT (glue s t)) b).pre [] 0
    rw [(sp_glue v).1, (sp_glue v).2, Out.pre_nil]
  | c :: cs, b, s, t, v => by
    show lr s t (c :: (cs ++ b)) = _
    simp only [lr]
    cases hs : stp s t c with
    | none => rfl
    | some p =>
      obtain ⟨o, s', t'⟩ := p
      simp only
      rw [lr_app cs b (v.step hs)]
      cases lr s' t' cs with
      | wrong us k => rfl
      | read us r' =>
        show Out.pre o.toList 1 (Out.pre us cs.length (lr (spS r') (spT r') b)) = Out.pre (o.toList ++ us) (cs.length + 1) (lr (spS r') (spT r') b)
        rw [Out.pre_pre, Nat.add_comm 1]
/-! ### the program's way: one frame after the other -/
/-- how many of the signs are digits of a length -/
def dgs (s : List Nat) : List Nat → Nat
  | [] => 0
  | c :: cs => if isDec (s ++ [c]) 200 = true then dgs (s ++ [c]) cs + 1 else 0
theorem dgs_le : ∀ (l s : List Nat), dgs s l ≤ l.length
  | [], _ => Nat.le_refl _
  | c :: cs, s => by
    unfold dgs
    split
    · have := dgs_le cs (s ++ [c])
      simp
      exact this
    · exact Nat.zero_le _
theorem lr_dgs : ∀ (l : List Nat) {s : List Nat}, Vd s none → lr s none l = (lr (s ++ l.take (dgs s l)) none (l.drop (dgs s l))).pre [] (dgs s l) ∧ Vd (s ++ l.take (dgs s l)) none ∧
    (∀ c cs, l.drop (dgs s l) = c :: cs → isDec (s ++ l.take (dgs s l) ++ [c]) 200 = false)
  | [], s, v => by
    refine ⟨?_, ?_, fun c cs h => ?_⟩
    · simp [dgs, Out.pre_nil]
    · simpa [dgs] using v
    · simp at h
  | c :: cs, s, v => by
    by_cases h : isDec (s ++ [c]) 200 = true
    · have hd : dgs s (c :: cs) = dgs (s ++ [c]) cs + 1 := by
        show (if isDec (s ++ [c]) 200 = true then _ else _) = _
        rw [if_pos h]
      have hc : c ≠ 58 := by
        obtain ⟨k, _, e⟩ := isDec_iff.mp h
        have := numL_all k c (by rw [← e]; simp)
        omega
      have v' : Vd (s ++ [c]) none := .inr (isDec_iff.mp h)
      obtain ⟨i1, i2, i3⟩ := lr_dgs cs v'
      have es : stp s none c = some (none, s ++ [c], none) := by
        show (if c = 58 ∧ s ≠ [] then _ else if isDec (s ++ [c]) 200 = true then _ else _) = _
        rw [if_neg (fun z => hc z.1), if_pos h]
      have el : lr s none (c :: cs) = (lr (s ++ [c]) none cs).pre [] 1 := by
        simp only [lr, es]
        rfl
      have ea : s ++ [c] ++ cs.take (dgs (s ++ [c]) cs) = s ++ (c :: cs).take (dgs (s ++ [c]) cs + 1) := by simp
      rw [hd, el, i1, Out.pre_pre, ea]
      rw [ea] at i2 i3
      refine ⟨?_, i2, fun d ds hq => i3 d ds (by simpa using hq)⟩
      rw [List.drop_succ_cons, Nat.add_comm]
      rfl
    · have hd : dgs s (c :: cs) = 0 := by
        show (if isDec (s ++ [c]) 200 = true then _ else _) = _
        rw [if_neg h]
      rw [hd]
      refine ⟨by simp [Out.pre_nil], by simpa using v, fun d ds hq => ?_⟩
      simp at hq
      obtain ⟨rfl, rfl⟩ := hq
      simpa using h
/-- how many signs ahead of the first one that no text has -/
def pls : List Nat → Nat
  | [] => 0
  | c :: cs => if plainC c = true then pls cs + 1 else 0
theorem pls_le : ∀ l : List Nat, pls l ≤ l.length
  | [] => Nat.le_refl _
  | c :: cs => by
    unfold pls
    split
    · have := pls_le cs
      simp
      exact this
    · exact Nat.zero_le _
theorem pls_all {l : List Nat} (h : plainL l = true) : pls l = l.length := by
  induction l with
  | nil => rfl
  | cons c cs ih =>
    have h' : plainC c = true ∧ plainL cs = true := by simpa [plainL] using h
    show (if plainC c = true then pls cs + 1 else 0) = _
    rw [if_pos h'.1, ih h'.2]
    rfl
theorem pls_lt {l : List Nat} (h : plainL l = false) : pls l < l.length ∧ ∃ c, l[pls l]? = some c ∧ plainC c = false := by
  induction l with
  | nil => cases h
  | cons c cs ih =>
    by_cases hc : plainC c = true
    · have h' : plainL cs = false := by
        have z : (plainC c && plainL cs) = false := h
        rw [hc] at z
        exact z
      obtain ⟨a, d, b1, b2⟩ := ih h'
      have e : pls (c :: cs) = pls cs + 1 := by
        show (if plainC c = true then pls cs + 1 else 0) = _
        rw [if_pos hc]
      rw [e]
      exact ⟨by simp; exact a, d, by simpa using b1, b2⟩
    · have e : pls (c :: cs) = 0 := by
        show (if plainC c = true then pls cs + 1 else 0) = _
        rw [if_neg hc]
      rw [e]
      exact ⟨by simp, c, by simp, by simpa using hc⟩
theorem pls_plain : ∀ l : List Nat, plainL (l.take (pls l)) = true
  | [] => rfl
  | c :: cs => by
    by_cases hc : plainC c = true
    · have e : pls (c :: cs) = pls cs + 1 := by
        show (if plainC c = true then pls cs + 1 else 0) = _
        rw [if_pos hc]
      rw [e, List.take_succ_cons]
      show (plainC c && plainL (cs.take (pls cs))) = true
      rw [hc, pls_plain cs]
      rfl
    · have e : pls (c :: cs) = 0 := by
        show (if plainC c = true then pls cs + 1 else 0) = _
        rw [if_neg hc]
      rw [e]
      rfl
/-- the signs of a text -/
theorem lr_text : ∀ (a : List Nat) (l : List Nat) {s t : List Nat}, plainL a = true → t.length + a.length ≤ digitsVal s → lr s (some t) (a ++ l) = (lr s (some (t ++ a)) l).pre [] a.length
  | [], l, s, t, _, _ => by simp [Out.pre_nil]
  | c :: cs, l, s, t, hp, hl => by
    have hp' : plainC c = true ∧ plainL cs = true := by simpa [plainL] using hp
    simp only [List.length_cons] at hl
    have es : stp s (some t) c = some (none, s, some (t ++ [c])) := by
      show (if t.length < digitsVal s then _ else _) = _
      rw [if_pos (by omega), if_pos hp'.1]
    have el : lr s (some t) (c :: (cs ++ l)) = (lr s (some (t ++ [c])) (cs ++ l)).pre [] 1 := by
      simp only [lr, es]
      rfl
    show lr s (some t) (c :: (cs ++ l)) = _
    rw [el, lr_text cs l hp'.2 (by simp; omega), Out.pre_pre]
    simp [Nat.add_comm]
/-- what next_frame tells of the signs from its start on -/
inductive Nf where
  | part (at_ : Nat) | wrong (at_ : Nat) | whole (t : List Nat) (at_ : Nat)
def nf (l : List Nat) : Nf :=
  let k := dgs [] l
  if k = l.length then .part k else
  if k = 0 ∨ l[k]? ≠ some 58 then .wrong k else
  let n := digitsVal (l.take k)
  let part := (l.drop (k + 1)).take n
  let e := k + 1 + pls part
  if e = l.length then .part e else
  if l[e]? ≠ some 44 then .wrong e else .whole part (k + 1 + n + 1)
theorem nf_lr (l : List Nat) : match nf l with
    | .part _ => ∃ r, lr [] none l = .read [] r ∧ r = l
    | .wrong k => lr [] none l = .wrong [] k ∧ k < l.length
    | .whole t k => lr [] none l = (lr [] none (l.drop k)).pre [t] k ∧ k ≤ l.length ∧ 0 < k := by
  obtain ⟨h1, h2, h3⟩ := lr_dgs l (s := []) (.inl rfl)
  simp only [List.nil_append] at h1 h2 h3
  have hk := dgs_le l []
  generalize hkk : dgs [] l = k at h1 h2 h3 hk
  unfold nf
  rw [hkk]
  by_cases e1 : k = l.length
  · simp only [e1, if_true]
    rw [h1, e1, List.take_length, List.drop_length]
    exact ⟨l, by simp [lr, glue, Out.pre], rfl⟩
  · simp only [if_neg e1]
    have hlt : k < l.length := by omega
    obtain ⟨c, hc⟩ : ∃ c, l[k]? = some c := ⟨l[k], by simp [hlt]⟩
    have hd : l.drop k = c :: l.drop (k + 1) := by
      rw [List.drop_eq_getElem_cons hlt]
      congr 1
      rw [List.getElem?_eq_getElem hlt] at hc
      exact Option.some.inj hc
    have nd := h3 c _ hd
    by_cases e2 : k = 0 ∨ l[k]? ≠ some 58
    · simp only [if_pos e2]
      refine ⟨?_, hlt⟩
      rw [h1, hd]
      have es : stp (l.take k) none c = none := by
        show (if c = 58 ∧ l.take k ≠ [] then _ else if isDec (l.take k ++ [c]) 200 = true then _ else none) = _
        rw [if_neg, if_neg (by rw [nd]; decide)]
        rintro ⟨rfl, hn⟩
        rcases e2 with rfl | e2
        · exact hn rfl
        · exact e2 hc
      simp only [lr, es]
      simp [Out.pre]
    · simp only [if_neg e2]
      have hk0 : k ≠ 0 := fun z => e2 (.inl z)
      have hc58 : c = 58 := by
        by_cases q : c = 58
        · exact q
        · exact absurd (.inr (by rw [hc]; simpa using q)) e2
      subst hc58
      have hne : l.take k ≠ [] := by
        intro z
        have := congrArg List.length z
        rw [List.length_take, List.length_nil] at this
        omega
      have es : stp (l.take k) none 58 = some (none, l.take k, some []) := by
        show (if 58 = 58 ∧ l.take k ≠ [] then _ else _) = _
        rw [if_pos ⟨rfl, hne⟩]
      have h4 : lr [] none l = (lr (l.take k) (some []) (l.drop (k + 1))).pre [] (k + 1) := by
        rw [h1, hd]
        simp only [lr, es]
        rw [Out.pre_pre]
        rfl
      generalize hn : digitsVal (l.take k) = n
      generalize hm : l.drop (k + 1) = m at h4
      have hml : m.length = l.length - (k + 1) := by rw [← hm, List.length_drop]
      generalize hp : m.take n = part
      have hpm : m = part ++ m.drop n := by rw [← hp, List.take_append_drop]
      have hpl : part.length ≤ n := by rw [← hp, List.length_take]; omega
      have hb := pls_le part
      have hsp : m = part.take (pls part) ++ m.drop (pls part) := by
        have e : part.take (pls part) = m.take (pls part) := by
          rw [← hp, List.take_take, Nat.min_eq_left (by rw [hp]; omega)]
        rw [e, List.take_append_drop]
      have h5 : lr [] none l = (lr (l.take k) (some (part.take (pls part))) (m.drop (pls part))).pre [] (k + 1 + pls part) := by
        rw [h4]
        conv => lhs; rw [hsp]
        rw [lr_text _ _ (pls_plain part) (by rw [hn, List.length_take]; simp; omega), Out.pre_pre, List.length_take, Nat.min_eq_left hb]
        simp
      have hpm2 : part.length ≤ m.length := by rw [← hp, List.length_take]; omega
      by_cases e3 : k + 1 + pls part = l.length
      · simp only [if_pos e3]
        refine ⟨l, ?_, rfl⟩
        have hd0 : m.drop (pls part) = [] := List.drop_eq_nil_of_le (by omega)
        have ht0 : part.take (pls part) = m := by
          rw [hd0, List.append_nil] at hsp
          exact hsp.symm
        rw [h5, hd0, ht0]
        simp only [lr, glue, Out.pre, List.append_nil]
        rw [← hm]
        congr 1
        rw [← hd, List.take_append_drop]
      · simp only [if_neg e3]
        have hlt3 : k + 1 + pls part < l.length := by omega
        have hget : l[k + 1 + pls part]? = m[pls part]? := by rw [← hm, List.getElem?_drop]
        obtain ⟨d, hdd⟩ : ∃ d, m[pls part]? = some d := ⟨m[pls part]'(by omega), by rw [List.getElem?_eq_getElem (by omega)]⟩
        have hmd : m.drop (pls part) = d :: m.drop (pls part + 1) := by
          rw [List.drop_eq_getElem_cons (by omega)]
          congr 1
          rw [List.getElem?_eq_getElem (by omega)] at hdd
          exact Option.some.inj hdd
        rw [hget, hdd]
        have hcase : (pls part = n ∧ part.length = n) ∨ (pls part < n ∧ plainC d = false) := by
          cases hpp : plainL part with
          | true =>
            have e := pls_all hpp
            left
            have : part.length = n := by
              rw [e] at hlt3
              rw [← hp, List.length_take] at hlt3 ⊢
              omega
            omega
          | false =>
            obtain ⟨a, c', b1, b2⟩ := pls_lt hpp
            right
            refine ⟨by omega, ?_⟩
            have : part[pls part]? = m[pls part]? := by
              conv => rhs; rw [hpm]
              rw [List.getElem?_append_left a]
            rw [this, hdd] at b1
            rw [Option.some.inj b1]
            exact b2
        have htl : (part.take (pls part)).length = pls part := by rw [List.length_take, Nat.min_eq_left hb]
        by_cases e4 : d = 44
        · subst e4
          rw [if_neg (by simp)]
          rcases hcase with ⟨q1, q2⟩ | ⟨q1, q2⟩
          · refine ⟨?_, by omega, by omega⟩
            have et : part.take (pls part) = part := List.take_of_length_le (by omega)
            have es2 : stp (l.take k) (some part) 44 = some (some part, [], none) := by
              show (if part.length < digitsVal (l.take k) then _ else _) = _
              rw [if_neg (by rw [hn]; omega)]
              rfl
            have ed : m.drop (pls part + 1) = l.drop (k + 1 + n + 1) := by
              rw [← hm, List.drop_drop]
              congr 1
              omega
            rw [h5, et, hmd]
            simp only [lr, es2]
            rw [Out.pre_pre, ed]
            simp only [Option.toList, List.nil_append]
            congr 1
            omega
          · exact absurd q2 (by decide)
        · rw [if_pos (by simpa using e4)]
          refine ⟨?_, hlt3⟩
          have es2 : stp (l.take k) (some (part.take (pls part))) d = none := by
            show (if (part.take (pls part)).length < digitsVal (l.take k) then _ else if d = 44 then _ else none) = _
            rcases hcase with ⟨q1, q2⟩ | ⟨q1, q2⟩
            · rw [if_neg (by rw [hn, htl]; omega), if_neg e4]
            · rw [if_pos (by rw [hn, htl]; omega), if_neg (by rw [q2]; decide)]
          rw [h5, hmd]
          simp only [lr, es2]
          simp [Out.pre]
end Ag

end
/-! ## Kit -/
section
set_option linter.all false
set_option maxRecDepth 100000
namespace Ag
open PySem PySem.Spec PyProof.Rows L2
open SX (S S_len S_cat S_inj)
section
variable {J : It} {n : Nat} {G : Hp → Prop} {Y : Nat → Hp → V → Hp → Prop}
/-- a comprehension without tests: R stays, each item is as v says of its place -/
theorem lc_all (w : Walk J n G Y) {g : TG} {te : TE} {vs : List Nat} {σ : L2.St} {H1 : Hp} {D : Addr} {Qd : Hp → Prop} (R : Hp → Prop) (v : Nat → V → Prop) (hn : n ≤ 16000000) (r0 : R H1) (rD : ∀ H o, R H → R (upd H D o)) (hG : ∀ H, R H → G H)
    (hs : ∀ i x H H' xs (k : VK), i < n → R H → H D = some (.lst xs) → Y i H x H' → (∀ y H4, v i y → R H4 → H4 D = some (.lst xs) → k y H4) → g x (wipe σ vs) H' fun σ2 H2 => wipe σ2 vs = wipe σ vs ∧ te σ2 H2 k)
    (hd : ∀ H xs, xs.length = n → (∀ i y, xs[i]? = some y → v i y) → R H → H D = some (.lst xs) → Qd H) :
    ∃ W : Nat → Nat → Hp → Prop, (∃ m, W 0 m (upd H1 D (.lst []))) ∧ ∀ i m H, W i m H →
      (J.stop i H ∧ Qd H) ∨ (J.go i H ∧ ∃ Nx : Hp → Prop, (∀ H', Nx H' → ∃ m', m' < m ∧ W (i + 1) m' H') ∧ ∀ x H', J.yld i H x H' → g x (wipe σ vs) H' fun σ2 H2 => wipe σ2 vs = wipe σ vs ∧ tYes σ2 H2 fun b H3 =>
        if b = true then te σ2 H3 fun y H4 => ∃ acc, H4 D = some (.lst acc) ∧ acc.length < sizeLine ∧ Nx (upd H4 D (.lst (acc ++ [y]))) else Nx H3) := by
  refine lc_it (g := g) (tt := tYes) (te := te) (vs := vs) (σ := σ) w (fun i H => ∃ xs : List V, xs.length = i ∧ (∀ j y, xs[j]? = some y → v j y) ∧ R H ∧ H D = some (.lst xs)) ⟨[], rfl, fun j y h => by simp at h, rD _ _ r0, upd_same⟩ (fun i H hi p => ?_) (fun i x H H' hi p hy => ?_) (fun H p => ?_)
  · obtain ⟨xs, _, _, r, _⟩ := p
    exact hG H r
  · obtain ⟨xs, hl, hv, r, hD⟩ := p
    refine hs i x H H' xs _ hi r hD hy ?_
    rintro y H4 hvy r4 h4
    refine ⟨xs, h4, ?_, xs ++ [y], by simp [hl], fun j z hz => ?_, rD _ _ r4, upd_same⟩
    · rw [sizeLine_eq]; omega
    · rw [List.getElem?_append] at hz
      split at hz
      · exact hv j z hz
      · rename_i hj
        have e : j - xs.length = 0 := by
          cases hq : j - xs.length with
          | zero => rfl
          | succ k => rw [hq] at hz; simp at hz
        rw [e] at hz
        simp at hz
        subst hz
        have : j = i := by omega
        subst this
        exact hvy
  · obtain ⟨xs, hl, hv, r, hD⟩ := p
    exact hd H xs hl hv r hD
end
/-! ### cuts of texts -/
theorem sIx_at {n d a : Nat} (h : a ≤ n) : HT.sIx n d (some (a : Int)) = a := by rw [HT.sIx_nat, Nat.min_eq_left h]
theorem cut_S {l : List Nat} {a b : Nat} (ha : a ≤ l.length) : cutS (S l) (some (a : Int)) (some (b : Int)) = S ((l.drop a).take (b - a)) := by
  unfold cutS
  rw [S_len, sIx_at ha, HT.sIx_nat]
  congr 1
  congr 1
  by_cases hb : b ≤ l.length
  · rw [Nat.min_eq_left hb]
  · rw [Nat.min_eq_right (by omega), List.take_of_length_le (by rw [List.length_drop]; exact Nat.le_refl _), List.take_of_length_le (by rw [List.length_drop]; omega)]
theorem cut_from {l : List Nat} {a : Nat} (ha : a ≤ l.length) : cutS (S l) (some (a : Int)) none = S (l.drop a) := by
  unfold cutS
  rw [S_len, sIx_at ha, HT.sIx_none]
  congr 1
  congr 1
  rw [List.take_of_length_le (by rw [List.length_drop]; exact Nat.le_refl _)]
theorem cut_to {l : List Nat} {b : Nat} : cutS (S l) none (some (b : Int)) = S (l.take b) := by
  unfold cutS
  rw [S_len, HT.sIx_none, HT.sIx_nat, List.drop_zero, Nat.sub_zero]
  congr 1
  congr 1
  by_cases hb : b ≤ l.length
  · rw [Nat.min_eq_left hb]
  · rw [Nat.min_eq_right (by omega), List.take_of_length_le (Nat.le_refl _), List.take_of_length_le (by omega)]
end Ag

end
/-! ## Kit2 -/
section
set_option linter.all false
set_option maxRecDepth 100000
namespace Ag
open PySem PySem.Spec PyProof.Rows L2
open SX (S S_len S_cat S_inj)
/-! ### str * int -/
theorem foldl_cps (z : List Nat) (n : Nat) : (List.replicate n (S z).cps).foldl (· ++ ·) #[] = (List.replicate n z).flatten.toArray := by
  have key : ∀ (n : Nat) (acc : Array Nat), (List.replicate n (S z).cps).foldl (· ++ ·) acc = acc ++ (List.replicate n z).flatten.toArray := by
    intro n
    induction n with
    | zero => intro acc; simp
    | succ n ih =>
      intro acc
      rw [List.replicate_succ, List.foldl_cons, ih, List.replicate_succ, List.flatten_cons]
      apply Array.ext'
      simp
  rw [key n #[]]
  simp
theorem mul_S (z : List Nat) (n : Nat) : Txt.mul (S z) (n : Int) = S (List.replicate n z).flatten := by
  unfold Txt.mul
  by_cases h0 : n = 0
  · subst h0
    rfl
  · rw [if_neg (by omega)]
    split
    · rename_i h
      simp only [Bool.or_eq_true, beq_iff_eq] at h
      rcases h with h | h
      · have : n = 1 := by omega
        subst this
        simp
      · rw [S_len] at h
        have : z = [] := List.length_eq_zero_iff.mp h
        subst this
        simp
    · rw [show ((n : Int)).toNat = n by simp, foldl_cps]
theorem op_rep_str {X : Cx} : OpR X (binaryOp .Mult) (fun x y H Q => ∃ (z : List Nat) (n : Nat), x = .str (S z) ∧ y = .int (n : Int) ∧ z.length * n ≤ 16000000 ∧ n ≤ 16000000 ∧ z.length ≤ 16000000 ∧ Q (.str (S (List.replicate n z).flatten)) H) := by
  intro pins s σ H x y v u Q I rx ry h
  obtain ⟨z, n, rfl, rfl, h1, h2, h3, q⟩ := h
  obtain ⟨t, rfl⟩ := rx
  obtain ⟨t', rfl⟩ := ry
  refine SB.mul ⟨?_, fun _ _ => ?_, fun _ _ => ?_⟩ (fun a k => ?_)
  · rw [Bool.or_eq_false_iff, decide_eq_false_iff_not, decide_eq_false_iff_not]
    omega
  · rename_i a b
    have hn : (1 : Int) ≤ (n : Int) := by omega
    have : (2 ^ 63 - 1) / (n : Int) ≥ (2 ^ 63 - 1) / 16000000 := by
      rw [ge_iff_le, Int.le_ediv_iff_mul_le (by omega)]
      have e : ((2 ^ 63 - 1 : Int) / 16000000) = 576460752303 := by decide
      rw [e]
      omega
    have e : ((2 ^ 63 - 1 : Int) / 16000000) = 576460752303 := by decide
    rw [S_len]
    omega
  · rw [S_len]
    show decide (z.length * (n : Int).toNat > sizeLine) = false
    rw [decide_eq_false_iff_not, sizeLine_eq, show ((n : Int)).toNat = n by simp]
    omega
  · rw [mul_S]
    exact ⟨.str _, H, I.tok _, ⟨_, rfl⟩, q⟩
/-! ### for i, c in enumerate(text) -/
def Ites (x : Str) : It :=
  ⟨fun i _ => i < x.cps.size, fun i H v H' => ∃ T c, v = .ref T ∧ H T = none ∧ H' = upd H T (.tup [.int (i : Nat), .str ⟨#[c]⟩]) ∧ x.cps[i]? = some c, fun i _ => i = x.cps.size⟩
theorem walk_enumS {x : Str} : Walk (Ites x) x.cps.size (fun _ => True) (fun i H v H' => ∃ T c, v = .ref T ∧ H T = none ∧ H' = upd H T (.tup [.int (i : Nat), .str ⟨#[c]⟩]) ∧ x.cps[i]? = some c) :=
  ⟨fun _ _ h _ => h, fun _ _ => rfl, fun _ _ _ _ _ _ z => z⟩
theorem draws_str {P : Program} {w : World} {A : Around} (hh : A.handled = none) (it : Addr) (x : Str) (t : Tok) {ty : String} (hty : ty = "str_ascii_iterator" ∨ ty = "str_iterator") :
    Draws P w A it [it] x.cps.size (fun i v => ∃ c u, x.cps[i]? = some c ∧ v = .str ⟨#[c]⟩ u) (fun i h => h.IsStrIter it ty x t i) := by
  rcases hty with rfl | rfl
  · exact Draws.strAscii hh it x t
  · exact Draws.strWide hh it x t
theorem turn_enumS {P : Program} {w : World} {K : PySem.W.Frag} {elts : List Expr} {kk : Nat} {tpos : Pos} (x : Str) (t : Tok) (ty : String) (hty : ty = "str_ascii_iterator" ∨ ty = "str_iterator") (e it : Addr) :
    Turn P w K (.Tuple elts kk tpos) (Ites x) [e, it] e (fun i h => (∃ old, IsEnum h e it ((i : Nat) : Int) old) ∧ h.IsStrIter it ty x t i ∧ e ≠ it) where
  mem := List.mem_cons_self
  obj := by
    rintro i h ⟨⟨old, he⟩, ⟨o, ho, hc, hd⟩, _⟩ b hb
    rcases List.mem_cons.mp hb with rfl | hb
    · exact ⟨_, he, fun v q => by cases q⟩
    · obtain rfl := List.mem_singleton.mp hb
      exact ⟨o, ho, fun v q => by rw [hd] at q; cases q⟩
  keep := by
    rintro i h h' ⟨⟨old, he⟩, ⟨o, ho, r⟩, hne⟩ k
    exact ⟨⟨old, k e List.mem_cons_self _ he⟩, ⟨o, k it (List.mem_cons_of_mem _ List.mem_cons_self) o ho, r⟩, hne⟩
  item := by
    intro X hP hw hK hc i pins s σ H E I hf st hg
    subst hP hw hK
    obtain ⟨⟨old, he⟩, hit, hne⟩ := st
    have hel : e < s.heap.objs.size := Heap.lt_size he
    have hil : it < s.heap.objs.size := by obtain ⟨_, q, _⟩ := hit; exact Heap.lt_size q
    have D := draws_str (P := X.prog) (w := X.w) (A := X.A.in1) (I.ok.hd hc) it x t hty
    refine wpAny_pyNext_enum_itemD D he hit hg hne (fun z => hne (List.mem_singleton.mp z)) ?_
    rintro v h' tk ⟨c, u, hcx, rfl⟩ ho hit' hT hsz hk
    refine ⟨_, rfl, wpAny_letOwnedTupleGo_enum (s := { s with heap := h', toks := tk + 1 }) ho ?_⟩
    intro h'' he' sb
    have hT2 : h''.get? s.heap.objs.size = some { cls := .type "tuple", data := .seq #[.int i tk, .str ⟨#[c]⟩ u] } := (sb.2 _ (Nat.ne_of_gt hel)).trans hT
    have ok : ObjOk X.prog X.w (upd H s.heap.objs.size (.tup [.int (i : Nat), .str ⟨#[c]⟩])) h'' s.heap.objs.size (.tup [.int (i : Nat), .str ⟨#[c]⟩]) :=
      ⟨by show 2 ≤ sizeLine; decide, [.int i tk, .str ⟨#[c]⟩ u], .cons ⟨_, rfl⟩ (.cons ⟨_, rfl⟩ .nil), ⟨_, hT2, rfl, _, rfl⟩⟩
    have I1 : Inv X pins σ (upd H s.heap.objs.size (.tup [.int (i : Nat), .str ⟨#[c]⟩])) { s with heap := h'', toks := tk + 1 } :=
      I.turnedNew (ch := [e, it]) (fun b ob hb q => (sb.2 b (fun z => hb (by rw [z]; exact List.mem_cons_self))).trans (hk b ob (fun z => hb (by rw [z]; exact List.mem_cons_self)) (fun z => hb (by rw [z]; exact List.mem_cons_of_mem _ List.mem_cons_self)) q)) hf (Nat.le_refl _) ok
    have e1 : ((i + 1 : Nat) : Int) = (i : Int) + 1 := by omega
    have hit2 : h''.IsStrIter it ty x t (i + 1) := by
      obtain ⟨o, q1, q2⟩ := hit'
      exact ⟨o, (sb.2 it hne.symm).trans q1, q2⟩
    refine ⟨.ref s.heap.objs.size, _, I1, rfl, ⟨_, c, rfl, I.hok.fresh (Nat.le_refl _), rfl, hcx⟩, ⟨⟨_, by rw [e1]; exact he'⟩, hit2, hne⟩, fun b hb => ?_⟩
    have hb' : b < s.heap.objs.size := by
      rcases List.mem_cons.mp hb with rfl | z
      · exact hel
      · rw [List.mem_singleton.mp z]
        exact hil
    rw [upd_ne (Nat.ne_of_lt hb')]
    exact (hf b hb).1
  done := by
    intro X hP hw hK hc i pins s σ H E I hf st hg
    subst hP hw hK
    obtain ⟨⟨old, he⟩, hit, hne⟩ := st
    obtain ⟨f0, f1, f2, f3, f4, f5⟩ := hf it (List.mem_cons_of_mem _ List.mem_cons_self)
    obtain rfl : i = x.cps.size := hg
    have D := draws_str (P := X.prog) (w := X.w) (A := X.A.in1) (I.ok.hd hc) it x t hty
    exact wpAny_pyNext_enum_endD D he hit fun h' eb => ⟨rfl, I.turned (t' := s.toks) (fun b o hb q => eb b o hb q) f0 f1 f3 f4 f5⟩
  self := fun A i s Q E st h => st.1.elim fun _ z => wpAny_pyIter_enum z h
def iEnumS (ta : TA) : TI := fun σ H R => ta σ H fun vs H1 => ∃ x, vs = [.str x] ∧ R (Ites x) H1
theorem pi_enumS {X : Cx} {e : Expr} {ta : TA} {p pos tpos : Pos} {elts : List Expr} {kk : Nat} (hg : Gl X "enumerate") (hm : X.mg "enumerate" = none) (ha : PA X [e] ta) (hs : starEach [e] X.env = [(false, eval e X.env)] := by rfl) :
    PI X (.Tuple elts kk tpos) (.Call (.Name "enumerate" p) [e] [] pos) (iEnumS ta) := by
  constructor
  intro pins s σ H R I h
  refine Call_ (ld_blt I hg hm boot_enumerate (PyProof.Rows.callWith_type1 (thn (ha.run pos pins s σ H _ I h) ?_) hs rfl))
  rintro us s1 ⟨vs, H1, I1, r1, x, rfl, q⟩
  obtain ⟨u, rfl, t, rfl⟩ := vals1 r1
  refine call_enumerate_str fun h' he hit hsz hk => wpAny_pyIter_enum he ?_
  have I2 : Inv X pins σ H1 { s1 with heap := h' } := I1.kept (t' := s1.toks) hk
  have hty : strIterType x = "str_ascii_iterator" ∨ strIterType x = "str_iterator" := by
    unfold strIterType
    split
    · exact .inl rfl
    · exact .inr rfl
  refine ⟨s1.heap.objs.size + 1, [s1.heap.objs.size + 1, s1.heap.objs.size], _, _, H1, rfl, I2, turn_enumS x t _ hty (s1.heap.objs.size + 1) s1.heap.objs.size, ⟨⟨.none, he⟩, hit, Nat.succ_ne_self _⟩, ?_, q⟩
  intro b hb
  have hle : s1.heap.objs.size ≤ b := by
    rcases List.mem_cons.mp hb with rfl | z
    · exact Nat.le_succ _
    · rw [List.mem_singleton.mp z]
      exact Nat.le_refl _
  exact I1.fpOk hle (I1.hok.fresh hle)
/-- a target of two names, where a comprehension's block runs -/
theorem pg_two {X : Cx} (K : PySem.W.Frag) {i j : Nat} {x y : Str} {px py pt : Pos} {k : Nat} (hc : X.calm = true) (hN : X.N.Nodup) (hi : X.N[i]? = some x) (hj : X.N[j]? = some y) (hx : X.env.scope.names.lookup x = some .local) (hy : X.env.scope.names.lookup y = some .local) (hK : X.K = K) :
    PG X (.Tuple [.Name x px, .Name y py] k pt) (gTup K 2 (gCons (gName i) (gCons (gName j) gNil))) := by
  subst hK
  exact pg_tup hc (pgs_cons (pg_name hN hi (.inl hx) (.inr hx)) (pgs_cons (pg_name hN hj (.inl hy) (.inr hy)) pgs_nil))
end Ag

end
/-! ## Kit3 -/
section
set_option linter.all false
set_option maxRecDepth 100000
namespace Ag
open PySem PySem.Spec PyProof.Rows L2
open SX (S S_len S_cat S_inj)
def chars (z : List Nat) : List V := z.map fun c => V.str (S [c])
theorem call_list_S {X : Cx} (hc : X.calm = true) : CallR X (.type "list") (fun xs H Q => ∃ z : List Nat, xs = [.str (S z)] ∧ z.length ≤ 16000000 ∧ ∀ l, H l = none → Q (.ref l) (upd H l (.lst (chars z)))) := by
  intro pins s σ H xs us Q I r h
  obtain ⟨z, rfl, hz, q⟩ := h
  obtain ⟨u, rfl, t, rfl⟩ := vals1 r
  have hsz : (S z).cps.size = z.length := by simp
  refine PySem.call_list_str (I.ok.hd hc) (S z) t (fun h' tk acc c' kp e ha => ?_) (by rw [hsz, sizeLine_eq]; omega)
  have rv : Vals (chars z) acc.toList := by
    refine L2.vals_of_at ?_ ?_
    · have e1 := ha.1
      rw [hsz] at e1
      unfold chars
      rw [List.length_map, Array.length_toList]
      exact e1.symm
    · intro j x u hx hu
      obtain ⟨c, tk', hc', rfl⟩ := ha.2 j u (by simpa using hu)
      unfold chars at hx
      rw [List.getElem?_map] at hx
      have : z[j]? = some c := by simpa using hc'
      rw [this] at hx
      cases hx
      exact ⟨_, rfl⟩
  refine ⟨.ref s.heap.objs.size, upd H s.heap.objs.size (.lst (chars z)), I.laid kp (Nat.le_refl _) ⟨?_, acc.toList, c', rv, ?_⟩, rfl, q _ (I.hok.fresh (Nat.le_refl _))⟩
  · unfold chars
    rw [List.length_map, sizeLine_eq]
    omega
  · simpa using e
end Ag

end
/-! ## Prog -/
section
set_option linter.all false
set_option maxRecDepth 100000
namespace Ag
open PySem PySem.Spec PyProof.Rows L2
open SX (S S_len S_cat S_inj)
/-! ### the text by places -/
def top (i : Nat) : Stmt := PySem.Challenge.pw_answergate_k02_whole_messages_and_their.main.body.getD i (.Pass ⟨0, 0, 0, 0⟩)
abbrev s_is_integer : Stmt := top 2
abbrev N_is_integer : List Str := ["thing"]
theorem sc_is_integer : FnScope N_is_integer ["thing"] (defScope s_is_integer) := ⟨rfl, rfl, rfl, by decide +kernel, rfl, by decide +kernel, by decide +kernel⟩
abbrev s_is_between : Stmt := top 3
abbrev N_is_between : List Str := ["thing", "least", "most"]
theorem sc_is_between : FnScope N_is_between ["thing", "least", "most"] (defScope s_is_between) := ⟨rfl, rfl, rfl, by decide +kernel, rfl, by decide +kernel, by decide +kernel⟩
abbrev s_is_number : Stmt := top 4
abbrev N_is_number : List Str := ["thing"]
theorem sc_is_number : FnScope N_is_number ["thing"] (defScope s_is_number) := ⟨rfl, rfl, rfl, by decide +kernel, rfl, by decide +kernel, by decide +kernel⟩
abbrev s_is_plain : Stmt := top 5
abbrev N_is_plain : List Str := ["string"]
theorem sc_is_plain : FnScope N_is_plain ["string"] (defScope s_is_plain) := ⟨rfl, rfl, rfl, by decide +kernel, rfl, by decide +kernel, by decide +kernel⟩
abbrev s_is_decimal : Stmt := top 6
abbrev N_is_decimal : List Str := ["string", "most"]
theorem sc_is_decimal : FnScope N_is_decimal ["string", "most"] (defScope s_is_decimal) := ⟨rfl, rfl, rfl, by decide +kernel, rfl, by decide +kernel, by decide +kernel⟩
abbrev s_is_body : Stmt := top 17
abbrev N_is_body : List Str := ["thing"]
theorem sc_is_body : FnScope N_is_body ["thing"] (defScope s_is_body) := ⟨rfl, rfl, rfl, by decide +kernel, rfl, by decide +kernel, by decide +kernel⟩
abbrev s_is_item : Stmt := top 18
abbrev N_is_item : List Str := ["kind", "thing"]
theorem sc_is_item : FnScope N_is_item ["kind", "thing"] (defScope s_is_item) := ⟨rfl, rfl, rfl, by decide +kernel, rfl, by decide +kernel, by decide +kernel⟩
abbrev s_is_message : Stmt := top 19
abbrev N_is_message : List Str := ["thing", "word", "items", "kinds", "kind", "item"]
theorem sc_is_message : FnScope N_is_message ["thing"] (defScope s_is_message) := ⟨rfl, rfl, rfl, by decide +kernel, rfl, by decide +kernel, by decide +kernel⟩
abbrev s_side : Stmt := top 20
abbrev N_side : List Str := ["message"]
theorem sc_side : FnScope N_side ["message"] (defScope s_side) := ⟨rfl, rfl, rfl, by decide +kernel, rfl, by decide +kernel, by decide +kernel⟩
abbrev s_message_text : Stmt := top 21
abbrev N_message_text : List Str := ["message", "item"]
theorem sc_message_text : FnScope N_message_text ["message"] (defScope s_message_text) := ⟨rfl, rfl, rfl, by decide +kernel, rfl, by decide +kernel, by decide +kernel⟩
abbrev s_read_message : Stmt := top 22
abbrev N_read_message : List Str := ["text", "fields", "kinds", "items", "message", "kind", "field"]
theorem sc_read_message : FnScope N_read_message ["text"] (defScope s_read_message) := ⟨rfl, rfl, rfl, by decide +kernel, rfl, by decide +kernel, by decide +kernel⟩
abbrev s_read_item : Stmt := top 23
abbrev N_read_item : List Str := ["kind", "field"]
theorem sc_read_item : FnScope N_read_item ["kind", "field"] (defScope s_read_item) := ⟨rfl, rfl, rfl, by decide +kernel, rfl, by decide +kernel, by decide +kernel⟩
abbrev s_is_text : Stmt := top 26
abbrev N_is_text : List Str := ["thing"]
theorem sc_is_text : FnScope N_is_text ["thing"] (defScope s_is_text) := ⟨rfl, rfl, rfl, by decide +kernel, rfl, by decide +kernel, by decide +kernel⟩
abbrev s_is_rest : Stmt := top 27
abbrev N_is_rest : List Str := ["thing", "digits", "_", "begun"]
theorem sc_is_rest : FnScope N_is_rest ["thing"] (defScope s_is_rest) := ⟨rfl, rfl, rfl, by decide +kernel, rfl, by decide +kernel, by decide +kernel⟩
abbrev s_frame : Stmt := top 28
abbrev N_frame : List Str := ["text"]
theorem sc_frame : FnScope N_frame ["text"] (defScope s_frame) := ⟨rfl, rfl, rfl, by decide +kernel, rfl, by decide +kernel, by decide +kernel⟩
abbrev s_read : Stmt := top 29
abbrev N_read : List Str := ["rest", "piece", "stream", "texts", "start", "kind", "text", "at"]
theorem sc_read : FnScope N_read ["rest", "piece"] (defScope s_read) := ⟨rfl, rfl, rfl, by decide +kernel, rfl, by decide +kernel, by decide +kernel⟩
abbrev s_next_frame : Stmt := top 30
abbrev N_next_frame : List Str := ["stream", "start", "colon", "comma", "end"]
theorem sc_next_frame : FnScope N_next_frame ["stream", "start"] (defScope s_next_frame) := ⟨rfl, rfl, rfl, by decide +kernel, rfl, by decide +kernel, by decide +kernel⟩
abbrev s_digits_end : Stmt := top 31
abbrev N_digits_end : List Str := ["stream", "start", "end"]
theorem sc_digits_end : FnScope N_digits_end ["stream", "start"] (defScope s_digits_end) := ⟨rfl, rfl, rfl, by decide +kernel, rfl, by decide +kernel, by decide +kernel⟩
abbrev s_plain_end : Stmt := top 32
abbrev N_plain_end : List Str := ["stream", "start", "stop", "part", "char"]
theorem sc_plain_end : FnScope N_plain_end ["stream", "start", "stop"] (defScope s_plain_end) := ⟨rfl, rfl, rfl, by decide +kernel, rfl, by decide +kernel, by decide +kernel⟩
abbrev s__law_deck : Stmt := top 34
abbrev N__law_deck : List Str := ["_law_script", "_law_mixed", "_law_cell"]
theorem sc__law_deck : FnScope N__law_deck ["_law_script"] (defScope s__law_deck) := ⟨rfl, rfl, rfl, by decide +kernel, rfl, by decide +kernel, by decide +kernel⟩
abbrev s__law_draw : Stmt := top 35
abbrev N__law_draw : List Str := ["_law_deck_here", "_law_below", "_law_figure_here", "_law_cell"]
theorem sc__law_draw : FnScope N__law_draw ["_law_deck_here", "_law_below"] (defScope s__law_draw) := ⟨rfl, rfl, rfl, by decide +kernel, rfl, by decide +kernel, by decide +kernel⟩
abbrev s__law_pick : Stmt := top 36
abbrev N__law_pick : List Str := ["_law_deck_here", "_law_some"]
theorem sc__law_pick : FnScope N__law_pick ["_law_deck_here", "_law_some"] (defScope s__law_pick) := ⟨rfl, rfl, rfl, by decide +kernel, rfl, by decide +kernel, by decide +kernel⟩
abbrev s__law_signs : Stmt := top 37
abbrev N__law_signs : List Str := []
theorem sc__law_signs : FnScope N__law_signs [] (defScope s__law_signs) := ⟨rfl, rfl, rfl, by decide +kernel, rfl, by decide +kernel, by decide +kernel⟩
abbrev s__law_text : Stmt := top 38
abbrev N__law_text : List Str := ["_law_deck_here", "_law_size", "_law_way", "_law_signs_here", "_law_first", "_law_step", "_law_some", "_law_text_here", "_law_turn", "_law_at"]
theorem sc__law_text : FnScope N__law_text ["_law_deck_here", "_law_size"] (defScope s__law_text) := ⟨rfl, rfl, rfl, by decide +kernel, rfl, by decide +kernel, by decide +kernel⟩
abbrev s__law_is_body : Stmt := top 39
abbrev N__law_is_body : List Str := ["_law_thing", "_law_sign"]
theorem sc__law_is_body : FnScope N__law_is_body ["_law_thing"] (defScope s__law_is_body) := ⟨rfl, rfl, rfl, by decide +kernel, rfl, by decide +kernel, by decide +kernel⟩
abbrev s__law_parts : Stmt := top 40
abbrev N__law_parts : List Str := ["_law_word", "_law_kinds"]
theorem sc__law_parts : FnScope N__law_parts ["_law_word"] (defScope s__law_parts) := ⟨rfl, rfl, rfl, by decide +kernel, rfl, by decide +kernel, by decide +kernel⟩
abbrev s__law_body : Stmt := top 41
abbrev N__law_body : List Str := ["_law_deck_here"]
theorem sc__law_body : FnScope N__law_body ["_law_deck_here"] (defScope s__law_body) := ⟨rfl, rfl, rfl, by decide +kernel, rfl, by decide +kernel, by decide +kernel⟩
abbrev s__law_number : Stmt := top 42
abbrev N__law_number : List Str := ["_law_deck_here", "_law_low", "_law_some"]
theorem sc__law_number : FnScope N__law_number ["_law_deck_here", "_law_low"] (defScope s__law_number) := ⟨rfl, rfl, rfl, by decide +kernel, rfl, by decide +kernel, by decide +kernel⟩
abbrev s__law_message : Stmt := top 43
abbrev N__law_message : List Str := ["_law_deck_here", "_law_words", "_law_word", "_law_found", "_law_mark"]
theorem sc__law_message : FnScope N__law_message ["_law_deck_here", "_law_words"] (defScope s__law_message) := ⟨rfl, rfl, rfl, by decide +kernel, rfl, by decide +kernel, by decide +kernel⟩
abbrev s__law_written : Stmt := top 44
abbrev N__law_written : List Str := ["_law_message_here", "_law_part"]
theorem sc__law_written : FnScope N__law_written ["_law_message_here"] (defScope s__law_written) := ⟨rfl, rfl, rfl, by decide +kernel, rfl, by decide +kernel, by decide +kernel⟩
abbrev s__law_figure : Stmt := top 45
abbrev N__law_figure : List Str := ["_law_word", "_law_low", "_law_sign"]
theorem sc__law_figure : FnScope N__law_figure ["_law_word", "_law_low"] (defScope s__law_figure) := ⟨rfl, rfl, rfl, by decide +kernel, rfl, by decide +kernel, by decide +kernel⟩
abbrev s__law_told : Stmt := top 46
abbrev N__law_told : List Str := ["_law_text_here", "_law_word", "_law_gap", "_law_rest", "_law_marks", "_law_found", "_law_at", "_law_mark", "_law_part"]
theorem sc__law_told : FnScope N__law_told ["_law_text_here"] (defScope s__law_told) := ⟨rfl, rfl, rfl, by decide +kernel, rfl, by decide +kernel, by decide +kernel⟩
abbrev s__law_spoiled : Stmt := top 47
abbrev N__law_spoiled : List Str := ["_law_deck_here", "_law_stream", "_law_way", "_law_at", "_law_other", "_law_spots", "_law_sign", "_law_spot"]
theorem sc__law_spoiled : FnScope N__law_spoiled ["_law_deck_here", "_law_stream"] (defScope s__law_spoiled) := ⟨rfl, rfl, rfl, by decide +kernel, rfl, by decide +kernel, by decide +kernel⟩
abbrev s__law_got : Stmt := top 48
abbrev N__law_got : List Str := ["_law_deed", "e"]
theorem sc__law_got : FnScope N__law_got ["_law_deed"] (defScope s__law_got) := ⟨rfl, rfl, rfl, by decide +kernel, rfl, by decide +kernel, by decide +kernel⟩
abbrev s__law_is_read : Stmt := top 49
abbrev N__law_is_read : List Str := ["_law_text_here", "_law_found", "_law_due", "_law_one", "_law_other"]
theorem sc__law_is_read : FnScope N__law_is_read ["_law_text_here"] (defScope s__law_is_read) := ⟨rfl, rfl, rfl, by decide +kernel, rfl, by decide +kernel, by decide +kernel⟩
abbrev s__law_near : Stmt := top 50
abbrev N__law_near : List Str := ["_law_deck_here", "_law_text_here", "_law_way", "_law_words", "_law_at", "_law_some"]
theorem sc__law_near : FnScope N__law_near ["_law_deck_here", "_law_text_here"] (defScope s__law_near) := ⟨rfl, rfl, rfl, by decide +kernel, rfl, by decide +kernel, by decide +kernel⟩
abbrev s_law : Stmt := top 51
abbrev N_law : List Str := ["_law_script", "_law_deck_here", "_law_kinds", "_law_rows", "_law_word", "_law_message_here", "_law_text_here", "_law_told_here", "_law_way", "_law_near_here", "_law_turn", "_law_stream"]
theorem sc_law : FnScope N_law ["_law_script"] (defScope s_law) := ⟨rfl, rfl, rfl, by decide +kernel, rfl, by decide +kernel, by decide +kernel⟩
structure Fn (K : PySem.W.Frag) (mg : Str → Option Value) (x : Str) (st : Stmt) (ps : List Str) (f : Addr) (fd : FuncData) : Prop where
  F : Fun K x x st f fd
  b : Binds K fd ps []
  g : mg x = some (.ref f)
structure Blt (mg : Str → Option Value) : Prop where
  n_len : mg "len" = none
  n_str : mg "str" = none
  n_int : mg "int" = none
  n_isinstance : mg "isinstance" = none
  n_range : mg "range" = none
  n_enumerate : mg "enumerate" = none
  n_tuple : mg "tuple" = none
  n_list : mg "list" = none
  n_max : mg "max" = none
  n_min : mg "min" = none
  n_sorted : mg "sorted" = none
  n_repr : mg "repr" = none
  n_bool : mg "bool" = none
  n_all : mg "all" = none
  n_zip : mg "zip" = none
structure Con (mg : Str → Option Value) (tm tn tb : Tok) : Prop extends Blt mg where
  g_NUMBER_MOST : mg "NUMBER_MOST" = some (.int 1000000000 tn)
  g_BODY_MOST : mg "BODY_MOST" = some (.int 150 tb)
  g_TEXT_MOST : mg "TEXT_MOST" = some (.int 200 tm)
end Ag

end
/-! ## P1 -/
section
set_option linter.all false
set_option maxRecDepth 100000
namespace Ag
open PySem PySem.Spec PyProof.Rows L2
open SX (S S_len S_cat S_inj)
/-! ### texts -/
theorem sz {n : Nat} (h : n ≤ 16000000) : n ≤ sizeLine := by rw [sizeLine_eq]; omega
theorem same_new {H : Hp} {p : Addr} {o : HO} (h : H p = none) : Same H (upd H p o) := fun b x e => by
  rw [upd_ne (ne_of_none e h)]
  exact e
theorem ascii_S (l : List Nat) : Txt.isascii (S l) = l.all (· < 128) := by
  show (S l).cps.all _ = _
  rw [← Array.all_toList]
theorem printable_S (l : List Nat) : Txt.isprintable (S l) = l.all Unicode.isPrintable := by
  show (S l).cps.all _ = _
  rw [← Array.all_toList]
theorem isdigit_S (l : List Nat) : Txt.isdigit (S l) = (decide (l ≠ []) && l.all Unicode.isDigit) := by
  show (decide ((S l).length > 0) && (S l).cps.all _) = _
  rw [← Array.all_toList, S_len]
  cases l <;> simp
theorem print128 : ∀ c < 128, Unicode.isPrintable c = plainC c := by decide +kernel
theorem digit128 : ∀ c < 128, Unicode.isDigit c = digC c := by decide +kernel
theorem plain_of (l : List Nat) : (l.all (· < 128) && l.all Unicode.isPrintable) = plainL l := by
  induction l with
  | nil => rfl
  | cons c cs ih =>
    show ((decide (c < 128) && cs.all _) && (Unicode.isPrintable c && cs.all _)) = (plainC c && plainL cs)
    rw [← ih]
    by_cases h : c < 128
    · rw [print128 c h]
      simp only [h, decide_true, Bool.true_and]
      cases plainC c <;> simp
    · have e : plainC c = false := by
        unfold plainC
        simp
        omega
      rw [e]
      simp [h]
theorem dig_all {l : List Nat} (h : l.all (· < 128) = true) : l.all Unicode.isDigit = l.all digC := by
  induction l with
  | nil => rfl
  | cons c cs ih =>
    have h' : c < 128 ∧ cs.all (· < 128) = true := by simpa using h
    show (Unicode.isDigit c && cs.all _) = (digC c && cs.all _)
    rw [digit128 c h'.1, ih h'.2]
theorem toStr (n : Nat) : (Str.ofString (toString ((n : Nat) : Int))) = S (numL n) := SX.num_S n
theorem log_small {n : Nat} (h : n < 2 ^ 200) : ((n : Nat) : Int).natAbs.log2 < 1920 := by
  rw [Int.natAbs_natCast]
  by_cases z : n = 0
  · subst z; decide
  · have h2 : n < 2 ^ 1920 := Nat.lt_of_lt_of_le h (Nat.pow_le_pow_right (by decide) (by decide))
    exact (Nat.log2_lt z).mpr h2
theorem int_S {l : List Nat} (h : l.all digC = true) (hne : l ≠ []) (hl : l.length ≤ 640) : PySem.intText? (S l) = some ((digitsVal l : Nat) : Int) := by
  refine SX.int_S ?_ hne (by omega)
  rw [← h]
  rfl
theorem numL_mono {m n : Nat} (h : m ≤ n) : (numL m).length ≤ (numL n).length := by
  induction n using Nat.strongRecOn generalizing m with
  | ind n ih =>
    by_cases hn : n < 10
    · have e : numL m = [48 + m] := TL.numL_lt (by omega)
      have e2 : numL n = [48 + n] := TL.numL_lt hn
      rw [e, e2]
      exact Nat.le_refl _
    · have e2 : numL n = numL (n / 10) ++ [48 + n % 10] := TL.numL_step (by omega)
      by_cases hm : m < 10
      · have e : numL m = [48 + m] := TL.numL_lt hm
        rw [e, e2]
        simp
      · have e : numL m = numL (m / 10) ++ [48 + m % 10] := TL.numL_step (by omega)
        rw [e, e2]
        simp only [List.length_append, List.length_singleton]
        have := @ih (n / 10) (by omega) (m / 10) (by omega)
        omega
theorem digs_go : ∀ (l : List Nat) (acc : Nat), l.all digC = true → l.foldl (fun acc c => acc * 10 + (c - 48)) acc < (acc + 1) * 10 ^ l.length
  | [], acc, _ => by simp
  | c :: cs, acc, h => by
    have h' : digC c = true ∧ cs.all digC = true := by simpa using h
    have hc : c - 48 < 10 := by
      have z := h'.1
      simp [digC] at z
      omega
    have := digs_go cs (acc * 10 + (c - 48)) h'.2
    show List.foldl _ (acc * 10 + (c - 48)) cs < _
    rw [List.length_cons, Nat.pow_succ]
    refine Nat.lt_of_lt_of_le this ?_
    rw [Nat.mul_comm (10 ^ cs.length) 10, ← Nat.mul_assoc]
    exact Nat.mul_le_mul_right _ (by omega)
theorem digs_lt (l : List Nat) (h : l.all digC = true) : digitsVal l < 10 ^ l.length := by
  have := digs_go l 0 h
  rw [Nat.zero_add, Nat.one_mul] at this
  exact this
section
variable {P : Program} {w : World} {K : PySem.W.Frag} {mg : Str → Option Value} {base : Heap} {tm : Tok}
def spPlain : Sp := fun vs H Q _ => ∃ l : List Nat, vs = [.str (S l)] ∧ Q (.bl (plainL l)) H
theorem ok_is_plain {f : Addr} {fd : FuncData} (F : Fn K mg "is_plain" s_is_plain ["string"] f fd) : FnOk P w K mg base CX0 1 f fd ["string"] spPlain := by
  refine F.F.ok sc_is_plain (fun vs H Q E h => ?_) (fun cdv A outer s H vs Q E hr h => ?_)
  · obtain ⟨l, rfl, _⟩ := h
    rfl
  · obtain ⟨l, rfl, q⟩ := h
    refine ⟨_, (pss_one (ps_ret (pe_and (pe_m0 PySem.F.slot_str_isascii PySem.F.type_str_isascii mt_isascii (pv 0)) (pe_one (pe_m0 PySem.F.slot_str_isprintable PySem.F.type_str_isprintable mt_isprintable (pv 0)))))), ?_⟩
    refine ⟨.str (S l), rfl, ⟨_, rfl⟩, S l, rfl, rfl, trivial, _, rfl, ?_⟩
    rw [← plain_of] at q
    rw [ascii_S]
    cases h : l.all (· < 128) with
    | false =>
      rw [h] at q
      exact q
    | true =>
      refine iteT ?_
      refine ⟨.str (S l), rfl, ⟨_, rfl⟩, S l, rfl, rfl, trivial, ?_⟩
      rw [printable_S]
      rw [h] at q
      exact q
def spDec : Sp := fun vs H Q _ => ∃ (l : List Nat) (m : Nat), vs = [.str (S l), .int (m : Int)] ∧ l.length ≤ 1000000 ∧ m < 2 ^ 100 ∧ Q (.bl (isDec l m)) H
theorem ok_is_decimal {f : Addr} {fd : FuncData} (F : Fn K mg "is_decimal" s_is_decimal ["string", "most"] f fd) (B : Blt mg) : FnOk P w K mg base CX0 1 f fd ["string", "most"] spDec := by
  refine F.F.ok sc_is_decimal (fun vs H Q E h => ?_) (fun cdv A outer s H vs Q E hr h => ?_)
  · obtain ⟨l, m, rfl, _⟩ := h
    rfl
  · obtain ⟨l, m, rfl, hl, hm, q⟩ := h
    refine ⟨_, (pss_cons (ps_if (PW.pt (pw_or (pt_not (pt_val (pe_m0 PySem.F.slot_str_isascii PySem.F.type_str_isascii mt_isascii (pv 0)))) (pw_or (pt_not (pt_val (pe_m0 PySem.F.slot_str_isdigit PySem.F.type_str_isdigit mt_isdigit (pv 0)))) (pw_or1 (pt_cmpR op_gt (pe_callB call_len_str (by rfl) B.n_len PySem.boot_len (pa_cons (pv 0) pa_nil)) (pe_callB call_len_str (by rfl) B.n_len PySem.boot_len (pa_cons (pe_callTy call_str_int (by rfl) B.n_str (by decide +kernel) (pa_cons (pv 1) pa_nil)) pa_nil)) (nomark _))))))
      (pss_one (ps_ret pe_bl))
      pss_nil)
      (pss_one (ps_ret (pe_and (pe_cmpR op_eq (pe_callTy call_str_int (by rfl) B.n_str (by decide +kernel) (pa_cons (pe_callTy call_int_str (by rfl) B.n_int (by decide +kernel) (pa_cons (pv 0) pa_nil)) pa_nil)) (pv 0) (nomark _)) (pe_one (pe_cmpR op_le (pe_callTy call_int_str (by rfl) B.n_int (by decide +kernel) (pa_cons (pv 0) pa_nil)) (pv 1) (nomark _))))))), ?_⟩
    have no : isDec l m = false → Q (.bl false) H := fun e => by rw [e] at q; exact q
    -- not ascii
    refine ⟨.str (S l), rfl, ⟨_, rfl⟩, S l, rfl, rfl, trivial, _, rfl, ?_⟩
    rw [ascii_S]
    cases h1 : l.all (· < 128) with
    | false =>
      refine iteT (iteT ?_)
      refine no ?_
      cases hd : isDec l m with
      | false => rfl
      | true =>
        obtain ⟨k, _, rfl⟩ := isDec_iff.mp hd
        have z : (numL k).all (· < 128) = true := by
          rw [List.all_eq_true]
          intro c hc
          have := numL_all k c hc
          simp
          omega
        rw [z] at h1
        cases h1
    | true =>
      refine iteF ?_
      refine ⟨.str (S l), rfl, ⟨_, rfl⟩, S l, rfl, rfl, trivial, _, rfl, ?_⟩
      rw [isdigit_S, dig_all h1]
      cases h2 : (decide (l ≠ []) && l.all digC) with
      | false =>
        refine iteT (iteT ?_)
        refine no ?_
        cases hd : isDec l m with
        | false => rfl
        | true =>
          obtain ⟨k, _, rfl⟩ := isDec_iff.mp hd
          have z : (numL k).all digC = true := by
            rw [List.all_eq_true]
            intro c hc
            have := numL_all k c hc
            simp [digC]
            omega
          rw [z, decide_eq_true (numL_ne k)] at h2
          cases h2
      | true =>
        refine iteF ?_
        rw [Bool.and_eq_true, decide_eq_true_eq] at h2
        obtain ⟨hne, hdg⟩ := h2
        refine ⟨.str (S l), rfl, S l, rfl, sz (by rw [S_len]; omega), ?_⟩
        refine ⟨.int (m : Int), rfl, (m : Int), rfl, log_small (Nat.lt_of_lt_of_le hm (Nat.pow_le_pow_right (by decide) (by decide))), ?_⟩
        rw [toStr]
        refine ⟨S (numL m), rfl, sz ?_, ?_⟩
        · rw [S_len]
          have : (numL m).length ≤ 31 := TL.numL_len (by decide) (Nat.lt_of_lt_of_le hm (by decide))
          omega
        refine ⟨_, _, rfl, rfl, _, rfl, ?_⟩
        rw [S_len, S_len]
        refine ite2 (fun h3 => ?_) (fun h3 => ?_)
        · have h3 := of_decide_eq_true h3
          refine no ?_
          cases hd : isDec l m with
          | false => rfl
          | true =>
            obtain ⟨k, hk, rfl⟩ := isDec_iff.mp hd
            have := numL_mono hk
            omega
        · have h3 : ¬ ((numL m).length : Int) < (l.length : Int) := fun z => h3 (decide_eq_true z)
          have hl2 : l.length ≤ 31 := by
            have : (numL m).length ≤ 31 := TL.numL_len (by decide) (Nat.lt_of_lt_of_le hm (by decide))
            omega
          have hI : PySem.intText? (S l) = some ((digitsVal l : Nat) : Int) := int_S hdg hne (by omega)
          refine ⟨.str (S l), rfl, S l, _, rfl, hI, by rw [S_len]; omega, ?_⟩
          have hv : digitsVal l < 2 ^ 200 := Nat.lt_of_lt_of_le (digs_lt l hdg) (Nat.le_trans (Nat.pow_le_pow_right (by decide) hl2) (by decide +kernel))
          refine ⟨_, rfl, log_small hv, ?_⟩
          rw [toStr]
          refine ⟨.str (S l), rfl, rfl, _, rfl, ?_⟩
          have hdd : decide (V.str (S (numL (digitsVal l))) = V.str (S l)) = decide (numL (digitsVal l) = l) := by
            rw [Bool.eq_iff_iff, decide_eq_true_eq, decide_eq_true_eq]
            constructor
            · intro z
              injection z with z
              exact S_inj z
            · intro z
              rw [z]
          rw [hdd]
          refine ite2 (fun h4 => ?_) (fun h4 => ?_)
          · refine ⟨.str (S l), rfl, S l, _, rfl, hI, by rw [S_len]; omega, ?_⟩
            refine ⟨.int (m : Int), rfl, _, _, rfl, rfl, ?_⟩
            have e : isDec l m = decide (((digitsVal l : Nat) : Int) ≤ (m : Int)) := by
              show (decide (numL (digitsVal l) = l) && decide (digitsVal l ≤ m)) = _
              rw [h4, Bool.true_and, Bool.eq_iff_iff, decide_eq_true_eq, decide_eq_true_eq]
              omega
            rw [e] at q
            exact q
          · refine no ?_
            show (decide (numL (digitsVal l) = l) && decide (digitsVal l ≤ m)) = _
            rw [Bool.eq_false_iff.mpr h4, Bool.false_and]
end
end Ag

end
/-! ## Q1 -/
section
set_option linter.all false
set_option maxRecDepth 100000
namespace Ag
open PySem PySem.Spec PyProof.Rows L2
open SX (S S_len S_cat S_inj)
/-! ### items of messages -/
inductive Itm where
  | s (l : List Nat)
  | i (k : Int)
  | n
  deriving DecidableEq
def Itm.v : Itm → V
  | .s l => .str (S l)
  | .i k => .int k
  | .n => .non
def Itm.ty : Itm → String
  | .s _ => "str"
  | .i _ => "int"
  | .n => "NoneType"
theorem Itm.tyx {K : PySem.W.Frag} {H : Hp} (x : Itm) : TyX K H x.v (.type x.ty) := by
  cases x
  · exact .base (.str _)
  · exact .base (.int _)
  · exact .base .non
def numB : Itm → Bool
  | .i k => decide (0 ≤ k) && decide (k ≤ 1000000000)
  | _ => false
def bodyB : Itm → Bool
  | .s l => decide (l.length ≤ 150) && plainL l
  | _ => false
/-- kinds: 0 body, 1 number, 2 count -/
def itmB (kind : Nat) (x : Itm) : Bool := if kind = 0 then bodyB x else numB x && (decide (kind = 1) || match x with | .i k => decide (k ≥ 1) | _ => false)
def kindS : Nat → Str
  | 0 => Str.ofString "body"
  | 1 => Str.ofString "number"
  | _ => Str.ofString "count"
theorem isi_kit {K : PySem.W.Frag} (x : Itm) {T : String} (hT : T = "int" ∨ T = "bool" ∨ T = "str") : PySem.W.kitOne K (.type x.ty) (.type T) = some (x.ty == T) := by
  have h : x.ty = "str" ∨ x.ty = "int" ∨ x.ty = "NoneType" := by cases x <;> simp [Itm.ty]
  generalize x.ty = U at h
  rcases hT with rfl | rfl | rfl <;> rcases h with rfl | rfl | rfl <;> exact kit_ty (by decide +kernel)
section
variable {P : Program} {w : World} {K : PySem.W.Frag} {mg : Str → Option Value} {base : Heap} {tm tn tb : Tok}
def spInteger : Sp := fun vs H Q _ => ∃ x : Itm, vs = [x.v] ∧ Q (.bl (x.ty == "int")) H
theorem ok_is_integer {f : Addr} {fd : FuncData} (F : Fn K mg "is_integer" s_is_integer ["thing"] f fd) (B : Con mg tm tn tb) : FnOk P w K mg base CX0 1 f fd ["thing"] spInteger := by
  refine F.F.ok sc_is_integer (fun vs H Q E h => ?_) (fun cdv A outer s H vs Q E hr h => ?_)
  · obtain ⟨x, rfl, _⟩ := h
    rfl
  · obtain ⟨x, rfl, q⟩ := h
    refine ⟨_, (pss_one (ps_ret (pe_and (pe_callB call_isi (by rfl) B.n_isinstance (by decide +kernel) (pa_cons (pv 0) (pa_cons (pe_bltn (v := .ty "int") (by rfl) B.n_int (by decide +kernel) rfl) pa_nil))) (pe_one (pe_not (pe_callB call_isi (by rfl) B.n_isinstance (by decide +kernel) (pa_cons (pv 0) (pa_cons (pe_bltn (v := .ty "bool") (by rfl) B.n_bool (by decide +kernel) rfl) pa_nil)))))))), ?_⟩
    refine ⟨x.v, rfl, x.v, .ty "int", _, _, _, rfl, .ty "int", x.tyx, isi_kit x (.inl rfl), _, rfl, ite2 (fun h => ?_) (fun h => ?_)⟩
    · refine ⟨_, rfl, x.v, .ty "bool", _, _, _, rfl, .ty "bool", x.tyx, isi_kit x (.inr (.inl rfl)), _, rfl, ?_⟩
      rw [h] at q
      cases x with
      | i k => exact q
      | s l => cases h
      | n => cases h
    · rw [Bool.eq_false_iff.mpr h] at q
      exact q
def rngB (lo hi : Int) : Itm → Bool
  | .i k => decide (lo ≤ k) && decide (k ≤ hi)
  | _ => false
def spBetween : Sp := fun vs H Q _ => ∃ (x : Itm) (lo hi : Int), vs = [x.v, .int lo, .int hi] ∧ Q (.bl (rngB lo hi x)) H
theorem ok_is_between {f f1 : Addr} {fd fd1 : FuncData} (F : Fn K mg "is_between" s_is_between ["thing", "least", "most"] f fd) (B : Con mg tm tn tb) (F_is_integer : Fn K mg "is_integer" s_is_integer ["thing"] f1 fd1) : FnOk P w K mg base CX0 2 f fd ["thing", "least", "most"] spBetween := by
  have G_is_integer : FnOk P w K mg base CX0 1 f1 fd1 ["thing"] spInteger := ok_is_integer F_is_integer B
  refine F.F.ok sc_is_between (fun vs H Q E h => ?_) (fun cdv A outer s H vs Q E hr h => ?_)
  · obtain ⟨x, lo, hi, rfl, _⟩ := h
    rfl
  · obtain ⟨x, lo, hi, rfl, q⟩ := h
    refine ⟨_, (pss_one (ps_ret (pe_and (pe_call G_is_integer (hr.mono (by decide)) (by rfl) F_is_integer.g F_is_integer.F.kp F_is_integer.b .nil pass0 (pa_cons (pv 0) pa_nil)) (pe_one (pe_chain op_le op_le (pv 1) (pv 0) (pv 2)))))), ?_⟩
    refine ⟨_, rfl, x, rfl, _, rfl, ite2 (fun h => ?_) (fun h => ?_)⟩
    · cases x with
      | i k =>
        refine ⟨_, rfl, _, rfl, _, _, rfl, rfl, _, rfl, ?_⟩
        simp only [rngB] at q
        refine ite2 (fun h1 => ?_) (fun h1 => ?_)
        · rw [h1, Bool.true_and] at q
          exact ⟨_, rfl, _, _, rfl, rfl, q⟩
        · rw [Bool.eq_false_iff.mpr h1, Bool.false_and] at q
          exact q
      | s l => cases h
      | n => cases h
    · cases x with
      | i k => exact absurd rfl h
      | s l => exact q
      | n => exact q
def spNumber : Sp := fun vs H Q _ => ∃ x : Itm, vs = [x.v] ∧ Q (.bl (numB x)) H
theorem ok_is_number {f f1 f2 : Addr} {fd fd1 fd2 : FuncData} (F : Fn K mg "is_number" s_is_number ["thing"] f fd) (B : Con mg tm tn tb) (F_is_integer : Fn K mg "is_integer" s_is_integer ["thing"] f1 fd1) (F_is_between : Fn K mg "is_between" s_is_between ["thing", "least", "most"] f2 fd2) : FnOk P w K mg base CX0 3 f fd ["thing"] spNumber := by
  have G_is_between : FnOk P w K mg base CX0 2 f2 fd2 ["thing", "least", "most"] spBetween := ok_is_between F_is_between B F_is_integer
  refine F.F.ok sc_is_number (fun vs H Q E h => ?_) (fun cdv A outer s H vs Q E hr h => ?_)
  · obtain ⟨x, rfl, _⟩ := h
    rfl
  · obtain ⟨x, rfl, q⟩ := h
    refine ⟨_, (pss_one (ps_ret (pe_call G_is_between (hr.mono (by decide)) (by rfl) F_is_between.g F_is_between.F.kp F_is_between.b .nil pass0 (pa_cons (pv 0) (pa_cons pe_int (pa_cons (pe_glob (v := .int 1000000000) rfl B.g_NUMBER_MOST ⟨_, rfl⟩) pa_nil)))))), ?_⟩
    refine ⟨_, rfl, x, 0, 1000000000, rfl, ?_⟩
    cases x <;> exact q
def spBody : Sp := fun vs H Q _ => ∃ x : Itm, vs = [x.v] ∧ (∀ l, x = .s l → l.length ≤ 100000) ∧ Q (.bl (bodyB x)) H
theorem ok_is_body {f f1 : Addr} {fd fd1 : FuncData} (F : Fn K mg "is_body" s_is_body ["thing"] f fd) (B : Con mg tm tn tb) (F_is_plain : Fn K mg "is_plain" s_is_plain ["string"] f1 fd1) : FnOk P w K mg base CX0 2 f fd ["thing"] spBody := by
  have G_is_plain : FnOk P w K mg base CX0 1 f1 fd1 ["string"] spPlain := ok_is_plain F_is_plain
  refine F.F.ok sc_is_body (fun vs H Q E h => ?_) (fun cdv A outer s H vs Q E hr h => ?_)
  · obtain ⟨x, rfl, _⟩ := h
    rfl
  · obtain ⟨x, rfl, hb, q⟩ := h
    refine ⟨_, (pss_one (ps_ret (pe_and (pe_callB call_isi (by rfl) B.n_isinstance (by decide +kernel) (pa_cons (pv 0) (pa_cons (pe_bltn (v := .ty "str") (by rfl) B.n_str (by decide +kernel) rfl) pa_nil))) (pe_and (pe_cmpR op_le (pe_callB call_len (by rfl) B.n_len PySem.boot_len (pa_cons (pv 0) pa_nil)) (pe_glob (v := .int 150) rfl B.g_BODY_MOST ⟨_, rfl⟩) (nomark _)) (pe_one (pe_call G_is_plain (hr.mono (by decide)) (by rfl) F_is_plain.g F_is_plain.F.kp F_is_plain.b .nil pass0 (pa_cons (pv 0) pa_nil))))))), ?_⟩
    refine ⟨x.v, rfl, x.v, .ty "str", _, _, _, rfl, .ty "str", x.tyx, isi_kit x (.inr (.inr rfl)), _, rfl, ite2 (fun h => ?_) (fun h => ?_)⟩
    · cases x with
      | s l =>
        have hl := hb l rfl
        refine ⟨_, rfl, .str (S l), _, rfl, ⟨sz (by rw [S_len]; omega), rfl⟩, _, _, rfl, rfl, _, rfl, ?_⟩
        simp only [bodyB] at q
        rw [S_len]
        have e : decide ((l.length : Int) ≤ 150) = decide (l.length ≤ 150) := by
          rw [Bool.eq_iff_iff, decide_eq_true_eq, decide_eq_true_eq]
          omega
        rw [e]
        refine ite2 (fun h1 => ?_) (fun h1 => ?_)
        · rw [h1, Bool.true_and] at q
          exact ⟨_, rfl, l, rfl, q⟩
        · rw [Bool.eq_false_iff.mpr h1, Bool.false_and] at q
          exact q
      | i k => cases h
      | n => cases h
    · cases x with
      | s l => exact absurd rfl h
      | i k => exact q
      | n => exact q
def spItem : Sp := fun vs H Q _ => ∃ (k : Nat) (x : Itm), k ≤ 2 ∧ vs = [.str (kindS k), x.v] ∧ (∀ l, x = .s l → l.length ≤ 100000) ∧ Q (.bl (itmB k x)) H
theorem ok_is_item {f f1 f2 : Addr} {fd fd1 fd2 : FuncData} (F : Fn K mg "is_item" s_is_item ["kind", "thing"] f fd) (F_is_body : Fn K mg "is_body" s_is_body ["thing"] f1 fd1) (G_is_body : FnOk P w K mg base CX0 2 f1 fd1 ["thing"] spBody)
    (F_is_number : Fn K mg "is_number" s_is_number ["thing"] f2 fd2) (G_is_number : FnOk P w K mg base CX0 3 f2 fd2 ["thing"] spNumber) : FnOk P w K mg base CX0 4 f fd ["kind", "thing"] spItem := by
  refine F.F.ok sc_is_item (fun vs H Q E h => ?_) (fun cdv A outer s H vs Q E hr h => ?_)
  · obtain ⟨k, x, _, rfl, _⟩ := h
    rfl
  · obtain ⟨k, x, hk, rfl, hb, q⟩ := h
    refine ⟨_, (pss_cons (ps_if (pt_cmpR op_eq (pv 0) pe_str (nomark _))
      (pss_one (ps_ret (pe_call G_is_body (hr.mono (by decide)) (by rfl) F_is_body.g F_is_body.F.kp F_is_body.b .nil pass0 (pa_cons (pv 1) pa_nil))))
      pss_nil)
      (pss_one (ps_ret (pe_and (pe_call G_is_number (hr.mono (by decide)) (by rfl) F_is_number.g F_is_number.F.kp F_is_number.b .nil pass0 (pa_cons (pv 1) pa_nil)) (pe_one (pe_or (pe_cmpR op_eq (pv 0) pe_str (nomark _)) (pe_one (pe_cmpR op_ge (pv 1) pe_int (nomark _))))))))), ?_⟩
    refine ⟨_, rfl, rfl, _, rfl, ?_⟩
    refine ite2 (fun h => ?_) (fun h => ?_)
    · have hk0 : k = 0 := by
        match k, hk, h with
        | 0, _, _ => rfl
        | 1, _, h => exact absurd h (by decide +kernel)
        | 2, _, h => exact absurd h (by decide +kernel)
      subst hk0
      exact ⟨_, rfl, x, rfl, hb, q⟩
    · refine ⟨_, rfl, x, rfl, _, rfl, ?_⟩
      have hk0 : k ≠ 0 := by
        rintro rfl
        exact absurd rfl h
      unfold itmB at q
      rw [if_neg hk0] at q
      refine ite2 (fun h1 => ?_) (fun h1 => ?_)
      · rw [h1, Bool.true_and] at q
        refine ⟨_, rfl, rfl, _, rfl, ?_⟩
        match k, hk, hk0, q with
        | 1, _, _, q => 
          refine iteT ?_
          exact q
        | 2, _, _, q =>
          refine iteF ?_
          cases x with
          | i j => exact ⟨_, rfl, _, _, rfl, rfl, q⟩
          | s l => cases h1
          | n => cases h1
      · rw [Bool.eq_false_iff.mpr h1, Bool.false_and] at q
        exact q
end
end Ag

end
/-! ## Q2 -/
section
set_option linter.all false
set_option maxRecDepth 100000
namespace Ag
open PySem PySem.Spec PyProof.Rows L2
open SX (S S_len S_cat S_inj)
/-! ### the table of forms -/
def forms : List (List Nat × List Nat) := [([97,115,107], [2,0]), ([112,97,115,116], [1,1]), ([108,111,111,107], []), ([104,101,108,108,111], [1]), ([97,110,115,119,101,114], [2,0]), ([117,112,116,111], [1,1]), ([102,111,114,103,111,116], [1]), ([119,101,108,108], []), ([97,119,97,121], [1])]
def formOf (wd : List Nat) : Option (List Nat) := forms.lookup wd
structure Frms (K : PySem.W.Frag) (w : World) (mg : Str → Option Value) (Fm : Addr) : Prop where
  g : mg "FORMS" = some (.ref Fm)
  kd : ∃ es n, KDict K w Fm es n
  yes : ∀ wd ks, formOf wd = some ks → ∃ t, PySem.W.nsIn K Fm (S wd) = some (some (.ref t)) ∧ ∀ H, SqT K H t (ks.map fun k => .str (kindS k))
  no : ∀ wd, formOf wd = none → PySem.W.nsIn K Fm (S wd) = some none
theorem form_le {wd ks : List Nat} (h : formOf wd = some ks) : ks.length ≤ 2 ∧ ∀ k ∈ ks, k ≤ 2 := by
  have key : ∀ p ∈ forms, p.2.length ≤ 2 ∧ ∀ k ∈ p.2, k ≤ 2 := by decide
  unfold formOf at h
  obtain ⟨l1, l2, e, _⟩ := List.lookup_eq_some_iff.mp h
  exact key (wd, ks) (by rw [e]; simp)
/-- what is_message tells -/
def msgB : List Itm → Bool
  | .s wd :: xs => match formOf wd with
    | some ks => decide (xs.length = ks.length) && (List.zipWith itmB ks xs).all id
    | none => false
  | _ => false
def itD : Itm → PyData
  | .s l => .str (S l)
  | .i k => .int k
  | .n => .none
theorem it_dp {K : PySem.W.Frag} {H : Hp} (x : Itm) : Dp K H x.v (itD x) := by
  cases x
  · exact .str _
  · exact .int _
  · exact .non
theorem it_dps {K : PySem.W.Frag} {H : Hp} : ∀ xs : List Itm, DpAll K H (xs.map Itm.v) (xs.map itD)
  | [] => .nil
  | x :: xs => .cons (it_dp x) (it_dps xs)
def asc (l : List Nat) : Prop := ∀ c ∈ l, c < 128
def bnd (ms : List Itm) : Prop := ∀ l, Itm.s l ∈ ms → asc l ∧ l.length ≤ 100000
theorem bnd.tail {x : Itm} {xs : List Itm} (h : bnd (x :: xs)) : bnd xs := fun l hl => h l (List.mem_cons_of_mem _ hl)
theorem strOk_asc {l : List Nat} (h : asc l) : PyData.strOk (S l) = true := by
  unfold PyData.strOk
  show (Array.all _ _) = true
  rw [← Array.all_toList]
  rw [List.all_eq_true]
  intro c hc
  have h1 : c ∈ l := by simpa [S] using hc
  have := h c h1
  exact decide_eq_true (by omega)
theorem it_shaped {xs : List Itm} (hb : bnd xs) : SeqAt.shaped (.tuple (xs.map itD)) = true := by
  have h1 : ∀ xs : List Itm, bnd xs → PyData.canLayAll0 (xs.map itD) = true := by
    intro xs hb
    induction xs with
    | nil => rfl
    | cons x xs ih =>
      rw [List.map_cons]
      simp only [PyData.canLayAll0, ih hb.tail, Bool.and_true]
      cases x with
      | s l => exact strOk_asc (hb l (List.mem_cons_self ..)).1
      | i k => rfl
      | n => rfl
  have h2 : ∀ xs : List Itm, PyData.depthAll (xs.map itD) = 0 := by
    intro xs
    induction xs with
    | nil => rfl
    | cons x xs ih =>
      rw [List.map_cons]
      simp only [PyData.depthAll, ih]
      cases x <;> rfl
  unfold SeqAt.shaped
  simp only [PyData.canLay0, h1 _ hb, PyData.depth, h2]
  decide
theorem walk_zipT {K : PySem.W.Frag} {a b : Addr} {xs ys : List V} {n : Nat} (hn : n = min xs.length ys.length) : Walk (RZ.ItzT K a b) n (fun H => SqT K H a xs ∧ SqT K H b ys) (YPair (fun i => xs[i]?) (fun i => ys[i]?)) := by
  subst hn
  refine ⟨fun i _ hi q => ?_, fun _ q => ⟨xs, ys, q.1, q.2, by omega⟩, fun i H v H' _ q y => ?_⟩
  · have h1 : i < xs.length := by omega
    have h2 : i < ys.length := by omega
    exact ⟨xs, ys, xs[i], ys[i], q.1, q.2, by simp [h1], by simp [h2]⟩
  · obtain ⟨T, x, z, h1, h2, h3, h4, h5⟩ := y
    exact ⟨T, x, z, h1, h2, h3, h4 xs q.1, h5 ys q.2⟩
section
variable {P : Program} {w : World} {K : PySem.W.Frag} {mg : Str → Option Value} {base : Heap} {tm tn tb : Tok}
def spMsg : Sp := fun vs H Q _ => ∃ (a : Addr) (ms : List Itm), vs = [.ref a] ∧ H a = some (.tup (ms.map Itm.v)) ∧ bnd ms ∧ ms.length ≤ 1000 ∧ ∀ H', Same H H' → Q (.bl (msgB ms)) H'
theorem ok_is_message {f f1 Fm : Addr} {fd fd1 : FuncData} (F : Fn K mg "is_message" s_is_message ["thing"] f fd) (B : Con mg tm tn tb) (T : Frms K w mg Fm)
    (F_is_item : Fn K mg "is_item" s_is_item ["kind", "thing"] f1 fd1) (G_is_item : FnOk P w K mg base CX0 4 f1 fd1 ["kind", "thing"] spItem) : FnOk P w K mg base CX0 5 f fd ["thing"] spMsg := by
  obtain ⟨es, en, D⟩ := T.kd
  refine F.F.ok sc_is_message (fun vs H Q E h => ?_) (fun cdv A outer s H vs Q E hr h => ?_)
  · obtain ⟨a, ms, rfl, _⟩ := h
    rfl
  · obtain ⟨a, ms, rfl, ha, hb, hl, q⟩ := h
    refine ⟨_, (pss_cons (ps_if (PW.pt (pw_or (pt_not (pt_val (pe_callB call_isi (by rfl) B.n_isinstance (by decide +kernel) (pa_cons (pv 0) (pa_cons (pe_bltn (v := .ty "tuple") (by rfl) B.n_tuple (by decide +kernel) rfl) pa_nil))))) (pw_or1 (pt_cmpR (op_eqD hr.units) (pv 0) (pe_tup pa_nil) (nomark _)))))
      (pss_one (ps_ret pe_bl))
      pss_nil)
      (pss_cons (ps_par (i := 1) (j := 2) (by rfl) sc_is_message.nd rfl rfl (by decide) rfl rfl (pa_cons (pe_ix ix_tup (pv 0) pe_int (fun _ _ => rfl)) (pa_cons (pe_slice sl_tupA (pv 0) (po_some pe_int) po_none) pa_nil)) (by rfl))
      (pss_cons (ps_if (PW.pt (pw_or (pt_not (pt_val (pe_callB call_isi (by rfl) B.n_isinstance (by decide +kernel) (pa_cons (pv 1) (pa_cons (pe_bltn (v := .ty "str") (by rfl) B.n_str (by decide +kernel) rfl) pa_nil))))) (pw_or1 (pt_cmpR (op_notIn_kd D) (pv 1) (pe_glob (v := .ref Fm) rfl T.g rfl) rfl))))
      (pss_one (ps_ret pe_bl))
      pss_nil)
      (pss_cons (ps_set (i := 3) sc_is_message.nd rfl (.inl rfl) (pe_ix ix_kdict (pe_glob (v := .ref Fm) rfl T.g rfl) (pv 1) (fun _ _ => rfl)))
      (pss_one (ps_ret (pe_and (pe_cmpR op_eq (pe_callB call_len (by rfl) B.n_len PySem.boot_len (pa_cons (pv 2) pa_nil)) (pe_callB call_len (by rfl) B.n_len PySem.boot_len (pa_cons (pv 3) pa_nil)) (nomark _)) (pe_one (pe_callB (cr_all rfl) (by rfl) B.n_all (by decide +kernel) (pa_cons (pe_lc (own := [("kind", 4), ("item", 5)]) rfl sc_is_message.nd (RZ.pi_zipA (by rfl) B.n_zip (pa_cons (pv 3) (pa_cons (pv 2) pa_nil))) (blkOk_by (N := N_is_message) (sc := defScope s_is_message) (by decide +kernel)) (fun _ _ _ _ _ => pg_two (i := 4) (j := 5) K rfl sc_is_message.nd rfl rfl rfl rfl rfl) (fun _ _ _ _ _ => pts_nil) (fun _ _ _ _ _ => (pe_call G_is_item (hr.mono (by decide)) (by rfl) F_is_item.g F_is_item.F.kp F_is_item.b .nil pass0 (pa_cons (pv 4) (pa_cons (pv 5) pa_nil))))) pa_nil)))))))))), ?_⟩
    refine ⟨.ref a, rfl, .ref a, .ty "tuple", _, _, true, rfl, .ty "tuple", .base (.tup ha), kit_ty (by decide +kernel), _, rfl, iteF ?_⟩
    refine ⟨_, rfl, Nat.zero_le _, fun e he => ?_⟩
    have sm1 := same_new (o := .tup []) he
    refine ⟨_, _, .tup (SqT.of (sm1 _ _ ha)) (it_dps ms), .tup (SqT.of upd_same) .nil, it_shaped hb, by decide, _, rfl, ?_⟩
    have ha1 := sm1 _ _ ha
    generalize upd H e (.tup []) = H1 at sm1 ha1 ⊢
    cases ms with
    | nil =>
      rw [show PyData.eqv (.tuple (List.map itD [])) (.tuple []) = true from by simp [PyData.eqv, PyData.eqvAll]]
      refine iteT ?_
      exact q H1 sm1
    | cons x xs =>
      rw [show PyData.eqv (.tuple (List.map itD (x :: xs))) (.tuple []) = false from by simp [PyData.eqv, PyData.eqvAll]]
      refine iteF ?_
      refine ⟨_, rfl, a, _, _, x.v, rfl, rfl, SqT.of ha1, atI_nat (j := 0) rfl, ?_⟩
      have hlen : ((x :: xs).map Itm.v).length = xs.length + 1 := by rw [List.length_map]; rfl
      have hs1 : HT.sIx (xs.length + 1) 0 (some ((1 : Nat) : Int)) = 1 := sIx_at (by omega)
      refine ⟨_, rfl, _, rfl, a, _, rfl, SqT.of ha1, fun hh => ?_, fun _ it hi => ?_⟩
      · have h0 := hh.1
        rw [hlen] at h0
        rw [show (1 : Int) = ((1 : Nat) : Int) from rfl, hs1] at h0
        exact absurd h0 (by decide)
      have ecut : cutV ((x :: xs).map Itm.v) (some 1) none = xs.map Itm.v := by
        unfold cutV
        rw [hlen, show (1 : Int) = ((1 : Nat) : Int) from rfl, hs1]
        show ((xs.map Itm.v).take _) = _
        rw [show HT.sIx (xs.length + 1) (xs.length + 1) none = xs.length + 1 from rfl, show xs.length + 1 - 1 = (xs.map Itm.v).length by rw [List.length_map]; rfl]
        exact List.take_length
      rw [ecut]
      have sm2 := same_new (o := .tup (xs.map Itm.v)) hi
      have hit : upd H1 it (.tup (xs.map Itm.v)) it = some (.tup (xs.map Itm.v)) := upd_same
      have sm2 := sm1.trans sm2
      generalize upd H1 it (.tup (xs.map Itm.v)) = H2 at sm2 hit ⊢
      refine ⟨_, _, rfl, ?_⟩
      refine ⟨x.v, rfl, x.v, .ty "str", _, _, x.ty == "str", rfl, .ty "str", x.tyx, isi_kit x (.inr (.inr rfl)), _, rfl, ?_⟩
      have q2 := q H2 sm2
      cases x with
      | i k =>
        refine iteT ?_
        exact q2
      | n =>
        refine iteT ?_
        exact q2
      | s wd =>
        refine iteF ?_
        cases hf : formOf wd with
        | none =>
          refine ⟨_, rfl, S wd, none, rfl, rfl, T.no wd hf, _, rfl, iteT ?_⟩
          simp only [msgB, hf] at q2
          exact q2
        | some ks =>
          obtain ⟨t, ht, hkt⟩ := T.yes wd ks hf
          refine ⟨_, rfl, S wd, some (.ref t), rfl, rfl, ht, _, rfl, iteF ?_⟩
          refine ⟨_, rfl, Fm, S wd, .ref t, rfl, rfl, ⟨es, en, .ref t, D.at_, D.lit, ht, rfl⟩, ?_⟩
          refine ⟨_, rfl, .ref it, xs.length, rfl, .inr ⟨_, SqT.of hit, by rw [List.length_map]⟩, _, rfl, .ref t, ks.length, rfl, .inr ⟨_, hkt _, by rw [List.length_map]⟩, rfl, _, rfl, ?_⟩
          by_cases hl2 : xs.length = ks.length
          · rw [decide_eq_true (by rw [hl2])]
            refine iteT ?_
            obtain ⟨fl, fk⟩ := form_le hf
            refine ⟨_, rfl, _, rfl, t, it, _, _, rfl, .inr ⟨hkt _, SqT.of hit, fun D' hD => ?_⟩⟩
            have nit : it ≠ D' := ne_of_none hit hD
            refine lc_all (walk_zipT (K := K) (a := t) (b := it) (xs := ks.map fun k => V.str (kindS k)) (ys := xs.map Itm.v) (n := ks.length) (by rw [List.length_map, List.length_map]; omega)) (fun H' => Same H2 H' ∧ H' it = some (.tup (xs.map Itm.v)))
              (fun i y => ∃ k x', ks[i]? = some k ∧ xs[i]? = some x' ∧ y = .bl (itmB k x')) (by omega) ⟨Same.refl _, hit⟩ (fun H' o g => ⟨fun b o' e => by rw [upd_ne (ne_of_none e hD)]; exact g.1 b o' e, by rw [upd_ne nit]; exact g.2⟩) (fun _ g => ⟨hkt _, SqT.of g.2⟩) ?_ ?_
            · rintro i x' Ha Hb ys k hi ⟨g, hit'⟩ hxs ⟨T', u, z, rfl, hT', rfl, h1, h2⟩ hk
              have h1 : (ks.map fun k => V.str (kindS k))[i]? = some u := h1
              have h2 : (xs.map Itm.v)[i]? = some z := h2
              rw [List.getElem?_map] at h1 h2
              obtain ⟨kk, hkk, rfl⟩ := Option.map_eq_some_iff.mp h1
              obtain ⟨xx, hxx, rfl⟩ := Option.map_eq_some_iff.mp h2
              have nT : D' ≠ T' := ne_of_none hxs hT'
              have nT2 : it ≠ T' := ne_of_none hit' hT'
              refine ⟨T', _, rfl, SqT.of upd_same, rfl, _, _, rfl, _, _, rfl, rfl, rfl, _, rfl, _, rfl, kk, xx, fk kk (List.mem_of_getElem? hkk), rfl, fun l hl => (hb l (List.mem_cons_of_mem _ (hl ▸ List.mem_of_getElem? hxx))).2, ?_⟩
              exact hk _ _ ⟨kk, xx, hkk, hxx, rfl⟩ ⟨g.trans (same_new hT'), by rw [upd_ne nT2]; exact hit'⟩ (by rw [upd_ne nT]; exact hxs)
            · rintro H5 ys hyl hyv ⟨g5, hit5⟩ hys
              have ey : ys = (List.zipWith itmB ks xs).map V.bl := by
                refine List.ext_getElem? fun i => ?_
                rw [List.getElem?_map, List.getElem?_zipWith]
                cases e : ys[i]? with
                | none =>
                  have h1 := List.getElem?_eq_none_iff.mp e
                  rw [List.getElem?_eq_none_iff.mpr (show ks.length ≤ i by omega)]
                  rfl
                | some y =>
                  obtain ⟨k, x', h1, h2, rfl⟩ := hyv i y e
                  rw [h1, h2]
                  rfl
              subst ey
              refine ⟨D', List.zipWith itmB ks xs, rfl, SqL.of hys, ?_⟩
              have q5 := q H5 (sm2.trans g5)
              simp only [msgB, hf, hl2, decide_true, Bool.true_and] at q5
              exact q5
          · rw [decide_eq_false (fun h => hl2 (by injection h with h; omega))]
            refine iteF ?_
            simp only [msgB, hf, hl2, decide_false, Bool.false_and] at q2
            exact q2
end
end Ag

end
/-! ## MM -/
section
set_option linter.all false
namespace Ag
open PySem PySem.Spec PyProof.Rows L2
open SX (S S_len S_cat S_inj)
/-! ### cuts at blanks, at most k of them -/
def bl : Nat → Nat → List Nat → List Nat
  | 0, _, _ => []
  | _ + 1, _, [] => []
  | k + 1, o, c :: cs => if c = 32 then o :: bl k (o + 1) cs else bl (k + 1) (o + 1) cs
def spA : Nat → List Nat → List Nat → List (List Nat)
  | 0, acc, l => [acc ++ l]
  | _ + 1, acc, [] => [acc]
  | k + 1, acc, c :: cs => if c = 32 then acc :: spA k [] cs else spA (k + 1) (acc ++ [c]) cs
theorem bl_nil (k o : Nat) : bl k o [] = [] := by cases k <;> simp [bl]
theorem bl_zero (o : Nat) (l : List Nat) : bl 0 o l = [] := by cases l <;> simp [bl]
theorem spA_zero (a l : List Nat) : spA 0 a l = [a ++ l] := by cases l <;> simp [spA]
theorem tl_S (z : List Nat) : (S z).cps.toList = z := rfl
theorem occ_bl (z : List Nat) (lim : Nat) : ∀ (m o : Nat) (acc : Array Nat) (fr : Nat), o + m = z.length + 1 → fr ≤ o →
    (forIn (List.range' o m) (acc, fr) (StrLaws.occBody (S z) (S [32]) z.length lim)).run.fst.toList = acc.toList ++ bl (lim - acc.size) o (z.drop o)
  | 0, o, acc, fr, h, hf => by
    rw [List.drop_eq_nil_of_le (by omega), bl_nil]
    simp
  | m + 1, o, acc, fr, h, hf => by
    rw [List.range'_succ, List.forIn_cons]
    have hl : (S [32]).length = 1 := rfl
    by_cases ho : o < z.length
    · have ed : z.drop o = z[o] :: z.drop (o + 1) := List.drop_eq_getElem_cons ho
      have sub : Builtin.Str.subAt (S z) (S [32]) o = decide (z[o] = 32) := by
        rw [StrLaws.subAt_eq, tl_S, tl_S, ed, hl]
        rw [Bool.eq_iff_iff, List.take_succ_cons, List.take_zero]
        simp
      rw [ed]
      unfold StrLaws.occBody
      by_cases hc : ((acc.size < lim ∧ fr ≤ o) ∧ o + (S [32]).length ≤ z.length) ∧ Builtin.Str.subAt (S z) (S [32]) o = true
      · rw [if_pos hc]
        have h32 : z[o] = 32 := by
          have := hc.2
          rw [sub] at this
          exact of_decide_eq_true this
        have := occ_bl z lim m (o + 1) (acc.push o) (o + (S [32]).length) (by omega) (by rw [hl]; omega)
        refine Eq.trans this ?_
        obtain ⟨k, hk⟩ : ∃ k, lim - acc.size = k + 1 := ⟨lim - acc.size - 1, by have := hc.1.1.1; omega⟩
        rw [hk, Array.size_push, show lim - (acc.size + 1) = k by omega]
        simp only [bl, if_pos h32, Array.toList_push, List.append_assoc, List.singleton_append]
      · rw [if_neg hc]
        have := occ_bl z lim m (o + 1) acc fr (by omega) (by omega)
        refine Eq.trans this ?_
        congr 1
        cases hk : lim - acc.size with
        | zero => rw [bl_zero, bl_zero]
        | succ k =>
          have h32 : ¬ z[o] = 32 := fun e => hc ⟨⟨⟨by omega, hf⟩, by rw [hl]; omega⟩, by rw [sub]; exact decide_eq_true e⟩
          simp only [bl, if_neg h32]
    · unfold StrLaws.occBody
      rw [if_neg (fun hc => ho (by have := hc.1.2; rw [hl] at this; omega))]
      have := occ_bl z lim m (o + 1) acc fr (by omega) (by omega)
      refine Eq.trans this ?_
      rw [List.drop_eq_nil_of_le (by omega), List.drop_eq_nil_of_le (show z.length ≤ o by omega), bl_nil, bl_nil]
theorem occ32 (z : List Nat) (lim : Nat) : Builtin.Str.occurrences (S z) (S [32]) 0 (S z).length lim = bl lim 0 z := by
  rw [StrLaws.occ_eq, S_len]
  have := occ_bl z lim (z.length + 1 - 0) 0 #[] 0 (by omega) (Nat.le_refl _)
  refine Eq.trans this ?_
  simp
theorem sub_S (z : List Nat) (a c : Nat) : Builtin.Str.strSub (S z) a c = S ((z.drop a).take (c - a)) := by
  apply Str.ext'
  apply Array.toList_inj.mp
  rw [StrLaws.strSub_toList]
theorem parts_spA (z : List Nat) : ∀ (l : List Nat) (k o a : Nat), l = z.drop o → a ≤ o → o ≤ z.length →
    StrLaws.partsFrom (S z) 1 a (bl k o l) = (spA k ((z.drop a).take (o - a)) l).map S
  | l, 0, o, a, e, h1, h2 => by
    rw [bl_zero, spA_zero]
    show [Builtin.Str.strSub (S z) a (S z).length] = [S ((z.drop a).take (o - a) ++ l)]
    rw [sub_S, S_len, e, List.take_of_length_le (by rw [List.length_drop]; exact Nat.le_refl _)]
    congr 2
    rw [show z.drop o = (z.drop a).drop (o - a) by rw [List.drop_drop]; congr 1; omega, List.take_append_drop]
  | [], k + 1, o, a, e, h1, h2 => by
    have ho : o = z.length := by
      have := congrArg List.length e
      rw [List.length_drop, List.length_nil] at this
      omega
    show [Builtin.Str.strSub (S z) a (S z).length] = [S ((z.drop a).take (o - a))]
    rw [sub_S, S_len, ho]
  | c :: cs, k + 1, o, a, e, h1, h2 => by
    have ho : o < z.length := by
      have := congrArg List.length e
      rw [List.length_drop, List.length_cons] at this
      omega
    have ed : z.drop o = z[o] :: z.drop (o + 1) := List.drop_eq_getElem_cons ho
    rw [ed] at e
    injection e with ec ecs
    by_cases h32 : c = 32
    · simp only [bl, if_pos h32, spA]
      show Builtin.Str.strSub (S z) a o :: StrLaws.partsFrom (S z) 1 (o + 1) (bl k (o + 1) cs) = S ((z.drop a).take (o - a)) :: (spA k [] cs).map S
      rw [sub_S, parts_spA z cs k (o + 1) (o + 1) ecs (Nat.le_refl _) (by omega), Nat.sub_self, List.take_zero]
    · simp only [bl, if_neg h32, spA]
      rw [parts_spA z cs (k + 1) (o + 1) a ecs (by omega) (by omega)]
      congr 2
      rw [show o + 1 - a = o - a + 1 by omega, List.take_add_one, List.getElem?_drop, show a + (o - a) = o by omega, List.getElem?_eq_getElem ho, ← ec]
      rfl
theorem split2 (z : List Nat) : Txt.splitMax (S z) (Str.ofString " ") 2 = (spA 2 [] z).map S := by
  have eb : (Str.ofString " ") = S [32] := by decide +kernel
  rw [eb]
  have key := parts_spA z z 2 0 0 rfl (Nat.le_refl _) (Nat.zero_le _)
  rw [Nat.sub_zero, List.take_zero] at key
  have lim : limitOf (S z) 2 = 2 := rfl
  have e1 : Builtin.Str.partsBetween (S z) (Builtin.Str.occurrences (S z) (S [32]) 0 (S z).length (limitOf (S z) 2)) (S [32]).length = (spA 2 [] z).map S := by
    rw [StrLaws.partsBetween_eq, lim, occ32]
    exact key
  have ew : Builtin.Str.strSub (S z) 0 (S z).length = S z := by
    rw [sub_S, S_len, List.drop_zero, Nat.sub_zero, List.take_length]
  unfold Txt.splitMax
  split
  · rename_i h
    rw [Bool.or_eq_true, decide_eq_true_eq, decide_eq_true_eq] at h
    rcases h with h | h
    · rw [S_len] at h
      have : z = [] := List.length_eq_zero_iff.mp (by have : (S [32]).length = 1 := rfl; omega)
      subst this
      rfl
    · exact absurd h (TL.kind_ok (SX.all256 (by decide)))
  · split
    · rename_i h
      rw [← e1]
      have h' : Builtin.Str.occurrences (S z) (S [32]) 0 (S z).length (limitOf (S z) 2) = [] := List.isEmpty_iff.mp h
      rw [h', StrLaws.partsBetween_eq]
      show [S z] = [Builtin.Str.strSub (S z) 0 (S z).length]
      rw [ew]
    · exact e1
/-! ### the first blank -/
def pt : List Nat → Option (List Nat × List Nat)
  | [] => none
  | c :: cs => if c = 32 then some ([], cs) else (pt cs).map fun p => (c :: p.1, p.2)
theorem pt_none : ∀ {l : List Nat}, pt l = none → 32 ∉ l
  | [], _, h => by cases h
  | c :: cs, h, hm => by
    unfold pt at h
    split at h
    · cases h
    · rename_i hc
      rw [Option.map_eq_none_iff] at h
      rcases List.mem_cons.mp hm with e | hm
      · exact hc e.symm
      · exact pt_none h hm
theorem pt_some : ∀ {l a b : List Nat}, pt l = some (a, b) → l = a ++ 32 :: b ∧ 32 ∉ a
  | [], a, b, h => by cases h
  | c :: cs, a, b, h => by
    unfold pt at h
    split at h
    · rename_i hc
      cases h
      subst hc
      exact ⟨rfl, by simp⟩
    · rename_i hc
      obtain ⟨p, hp, e⟩ := Option.map_eq_some_iff.mp h
      obtain ⟨a', b'⟩ := p
      injection e with e1 e2
      subst e1
      subst e2
      obtain ⟨h1, h2⟩ := pt_some hp
      refine ⟨by rw [h1]; rfl, fun hm => ?_⟩
      rcases List.mem_cons.mp hm with e | hm
      · exact hc e.symm
      · exact h2 hm
theorem pt_mk : ∀ {a : List Nat} (b : List Nat), 32 ∉ a → pt (a ++ 32 :: b) = some (a, b)
  | [], b, _ => by simp [pt]
  | c :: cs, b, h => by
    have h1 : ¬ c = 32 := fun e => h (by rw [e]; exact List.mem_cons_self)
    show (if c = 32 then _ else (pt (cs ++ 32 :: b)).map _) = _
    rw [if_neg h1, pt_mk b fun hm => h (List.mem_cons_of_mem _ hm)]
    rfl
theorem pt_free : ∀ {a : List Nat}, 32 ∉ a → pt a = none
  | [], _ => rfl
  | c :: cs, h => by
    have h1 : ¬ c = 32 := fun e => h (by rw [e]; exact List.mem_cons_self)
    show (if c = 32 then _ else (pt cs).map _) = _
    rw [if_neg h1, pt_free fun hm => h (List.mem_cons_of_mem _ hm)]
    rfl
theorem spA_some : ∀ {l : List Nat} (k : Nat) (acc : List Nat) {a b : List Nat}, pt l = some (a, b) → spA (k + 1) acc l = (acc ++ a) :: spA k [] b
  | [], k, acc, a, b, h => by cases h
  | c :: cs, k, acc, a, b, h => by
    unfold pt at h
    split at h
    · rename_i hc
      cases h
      simp [spA, hc]
    · rename_i hc
      obtain ⟨p, hp, e⟩ := Option.map_eq_some_iff.mp h
      obtain ⟨a', b'⟩ := p
      injection e with e1 e2
      subst e1
      subst e2
      simp only [spA, if_neg hc]
      rw [spA_some k (acc ++ [c]) hp, List.append_assoc]
      rfl
theorem spA_none : ∀ {l : List Nat} (k : Nat) (acc : List Nat), pt l = none → spA (k + 1) acc l = [acc ++ l]
  | [], k, acc, h => by simp [spA]
  | c :: cs, k, acc, h => by
    unfold pt at h
    split at h
    · cases h
    · rename_i hc
      rw [Option.map_eq_none_iff] at h
      simp only [spA, if_neg hc]
      rw [spA_none k (acc ++ [c]) h, List.append_assoc]
      rfl
/-- partition at the first blank -/
theorem part32 (l : List Nat) : Txt.partition (S l) (Str.ofString " ") = match pt l with
    | none => (S l, S [], S [])
    | some (a, b) => (S a, S [32], S b) := by
  have eb : (Str.ofString " ") = S [32] := by decide +kernel
  rw [eb]
  cases h : pt l with
  | none => exact SX.partition_none (by simp) (SX.par_head_none (pt_none h))
  | some p =>
    obtain ⟨a, b⟩ := p
    obtain ⟨e, hf⟩ := pt_some h
    subst e
    exact SX.partition_some (by simp) (SX.par_head (sep := []) b hf)
/-! ### numbers, as they are written -/
theorem dec_free {l : List Nat} {m : Nat} (h : isDec l m = true) : 32 ∉ l := by
  obtain ⟨k, _, rfl⟩ := isDec_iff.mp h
  intro hm
  have := numL_all k 32 hm
  omega
theorem numL_len10 {k : Nat} (h : k ≤ 1000000000) : (numL k).length ≤ 10 := TL.numL_len (by decide) (by omega)
theorem digs_num : ∀ (l : List Nat), l ≠ [] → l.all digC = true → (l.head? = some 48 → l = [48]) → ∃ k, l = numL k := by
  intro l
  induction hn : l.length using Nat.strongRecOn generalizing l with
  | ind n ih =>
    intro hne hd h0
    obtain ⟨s, c, rfl⟩ : ∃ s c, l = s ++ [c] := ⟨_, _, (List.dropLast_concat_getLast hne).symm⟩
    rw [List.all_append, Bool.and_eq_true] at hd
    have hc : digC c = true := by simpa using hd.2
    have hs : s = [] ∨ ∃ k, s = numL k := by
      by_cases hs : s = []
      · exact .inl hs
      · refine .inr (ih s.length (by rw [← hn]; simp) s rfl hs hd.1 fun e => ?_)
        have : (s ++ [c]).head? = some 48 := by
          cases s with
          | nil => cases e
          | cons a r => simpa using e
        have := h0 this
        cases s with
        | nil => exact absurd rfl hs
        | cons a r => simp at this
    have hz : s ≠ [48] := by
      rintro rfl
      have := h0 rfl
      simp at this
    have := isDec_snoc (c := c) (m := digitsVal (s ++ [c])) hs
    rw [hc, decide_eq_true hz, decide_eq_true (Nat.le_refl _)] at this
    obtain ⟨k, _, e⟩ := isDec_iff.mp this
    exact ⟨k, e⟩
/-- the law's own look at a number -/
def figB (l : List Nat) (low : Nat) : Bool := isDec l 1000000000 && decide (low ≤ digitsVal l)
/-! ### messages and their texts -/
def itT : Itm → List Nat
  | .s l => l
  | .i k => numL k.toNat
  | .n => []
def wr (ms : List Itm) : List Nat := TL.joinL [32] (ms.map itT)
def rdI (k : Nat) (f : List Nat) : Itm := if k = 0 then .s f else if isDec f 1000000000 = true then .i ((digitsVal f : Nat) : Int) else .n
def rdP (z : List Nat) : Option (List Itm) := match spA 2 [] z with
  | [] => none
  | w :: fs => match formOf w with
    | none => none
    | some ks => if fs.length = ks.length ∧ (List.zipWith itmB ks (List.zipWith rdI ks fs)).all id = true then some (.s w :: List.zipWith rdI ks fs) else none
theorem spA_join : ∀ (k : Nat) (acc l : List Nat), TL.joinL [32] (spA k acc l) = acc ++ l
  | 0, acc, l => by rw [spA_zero]; rfl
  | k + 1, acc, [] => by simp [spA, TL.joinL]
  | k + 1, acc, c :: cs => by
    by_cases h : c = 32
    · simp only [spA, if_pos h]
      have hne : ∀ k l, ∃ p r, spA k [] l = p :: r := by
        intro k l
        have : ∀ (l : List Nat) (k : Nat) (acc : List Nat), ∃ p r, spA k acc l = p :: r := by
          intro l
          induction l with
          | nil => intro k acc; cases k <;> exact ⟨_, _, rfl⟩
          | cons d ds ih =>
            intro k acc
            cases k with
            | zero => exact ⟨_, _, rfl⟩
            | succ k =>
              simp only [spA]
              split
              · exact ⟨_, _, rfl⟩
              · exact ih _ _
        exact this l k []
      obtain ⟨p, r, e⟩ := hne k cs
      have ih := spA_join k [] cs
      rw [e] at ih ⊢
      show acc ++ ([32] ++ TL.joinL [32] (p :: r)) = _
      rw [ih, h]
      rfl
    · simp only [spA, if_neg h]
      rw [spA_join (k + 1) (acc ++ [c]) cs, List.append_assoc]
      rfl
theorem rdI_T {k : Nat} {f : List Nat} (h : itmB k (rdI k f) = true) : itT (rdI k f) = f := by
  unfold rdI at *
  by_cases hk : k = 0
  · rw [if_pos hk]; rfl
  · rw [if_neg hk] at *
    split
    · rename_i hd
      obtain ⟨j, _, rfl⟩ := isDec_iff.mp hd
      show numL ((digitsVal (numL j) : Nat) : Int).toNat = _
      rw [numL_val]
      rfl
    · rename_i hd
      rw [if_neg hd] at h
      unfold itmB at h
      rw [if_neg hk] at h
      cases h
theorem rdI_of {k : Nat} {x : Itm} (h : itmB k x = true) : rdI k (itT x) = x := by
  unfold itmB at h
  unfold rdI
  by_cases hk : k = 0
  · rw [if_pos hk] at *
    cases x with
    | s l => rfl
    | i j => cases h
    | n => cases h
  · rw [if_neg hk] at *
    rw [Bool.and_eq_true] at h
    cases x with
    | s l => cases h.1
    | n => cases h.1
    | i j =>
      have h1 := h.1
      simp only [numB, Bool.and_eq_true, decide_eq_true_eq] at h1
      obtain ⟨n, rfl⟩ := Int.eq_ofNat_of_zero_le h1.1
      have e : itT (.i (n : Int)) = numL n := rfl
      rw [e, if_pos (isDec_iff.mpr ⟨n, by omega, rfl⟩), numL_val]
theorem zip_T : ∀ (ks : List Nat) (fs : List (List Nat)), fs.length = ks.length → (List.zipWith itmB ks (List.zipWith rdI ks fs)).all id = true → (List.zipWith rdI ks fs).map itT = fs
  | [], [], _, _ => rfl
  | k :: ks, f :: fs, h, hv => by
    simp only [List.zipWith_cons_cons, List.all_cons, Bool.and_eq_true, id] at hv
    simp only [List.zipWith_cons_cons, List.map_cons]
    rw [rdI_T hv.1, zip_T ks fs (by simpa using h) hv.2]
  | [], _ :: _, h, _ => by simp at h
  | _ :: _, [], h, _ => by simp at h
theorem zip_of : ∀ (ks : List Nat) (xs : List Itm), xs.length = ks.length → (List.zipWith itmB ks xs).all id = true → List.zipWith rdI ks (xs.map itT) = xs
  | [], [], _, _ => rfl
  | k :: ks, x :: xs, h, hv => by
    simp only [List.zipWith_cons_cons, List.all_cons, Bool.and_eq_true, id] at hv
    simp only [List.map_cons, List.zipWith_cons_cons]
    rw [rdI_of hv.1, zip_of ks xs (by simpa using h) hv.2]
  | [], _ :: _, h, _ => by simp at h
  | _ :: _, [], h, _ => by simp at h
/-- what is read is a message, and has this text -/
theorem rdP_msg {z : List Nat} {ms : List Itm} (h : rdP z = some ms) : msgB ms = true ∧ wr ms = z := by
  unfold rdP at h
  have ej := spA_join 2 [] z
  cases hs : spA 2 [] z with
  | nil => rw [hs] at h; cases h
  | cons w fs =>
    rw [hs] at h ej
    simp only at h
    cases hf : formOf w with
    | none => rw [hf] at h; cases h
    | some ks =>
      rw [hf] at h
      simp only at h
      split at h
      · rename_i hv
        cases h
        refine ⟨?_, ?_⟩
        · simp only [msgB, hf]
          rw [hv.2, Bool.and_true, decide_eq_true_eq, List.length_zipWith]
          omega
        · unfold wr
          rw [List.map_cons, zip_T ks fs hv.1 hv.2]
          exact ej
      · cases h
theorem form_free {w ks : List Nat} (h : formOf w = some ks) : 32 ∉ w ∧ plainL w = true ∧ w.length ≤ 6 ∧ 4 ≤ w.length + 1 := by
  have key : ∀ p ∈ forms, 32 ∉ p.1 ∧ plainL p.1 = true ∧ p.1.length ≤ 6 ∧ 4 ≤ p.1.length + 1 := by decide
  unfold formOf at h
  obtain ⟨l1, l2, e, _⟩ := List.lookup_eq_some_iff.mp h
  exact key (w, ks) (by rw [e]; simp)
theorem form_ks {w ks : List Nat} (h : formOf w = some ks) : ks = [] ∨ ks = [1] ∨ ks = [1, 1] ∨ ks = [2, 0] := by
  have key : ∀ p ∈ forms, p.2 = [] ∨ p.2 = [1] ∨ p.2 = [1, 1] ∨ p.2 = [2, 0] := by decide
  unfold formOf at h
  obtain ⟨l1, l2, e, _⟩ := List.lookup_eq_some_iff.mp h
  exact key (w, ks) (by rw [e]; simp)
theorem num_free {k : Nat} {x : Itm} (hk : k ≠ 0) (h : itmB k x = true) : 32 ∉ itT x := by
  unfold itmB at h
  rw [if_neg hk, Bool.and_eq_true] at h
  cases x with
  | s l => cases h.1
  | n => cases h.1
  | i j =>
    intro hm
    have := numL_all j.toNat 32 hm
    omega
theorem spA_one {a : List Nat} (k : Nat) (h : 32 ∉ a) : spA (k + 1) [] a = [a] := by rw [spA_none k [] (pt_free h)]; rfl
theorem spA_two {a : List Nat} (k : Nat) (b : List Nat) (h : 32 ∉ a) : spA (k + 1) [] (a ++ 32 :: b) = a :: spA k [] b := by rw [spA_some k [] (pt_mk b h)]; rfl
theorem zip2 {a b : Bool} (h : ([a, b] : List Bool).all id = true) : a = true ∧ b = true := by simpa using h
/-- each message is read from its text -/
theorem rdP_wr {ms : List Itm} (h : msgB ms = true) : rdP (wr ms) = some ms := by
  match ms, h with
  | .s w :: xs, h =>
    simp only [msgB] at h
    cases hf : formOf w with
    | none => rw [hf] at h; cases h
    | some ks =>
      rw [hf] at h
      simp only [Bool.and_eq_true, decide_eq_true_eq] at h
      obtain ⟨hl, hv⟩ := h
      have w32 := (form_free hf).1
      have es : spA 2 [] (wr (.s w :: xs)) = w :: xs.map itT := by
        unfold wr
        rcases form_ks hf with rfl | rfl | rfl | rfl
        · match xs, hl with
          | [], _ => exact spA_one 1 w32
        · match xs, hl, hv with
          | [a], _, hv =>
            have h1 : itmB 1 a = true := by simpa using hv
            have e : TL.joinL [32] ([Itm.s w, a].map itT) = w ++ 32 :: itT a := rfl
            rw [e, spA_two 1 _ w32, spA_one 0 (num_free (by decide) h1)]
            rfl
        · match xs, hl, hv with
          | [a, b], _, hv =>
            have h1 := zip2 (a := itmB 1 a) (b := itmB 1 b) hv
            have e : TL.joinL [32] ([Itm.s w, a, b].map itT) = w ++ 32 :: (itT a ++ 32 :: itT b) := rfl
            rw [e, spA_two 1 _ w32, spA_two 0 _ (num_free (by decide) h1.1), spA_zero]
            rfl
        · match xs, hl, hv with
          | [a, b], _, hv =>
            have h1 := zip2 (a := itmB 2 a) (b := itmB 0 b) hv
            have e : TL.joinL [32] ([Itm.s w, a, b].map itT) = w ++ 32 :: (itT a ++ 32 :: itT b) := rfl
            rw [e, spA_two 1 _ w32, spA_two 0 _ (num_free (by decide) h1.1), spA_zero]
            rfl
      unfold rdP
      rw [es]
      simp only [hf]
      have ez := zip_of ks xs hl hv
      rw [ez, if_pos ⟨by rw [List.length_map]; exact hl, hv⟩]
  | [], h => cases h
  | .i _ :: _, h => cases h
  | .n :: _, h => cases h
end Ag

end
/-! ## Exc1 -/
section
set_option linter.all false
set_option maxRecDepth 100000
namespace Ag
open PySem PySem.Spec PyProof.Rows L2
/-! ### own exceptions over Exception, whose __init__ stores -/
abbrev exT : List Value := [.type "Exception", .type "BaseException", .type "object"]
structure OexE (K : PySem.W.Frag) (C : Addr) : Prop where
  cl : ∃ (nm q : Str) (N : Addr) (bs bm : List Value) (sn : List Str) (sub : List Value) (ab : Bool) (col : Option Bool) (dd : Option Addr) (k0 k1 k2 k3 k5 : Option Value),
    K.lookup C = some (excClassObj nm q C N bs bm true sn sub ab col dd k0 k1 k2 k3 k5 "Exception.__new__") ∧ PySem.W.excTail exT bm = true
  st : PySem.W.findIn K (.ref C) "__setattr__" = some (some (.builtin "object.__setattr__")) ∧ PySem.W.subIn K (.ref C) (.type "BaseException") = some true ∧ PySem.W.typeIn K (.ref C) = some (.type "type") ∧ PySem.W.keepIn K (.ref C) = true
section
variable {X : Cx} {pins : List (Addr × Obj)} {σ : L2.St} {H : Hp} {s : Shared} {a C : Addr} {f : Str} {y : V} {u : Value} {Q : Unit → Shared → Prop} {E : Value → Shared → Prop} {A : Around}
theorem oexE_over {K : PySem.W.Frag} (T : OexE K C) : PySem.W.excOver K C exT = true ∧ ∃ cd, PySem.W.clsIn K C = some cd ∧ cd.hasDict = true := by
  obtain ⟨nm, q, N, bs, bm, sn, sub, ab, col, dd, k0, k1, k2, k3, k5, hC, hbm⟩ := T.cl
  have e : PySem.W.clsIn K C = some { name := nm, bases := bs, mro := .ref C :: bm, ns := N, qualname := q, hasDict := true, slotNames := sn, subclasses := sub, abstract := ab, collection := col, hasDel := false } := by
    unfold PySem.W.clsIn
    rw [hC] <;> rfl
  refine ⟨?_, _, e, rfl⟩
  unfold PySem.W.excOver
  rw [e]
  show (C == C && PySem.W.excTail exT bm) = true
  rw [hbm]
  simp
/-- self.f = y, the first one -/
theorem stE_new (T : OexE X.K C) (I : Inv X pins σ H s) (e : H a = some (exo a C none)) (hno : PySem.W.findIn X.K (.ref C) f = some none) (ry : RelV y u)
    (h : ∀ dx s', H dx = none → dx ≠ a → Inv X pins σ (upd (upd H dx (exd dx [(f, y)])) a (exo a C (some dx))) s' → Q () s') : wpAny (model X.prog X.w) A (setAttr (.ref a) f u) Q E s := by
  obtain ⟨ho1, cd, hcd, hhd⟩ := oexE_over T
  obtain ⟨t1, ho⟩ := exo_at I.hok e
  obtain ⟨hp, g, d, t, os⟩ := s
  refine PySem.W.set_plain (od := none) I.kIn ⟨ho, rfl, rfl, trivial⟩ T.st.1 (PySem.W.osa_openX (od := none) F.store_Exception I.kIn ⟨ho, rfl, rfl, trivial⟩ ho1 (by unfold PySem.W.takerIn; rw [hno]; rfl) fun b => ?_)
  have hal : a < hp.objs.size := Heap.lt_size ho
  refine wpAny_bind (wpAny_pure (wpAny_bind (PySem.W.instanceDict_exc (t := t1) (c2 := .none) ho (PySem.W.looks_clsIn I.kIn hcd) hhd ?_)))
  have had : a ≠ hp.objs.size := Nat.ne_of_lt hal
  have hpu : (hp.push (PySem.W.dictOf [] 0)).get? a = some (PySem.W.excObj C t1 none .none) := Heap.get?_push_of_some _ ho
  refine HandSPX.store_in_new ⟨_, #[], 0, (Heap.get?_update_other _ _ had).trans (Heap.get?_push_size _ rfl), rfl, fun e he => by simp at he, fun _ => rfl⟩ fun h' tk' hn' hs => ?_
  -- the heap behind, and one between
  have h1 : h'.get? a = some (PySem.W.excObj C t1 (some hp.objs.size) .none) := (hs.2 a had).trans (Heap.get?_update_self _ hpu rfl)
  have kp : ∀ b o, b ≠ a → hp.get? b = some o → h'.get? b = some o := fun b o hb hbo => (hs.2 b (Nat.ne_of_lt (Heap.lt_size hbo))).trans ((Heap.get?_update_other _ _ (Ne.symm hb)).trans (Heap.get?_push_of_some _ hbo))
  have m1 : (h'.update a fun _ => PySem.W.excObj C t1 none .none).get? a = some (PySem.W.excObj C t1 none .none) := Heap.get?_update_self _ h1 rfl
  have m2 : ∀ b, b ≠ a → (h'.update a fun _ => PySem.W.excObj C t1 none .none).get? b = h'.get? b := fun b hb => Heap.get?_update_other _ _ (Ne.symm hb)
  have hn2 : (h'.update a fun _ => PySem.W.excObj C t1 none .none).Ns1 hp.objs.size (fun y => if y = f then some u else none) := hn'.at fun o q => (m2 _ (Ne.symm had)).trans q
  have I1 : Inv X pins σ (upd H hp.objs.size (exd hp.objs.size [(f, y)])) ⟨h'.update a fun _ => PySem.W.excObj C t1 none .none, g, d, tk', os⟩ :=
    I.laid (a := hp.objs.size) (t' := tk') (fun b o hbo => by
      by_cases hb : b = a
      · subst hb
        rw [ho] at hbo
        rw [m1]
        exact hbo
      · rw [m2 b hb]
        exact kp b o hb hbo) (Nat.le_refl _) (exd_ok hn2 (relO_put (fs := []) ry fun _ => True.intro))
  have e1 : upd H hp.objs.size (exd hp.objs.size [(f, y)]) a = some (exo a C none) := by rw [upd_ne had]; exact e
  have I2 := I1.write (h' := h') (x := a) (e := a) (o := exo a C (some hp.objs.size)) (t' := tk') (by rw [e1]; exact True.intro) (.inl rfl) (fun b o hb q => by rw [← m2 b hb]; exact q) ⟨_, h1⟩ (exo_ok h1)
  exact h _ _ (I.hok.fresh (Nat.le_refl _)) (Ne.symm had) I2
end
end Ag

end
/-! ## Exc2 -/
section
set_option linter.all false
set_option maxRecDepth 100000
namespace Ag
open PySem PySem.Spec PyProof.Rows L2
/-- self.f = e in an own __init__ -/
def tStE (K : PySem.W.Frag) (f : Str) (to te : TE) : TS := fun D σ H => te σ H fun y H1 => to σ H1 fun x H2 => ∃ a C : Addr, x = .ref a ∧ OexE K C ∧ PySem.W.findIn K (.ref C) f = some none ∧ H2 a = some (exo a C none) ∧
  ∀ dx, H2 dx = none → dx ≠ a → D.nx σ (upd (upd H2 dx (exd dx [(f, y)])) a (exo a C (some dx)))
section
variable {X : Cx} {o e : Expr} {es : List Expr} {to te : TE} {ta : TA} {f x : Str} {p p' pos : Pos}
theorem psE_ost (ho : PE X o to) (he : PE X e te) (hs : swapsWith e (some (.Attribute o f p')) pos.line X.env = pure false := by rfl) : PS X (.Assign [.Attribute o f p'] e pos) (tStE X.K f to te) := by
  constructor
  intro pins s σ H D I h
  refine plainObj_wpAny_Assign_Attribute (thn (he.run pins s σ H _ I h) ?_) hs
  rintro v s1 ⟨y, H1, I1, r1, q1⟩
  refine thn (ho.run pins s1 σ H1 _ I1 q1) ?_
  rintro u s2 ⟨x, H2, I2, r2, a, C, rfl, T, hno, ea, q⟩
  cases (show u = Value.ref a from r2)
  exact stE_new T I2 ea hno r1 fun dx s' n ne J => ⟨σ, _, J, q dx n ne⟩
/-- C(e, ..) of such a class -/
theorem pmkE {CX : CXT} {C fI : Addr} {k : Nat} {fd : FuncData} {ps : List Str} {sp : Sp} (T : OexE X.K C) (iC : PySem.W.findIn X.K (.ref C) "__init__" = some (some (.ref fI)) ∧ PySem.W.typeIn X.K (.ref fI) = some (.type "function"))
    (F1 : FnOk X.prog X.w X.K X.mg X.base CX k fI fd ps sp) (hr : Room (k + 1) X.A) (hb : Binds X.K fd ps []) (hx : Passes CX X E0) (hg : Gl X x) (hm : X.mg x = some (.ref C)) (ha : PA X (e :: es) ta) (hdb : (x == ("__debug__" : Str)) = false := by decide)
    (he : starEach (e :: es) X.env = (false, eval e X.env) :: starEach es X.env := by rfl) (hpl : (backTo pos (starEach es X.env)).any (·.1) = false := by rfl) : PMk X (.Call (.Name x p) (e :: es) [] pos) (tMkO C sp [] ta) := by
  intro pins s σ H Q I h
  refine wpAny_Call_Name_kw (ld_glob I hg hm (PySem.W.callWith_K (h₀ := X.base) I.ok.mod.kin T.st.2.2.2 (thn (ha.run pos pins s σ H _ I h) ?_) he hpl) hdb)
  rintro us ⟨hp, g, dr, tk, os⟩ ⟨vs, H1, I1, r1, hz, q1⟩
  refine ⟨I1.kIn, ?_⟩
  show wpAny _ _ (call (.ref C) us) _ _ _
  obtain ⟨nm, q, N, bs, bm, sn, sub, ab, col, dd, k0, k1, k2, k3, k5, hC, hbm⟩ := T.cl
  have hq := q1 (hp.objs.size + 1) (I1.hok.fresh (Nat.le_succ _))
  rw [List.append_nil] at hq
  generalize hP : hp.push (PySem.W.kdv_tup us) = hp1
  have z1 : hp1.objs.size = hp.objs.size + 1 := by rw [← hP, Heap.size_push]
  have kk : ∀ b o, hp.get? b = some o → (hp1.push (HandSPX.excO C hp.objs.size)).get? b = some o := fun b o w => Heap.get?_push_of_some _ (by rw [← hP]; exact Heap.get?_push_of_some _ w)
  have gt : (hp1.push (HandSPX.excO C hp.objs.size)).get? (hp.objs.size + 1) = some (HandSPX.excO C hp.objs.size) := by rw [← z1]; exact Heap.get?_push_size _ rfl
  have I2 : Inv X pins σ (upd H1 (hp.objs.size + 1) (exo (hp.objs.size + 1) C none)) ⟨hp1.push (HandSPX.excO C hp.objs.size), g, dr, tk, os⟩ := I1.laid (t' := tk) kk (Nat.le_succ _) (exo_ok gt)
  have r2 : Vals (V.ref (hp.objs.size + 1) :: vs) (Value.ref (hp.objs.size + 1) :: us) := .cons rfl r1
  have hus : us.length ≤ 1000 := by rw [← Paired.length r1]; exact hz
  have hlen : (Value.ref (hp.objs.size + 1) :: us).length = ps.length := r2.length.symm.trans (F1.len _ _ _ _ hq)
  have bb := hb ⟨hp1.push (HandSPX.excO C hp.objs.size), g, dr, tk, os⟩ (Value.ref (hp.objs.size + 1) :: us) I2.kIn (by rw [List.append_nil]; exact hlen)
  rw [List.append_nil] at bb
  have run := F1.run _ X.stack _ _ ⟨Value.ref (hp.objs.size + 1) :: us, []⟩ _ _ _ E0 (hr.make C us []) (I2.env0.make C us []) bb r2 hq
  refine wpAny_call (HandSPX.call_own F.excBase_Exception (fun Y => PySem.W.excTail_contains Y bm hbm) (I1.kIn _ _ hC) (PySem.W.looks_findIn I1.kIn iC.1) (fun self => PySem.W.bind_fn I1.kIn self iC.2) (Nat.le_trans hus (by rw [sizeLine_eq]; omega)) ?_)
  rw [hP]
  refine codeAny_mono run ?_
  rintro (er | fl) s' hq'
  · exact hx pins σ _ _ er s' I2 hq'
  cases fl with
  | ret u =>
    obtain ⟨v, H2, os2, bare2, un2, hok2, rv, rfl, d, fs, ea, ed, hd1, q2⟩ := hq'
    obtain ⟨h2, g2, d2, t2, os'⟩ := s'
    exact ⟨rv, mk_end (raises_own T.st.2.1 T.st.2.2.1) I1 (Nat.le_succ _) kk un2 hok2 os2 bare2 ea ed hd1 q2⟩
  | next => exact hq'.elim
  | brk => exact hq'.elim
  | cont => exact hq'.elim
end
end Ag

end
/-! ## Zip2 -/
section
set_option linter.all false
set_option maxRecDepth 100000
namespace Ag
open PySem PySem.Spec PyProof.Rows L2
/-! ### zip(tuple, list) -/
def ItzM (K : PySem.W.Frag) (a b : Addr) : It where
  go i H := ∃ (xs ys : List V) (x y : V), (SqT K H a xs ∧ SqL K H b ys) ∧ xs[i]? = some x ∧ ys[i]? = some y
  yld i H v H' := ∃ T x y, (v = .ref T ∧ H T = none ∧ H' = upd H T (.tup [x, y])) ∧ (∀ xs, SqT K H a xs → xs[i]? = some x) ∧ ∀ ys, SqL K H b ys → ys[i]? = some y
  stop i H := ∃ xs ys : List V, (SqT K H a xs ∧ SqL K H b ys) ∧ i = min xs.length ys.length
theorem walk_zipM {K : PySem.W.Frag} {a b : Addr} {xs ys : List V} {n : Nat} (hn : n = min xs.length ys.length) : Walk (ItzM K a b) n (fun H => SqT K H a xs ∧ SqL K H b ys) (YPair (fun i => xs[i]?) (fun i => ys[i]?)) := by
  subst hn
  refine ⟨fun i _ hi q => ?_, fun _ q => ⟨xs, ys, q, rfl⟩, ?_⟩
  · have h1 : i < xs.length := by omega
    have h2 : i < ys.length := by omega
    exact ⟨xs, ys, xs[i], ys[i], q, by simp [h1], by simp [h2]⟩
  · rintro i H v H' _ q ⟨T, x, y, ⟨h1, h2, h3⟩, h4, h5⟩
    exact ⟨T, x, y, h1, h2, h3, h4 xs q.1, h5 ys q.2⟩
theorem turn_zipM {P : Program} {w : World} {K : PySem.W.Frag} {elts : List Expr} {kk : Nat} {tpos : Pos} {a b z TI TO i1 i2 : Addr} (D : ZipSep2 z TI TO i1 i2 [i1, a] [i2, b]) :
    Turn P w K (.Tuple elts kk tpos) (ItzM K a b) [z, TI, TO, i1, i2] z (fun i h => IsZip h z TI TO .none ∧ IsTupOf2 h TI (.ref i1) (.ref i2) ∧ (∃ x y, IsTupOf2 h TO x y) ∧ h.IsTupleIter i1 a i ∧ h.IsListIter i2 b i) where
  mem := List.mem_cons_self
  obj := by
    rintro i h ⟨hz, hTI, ⟨x, y, hTO⟩, ⟨o1, e1, _, d1⟩, ⟨o2, e2, _, d2⟩⟩ c hc
    simp only [List.mem_cons, List.not_mem_nil, or_false] at hc
    rcases hc with rfl | rfl | rfl | rfl | rfl
    · exact ⟨_, hz, fun v q => by cases q⟩
    · exact ⟨_, hTI, fun v q => by cases q⟩
    · exact ⟨_, hTO, fun v q => by cases q⟩
    · exact ⟨o1, e1, fun v q => by rw [d1] at q; cases q⟩
    · exact ⟨o2, e2, fun v q => by rw [d2] at q; cases q⟩
  keep := by
    rintro i h h' ⟨hz, hTI, ⟨x, y, hTO⟩, h1, h2⟩ k
    exact ⟨k z (by simp) _ hz, k TI (by simp) _ hTI, ⟨x, y, k TO (by simp) _ hTO⟩, h1.at fun o q => k i1 (by simp) o q, h2.at fun o q => k i2 (by simp) o q⟩
  item := by
    intro X hP hw hK hc i pins s σ H E I hf st hg
    subst hP hw hK
    obtain ⟨hz, hTI, ⟨x0, y0, hTO⟩, h1, h2⟩ := st
    obtain ⟨xs, ys, x, y, ⟨hqx, hqy⟩, hx, hy⟩ := hg
    obtain ⟨its, rv, p, _⟩ := I.tuple hqx
    obtain ⟨its2, rv2, p2, _⟩ := I.list hqy
    obtain ⟨u, hu, ru⟩ := rv.get hx
    obtain ⟨u2, hu2, ru2⟩ := rv2.get hy
    have hzl : z < s.heap.objs.size := Heap.lt_size hz
    have na : a ≠ i1 := fun e => by
      obtain ⟨o, e1, e2, _⟩ := h1
      obtain ⟨o', e3, e4, _⟩ := id p
      rw [e, e1] at e3
      cases e3
      rw [e2] at e4
      exact absurd (Value.type.inj e4) (by decide)
    have nb : b ≠ i2 := fun e => by
      obtain ⟨o, e1, e2, _⟩ := h2
      obtain ⟨o', e3, e4, _⟩ := p2.isList
      rw [e, e1] at e3
      cases e3
      rw [e2] at e4
      exact absurd (Value.type.inj e4) (by decide)
    have D1 := Draws.tuple (prog := X.prog) (w := X.w) (A := X.A.in1) (I.ok.hd hc) i1 a na its.toArray
    have D2 := Draws.list (prog := X.prog) (w := X.w) (A := X.A.in1) (I.ok.hd hc) i2 b nb its2.toArray
    have l1 : i < its.toArray.size := by
      have := (List.getElem?_eq_some_iff.mp hu).1
      simpa using this
    have l2 : i < its2.toArray.size := by
      have := (List.getElem?_eq_some_iff.mp hu2).1
      simpa using this
    refine wpAny_pyNext_zipD2_item D D1 D2 hz hTI hTO ⟨h1, p⟩ ⟨h2, p2.isList⟩ l1 l2 ?_
    intro x1 x2 h' tk e1 e2 z' TO' st1 st2 hT hsz hk
    have q1 : x1 = u := by
      have : its[i]? = some x1 := by simpa using e1
      rw [hu] at this
      exact (Option.some.inj this).symm
    have q2 : x2 = u2 := by
      have : its2[i]? = some x2 := by simpa using e2
      rw [hu2] at this
      exact (Option.some.inj this).symm
    subst q1 q2
    refine ⟨_, rfl, wpAny_letOwnedTupleGo_zip (s := { s with heap := h', toks := tk }) z' fun h'' z'' sb => ?_⟩
    have hT2 : h''.get? s.heap.objs.size = some { cls := .type "tuple", data := .seq #[x1, x2] } := (sb.2 _ (Nat.ne_of_gt hzl)).trans hT
    have new : ObjOk X.prog X.w (upd H s.heap.objs.size (.tup [x, y])) h'' s.heap.objs.size (.tup [x, y]) := ⟨(by show 2 ≤ sizeLine; decide), [x1, x2], .cons ru (.cons ru2 .nil), ⟨_, hT2, rfl, _, rfl⟩⟩
    have I1 : Inv X pins σ (upd H s.heap.objs.size (.tup [x, y])) { s with heap := h'', toks := tk } := by
      refine I.turnedNew (t' := tk) (ch := [z, TI, TO, i1, i2]) (fun c o hb q => ?_) hf (Nat.le_refl _) new
      simp only [List.mem_cons, List.not_mem_nil, or_false, not_or] at hb
      exact (sb.2 c hb.1).trans (hk c o hb.1 hb.2.2.1 hb.2.2.2.1 hb.2.2.2.2 q)
    refine ⟨.ref s.heap.objs.size, _, I1, rfl, ⟨_, x, y, ⟨rfl, I.hok.fresh (Nat.le_refl _), rfl⟩, fun l hl => by rw [I.tuple_inj hl hqx]; exact hx, fun l hl => by rw [I.list_inj hl hqy]; exact hy⟩, ⟨z'', ?_, ⟨x1, x2, ?_⟩, ?_, ?_⟩, fun c hcm => ?_⟩
    · exact (sb.2 _ D.TIz).trans (hk _ _ D.TIz D.TITO D.TIi1 D.TIi2 hTI)
    · exact (sb.2 _ D.TOz).trans TO'
    · exact st1.1.at fun o q => (sb.2 _ (Ne.symm D.zi1)).trans q
    · exact st2.1.at fun o q => (sb.2 _ (Ne.symm D.zi2)).trans q
    · have hlt : c < s.heap.objs.size := by
        simp only [List.mem_cons, List.not_mem_nil, or_false] at hcm
        rcases hcm with rfl | rfl | rfl | rfl | rfl
        · exact hzl
        · exact Heap.lt_size hTI
        · exact Heap.lt_size hTO
        · exact h1.elim fun _ q => Heap.lt_size q.1
        · exact h2.elim fun _ q => Heap.lt_size q.1
      rw [upd_ne (Nat.ne_of_lt hlt)]
      exact (hf c hcm).1
  done := by
    intro X hP hw hK hc i pins s σ H E I hf st hg
    subst hP hw hK
    obtain ⟨hz, hTI, ⟨x0, y0, hTO⟩, h1, h2⟩ := st
    obtain ⟨xs, ys, ⟨hqx, hqy⟩, hi⟩ := hg
    obtain ⟨its, rv, p, _⟩ := I.tuple hqx
    obtain ⟨its2, rv2, p2, _⟩ := I.list hqy
    have l1 := rv.length
    have l2 := rv2.length
    have na : a ≠ i1 := fun e => by
      obtain ⟨o, e1, e2, _⟩ := h1
      obtain ⟨o', e3, e4, _⟩ := id p
      rw [e, e1] at e3
      cases e3
      rw [e2] at e4
      exact absurd (Value.type.inj e4) (by decide)
    have nb : b ≠ i2 := fun e => by
      obtain ⟨o, e1, e2, _⟩ := h2
      obtain ⟨o', e3, e4, _⟩ := p2.isList
      rw [e, e1] at e3
      cases e3
      rw [e2] at e4
      exact absurd (Value.type.inj e4) (by decide)
    have D1 := Draws.tuple (prog := X.prog) (w := X.w) (A := X.A.in1) (I.ok.hd hc) i1 a na its.toArray
    have D2 := Draws.list (prog := X.prog) (w := X.w) (A := X.A.in1) (I.ok.hd hc) i2 b nb its2.toArray
    have s1 : its.toArray.size = its.length := List.size_toArray ..
    have s2 : its2.toArray.size = its2.length := List.size_toArray ..
    refine wpAny_pyNext_zipD2_end D D1 D2 hz hTI hTO ⟨h1, p⟩ ⟨h2, p2.isList⟩ (by omega) (by omega) (by omega) fun h' tk hk => ⟨rfl, I.turnedL (t' := tk) (ch := [z, TI, TO, i1, i2]) (fun c o hb q => ?_) hf⟩
    simp only [List.mem_cons, List.not_mem_nil, or_false, not_or] at hb
    exact hk c o hb.1 hb.2.2.1 hb.2.2.2.1 hb.2.2.2.2 q
  self := fun A i s Q E st h => wpAny_pyIter_zip st.1 h
def iZipM (K : PySem.W.Frag) (ta : TA) : TI := fun σ H R => ta σ H fun vs H1 => ∃ a b xs ys, vs = [.ref a, .ref b] ∧ (SqT K H1 a xs ∧ SqL K H1 b ys) ∧ R (ItzM K a b) H1
theorem pi_zipM {X : Cx} {e e2 : Expr} {ta : TA} {p pos tpos : Pos} {elts : List Expr} {kk : Nat} (hg : Gl X "zip") (hm : X.mg "zip" = none) (ha : PA X [e, e2] ta) (hs : starEach [e, e2] X.env = (false, eval e X.env) :: starEach [e2] X.env := by rfl)
    (hpl : (backTo pos (starEach [e2] X.env)).any (·.1) = false := by rfl) : PI X (.Tuple elts kk tpos) (.Call (.Name "zip" p) [e, e2] [] pos) (iZipM X.K ta) := by
  constructor
  intro pins s σ H R I h
  refine Call_ (ld_blt I hg hm PyProof.Rows.boot_zip (PyProof.Rows.callWith_type1 (thn (ha.run pos pins s σ H _ I h) ?_) hs hpl))
  rintro us s1 ⟨vs, H1, I1, r1, a, b, xs, ys, rfl, ⟨hqx, hqy⟩, q⟩
  match us, r1 with
  | [_, _], .cons r (.cons r' .nil) =>
    cases r
    cases r'
    obtain ⟨its, rv, p1, _⟩ := I1.tuple hqx
    obtain ⟨its2, rv2, p2, _⟩ := I1.list hqy
    have la : a < s1.heap.objs.size := by
      obtain ⟨o, e, _⟩ := id p1
      exact Heap.lt_size e
    refine zip_begins2 (begins_tuple a its.toArray) (begins_list b its2.toArray) p1 p2.isList fun h' hz hTI hTO g1 g2 hsz hk => wpAny_pyIter_zip hz ?_
    have I2 : Inv X pins σ H1 { s1 with heap := h' } := I1.kept (t' := s1.toks) hk
    refine ⟨s1.heap.objs.size + 4, [s1.heap.objs.size + 4, s1.heap.objs.size + 2, s1.heap.objs.size + 3, s1.heap.objs.size, s1.heap.objs.size + 1], _, _, H1, rfl, I2, turn_zipM (zip_sep2 (by simp; exact la) (by simp; exact p2.lt)), ⟨hz, hTI, ⟨_, _, hTO⟩, ⟨_, g1, rfl, ?_⟩, ⟨_, g2, rfl, ?_⟩⟩, fun c hcm => ?_, q⟩
    · rfl
    · rfl
    · have hle : s1.heap.objs.size ≤ c := by
        simp only [List.mem_cons, List.not_mem_nil, or_false] at hcm
        rcases hcm with rfl | rfl | rfl | rfl | rfl <;> first | exact Nat.le_add_right _ _ | exact Nat.le_refl _
      exact I1.fpOk hle (I1.hok.fresh hle)
end Ag

end
/-! ## KGet -/
section
set_option linter.all false
set_option maxRecDepth 100000
namespace Ag
open PySem PySem.Spec PyProof.Rows L2
/-! ### d.get(k, x) of a written dict -/
def tKGet2 (K : PySem.W.Frag) (d : Addr) (td ty tx : TE) : TE := fun σ H Q => td σ H fun x H1 => x = .ref d ∧ ty σ H1 fun y H2 => tx σ H2 fun z H3 => ∃ (k : Str) (r : Option Value), y = .str k ∧ PySem.W.nsIn K d k = some r ∧ match r with
  | some u => ∃ v : V, RelV v u ∧ Q v H3
  | none => Q z H3
theorem pe_kget2 {X : Cx} {o e f : Expr} {apos cpos : Pos} {td ty tx : TE} {d : Addr} {es : Array DictEntry} {n : Nat} (D : KDict X.K X.w d es n) (ho : PE X o td) (he : PE X e ty) (hf : PE X f tx) (m : M2 X o "get" apos e f cpos) :
    PE X (.Call (.Attribute o "get" apos) [e, f] [] cpos) (tKGet2 X.K d td ty tx) := by
  constructor
  intro pins s σ H Q I h
  refine wpAny_Call_method m.base m.few m.line PySem.F.plainAttrs_dict PySem.F.slot_dict_get PySem.F.type_dict_get (thn (ho.run pins s σ H _ I h) ?_)
  rintro u s1 ⟨x, H1, I1, rx, rfl, q1⟩
  cases (show u = Value.ref d from rx)
  refine ⟨kd_type D I1, fun b q => ?_, ?_⟩
  · cases q
    exact ⟨_, I1.kIn _ _ D.at_, rfl⟩
  rw [m.trees]
  refine Calls.callWith_builtin rfl (Calls.evalArgs_plain (Calls.spliced_cons (thn (he.run pins s1 σ H1 _ I1 q1) ?_)))
  rintro iv s2 ⟨y, H2, I2, ry, q2⟩
  refine Calls.spliced_cons (thn (hf.run pins s2 σ H2 _ I2 q2) ?_)
  rintro fv s3 ⟨z, H3, I3, rz, k, r, rfl, hr, q3⟩
  refine Calls.spliced_nil ?_
  obtain ⟨t, rfl⟩ := ry
  have hm := PySem.W.mapOf_K (prog := X.prog) (w := X.w) I3.kIn D.at_ D.lit
  refine call_meetsIn PySem.F.slot_dict_get (kd_type D I3) PySem.F.entry_dict_get (PySem.F.args_dict_get_3 _ _ _) (meets_dict_get_default (strKind X.prog X.w) d (strKind_is X.prog X.w k t) D.low fv) ⟨_, hm, ?_⟩
  simp only [PySem.W.find_K D.at_ hr]
  cases r with
  | some u =>
    obtain ⟨v, rv, q⟩ := q3
    exact ⟨v, H3, I3.tok _, rv, q⟩
  | none => exact ⟨z, H3, I3.tok _, rz, q3⟩
end Ag

end
/-! ## P2 -/
section
set_option linter.all false
set_option maxRecDepth 100000
namespace Ag
open PySem PySem.Spec PyProof.Rows L2
open SX (S S_len S_cat S_inj)
section
variable {P : Program} {w : World} {K : PySem.W.Frag} {mg : Str → Option Value} {base : Heap} {tm tn tb : Tok}
def isTextB (l : List Nat) : Bool := decide (l.length ≤ 200) && plainL l
def spIsText : Sp := fun vs H Q _ => ∃ l : List Nat, vs = [.str (S l)] ∧ l.length ≤ 1000000 ∧ Q (.bl (isTextB l)) H
theorem ok_is_text {f f1 : Addr} {fd fd1 : FuncData} (F : Fn K mg "is_text" s_is_text ["thing"] f fd) (B : Con mg tm tn tb) (F_is_plain : Fn K mg "is_plain" s_is_plain ["string"] f1 fd1) :
    FnOk P w K mg base CX0 2 f fd ["thing"] spIsText := by
  have G_is_plain : FnOk P w K mg base CX0 1 f1 fd1 ["string"] spPlain := ok_is_plain F_is_plain
  refine F.F.ok sc_is_text (fun vs H Q E h => ?_) (fun cdv A outer s H vs Q E hr h => ?_)
  · obtain ⟨l, rfl, _⟩ := h
    rfl
  · obtain ⟨l, rfl, hl, q⟩ := h
    refine ⟨_, (pss_one (ps_ret (pe_and (pe_callB call_isi (by rfl) B.n_isinstance (by decide +kernel) (pa_cons (pv 0) (pa_cons (pe_bltn (v := .ty "str") (by rfl) B.n_str (by decide +kernel) rfl) pa_nil))) (pe_and (pe_cmpR op_le (pe_callB call_len_str (by rfl) B.n_len PySem.boot_len (pa_cons (pv 0) pa_nil)) (pe_glob (v := .int 200) rfl B.g_TEXT_MOST ⟨_, rfl⟩) (nomark _)) (pe_one (pe_call G_is_plain (hr.mono (by decide)) (by rfl) F_is_plain.g F_is_plain.F.kp F_is_plain.b .nil pass0 (pa_cons (pv 0) pa_nil))))))), ?_⟩
    refine ⟨.str (S l), rfl, .str (S l), .ty "str", _, _, true, rfl, .ty "str", .base (.str _), kit_ty (by decide +kernel), true, rfl, iteT ?_⟩
    refine ⟨.str (S l), rfl, S l, rfl, sz (by rw [S_len]; omega), _, _, rfl, rfl, _, rfl, ?_⟩
    rw [S_len]
    unfold isTextB at q
    have e : decide ((l.length : Int) ≤ 200) = decide (l.length ≤ 200) := by
      rw [Bool.eq_iff_iff, decide_eq_true_eq, decide_eq_true_eq]
      omega
    rw [e]
    refine ite2 (fun h => ?_) (fun h => ?_)
    · refine ⟨.str (S l), rfl, l, rfl, ?_⟩
      rw [h, Bool.true_and] at q
      exact q
    · rw [Bool.eq_false_iff.mpr h, Bool.false_and] at q
      exact q
/-- what is_rest tells -/
def isRestB (l : List Nat) : Bool := if isDec (spS l) 200 = true then decide (((spT l).getD []).length ≤ digitsVal (spS l)) && plainL ((spT l).getD []) else decide (l = [])
theorem colonS : (Str.ofString ":") = S [58] := by decide +kernel
theorem par_len {l p q : List Nat} (h : TL.par [58] [] l = some (p, q)) : p.length ≤ l.length ∧ q.length ≤ l.length := by
  have key : ∀ (l acc p q : List Nat), TL.par [58] acc l = some (p, q) → p.length ≤ acc.length + l.length ∧ q.length ≤ l.length := by
    intro l
    induction l with
    | nil => intro acc p q h; simp [TL.par] at h
    | cons c cs ih =>
      intro acc p q h
      by_cases hc : TL.pre [58] (c :: cs) = true
      · simp only [TL.par, hc, if_true] at h
        cases h
        simp
      · simp only [TL.par, hc] at h
        have := ih _ _ _ h
        simp at this ⊢
        omega
  have := key l [] p q h
  simpa using this
theorem sp_len (l : List Nat) : (spS l).length ≤ l.length ∧ ((spT l).getD []).length ≤ l.length := by
  unfold spS spT
  cases h : TL.par [58] [] l with
  | none => simp
  | some pq =>
    obtain ⟨p, q⟩ := pq
    exact par_len h
theorem part_S (l : List Nat) : ∃ m, Txt.partition (S l) (S [58]) = (S (spS l), m, S ((spT l).getD [])) := by
  unfold spS spT
  cases h : TL.par [58] [] l with
  | none => exact ⟨_, SX.partition_none (by simp) h⟩
  | some pq =>
    obtain ⟨p, q⟩ := pq
    exact ⟨_, SX.partition_some (by simp) h⟩
def spIsRest : Sp := fun vs H Q _ => ∃ l : List Nat, vs = [.str (S l)] ∧ l.length ≤ 1000000 ∧ ∀ H', Same H H' → Q (.bl (isRestB l)) H'
theorem isDec_digs {l : List Nat} {m : Nat} (h : isDec l m = true) : l.all digC = true ∧ l ≠ [] := by
  obtain ⟨k, _, rfl⟩ := isDec_iff.mp h
  refine ⟨?_, numL_ne k⟩
  rw [List.all_eq_true]
  intro c hc
  have := numL_all k c hc
  simp [digC]
  omega
theorem isDec_len {l : List Nat} (h : isDec l 200 = true) : l.length ≤ 3 ∧ digitsVal l ≤ 200 := by
  obtain ⟨k, hk, rfl⟩ := isDec_iff.mp h
  exact ⟨numL_len3 hk, by rw [numL_val]; exact hk⟩
theorem ok_is_rest {f f1 f2 : Addr} {fd fd1 fd2 : FuncData} (F : Fn K mg "is_rest" s_is_rest ["thing"] f fd) (B : Con mg tm tn tb) (F_is_plain : Fn K mg "is_plain" s_is_plain ["string"] f1 fd1)
    (F_is_decimal : Fn K mg "is_decimal" s_is_decimal ["string", "most"] f2 fd2) : FnOk P w K mg base CX0 2 f fd ["thing"] spIsRest := by
  have G_is_plain : FnOk P w K mg base CX0 1 f1 fd1 ["string"] spPlain := ok_is_plain F_is_plain
  have G_is_decimal : FnOk P w K mg base CX0 1 f2 fd2 ["string", "most"] spDec := ok_is_decimal F_is_decimal B.toBlt
  refine F.F.ok sc_is_rest (fun vs H Q E h => ?_) (fun cdv A outer s H vs Q E hr h => ?_)
  · obtain ⟨l, rfl, _⟩ := h
    rfl
  · obtain ⟨l, rfl, hl, q⟩ := h
    refine ⟨_, (pss_cons (ps_if (pt_not (pt_val (pe_callB call_isi (by rfl) B.n_isinstance (by decide +kernel) (pa_cons (pv 0) (pa_cons (pe_bltn (v := .ty "str") (by rfl) B.n_str (by decide +kernel) rfl) pa_nil)))))
      (pss_one (ps_ret pe_bl))
      pss_nil)
      (pss_cons (ps_asg (pe_partition (pv 0) pe_str) (pg_tup rfl (pgs_cons (pg_name (i := 1) sc_is_rest.nd rfl (Or.inl rfl)) (pgs_cons (pg_name (i := 2) sc_is_rest.nd rfl (Or.inl rfl)) (pgs_cons (pg_name (i := 3) sc_is_rest.nd rfl (Or.inl rfl)) pgs_nil)))))
      (pss_cons (ps_if (pt_not (pt_val (pe_call G_is_decimal (hr.mono (by decide)) (by rfl) F_is_decimal.g F_is_decimal.F.kp F_is_decimal.b .nil pass0 (pa_cons (pv 1) (pa_cons (pe_glob (v := .int 200) rfl B.g_TEXT_MOST ⟨_, rfl⟩) pa_nil)))))
      (pss_one (ps_ret (pe_cmpR op_eq (pv 0) pe_str (nomark _))))
      pss_nil)
      (pss_one (ps_ret (pe_and (pe_cmpR op_le (pe_callB call_len_str (by rfl) B.n_len PySem.boot_len (pa_cons (pv 3) pa_nil)) (pe_callTy call_int_str (by rfl) B.n_int (by decide +kernel) (pa_cons (pv 1) pa_nil)) (nomark _)) (pe_one (pe_call G_is_plain (hr.mono (by decide)) (by rfl) F_is_plain.g F_is_plain.F.kp F_is_plain.b .nil pass0 (pa_cons (pv 3) pa_nil))))))))), ?_⟩
    refine ⟨.str (S l), rfl, .str (S l), .ty "str", _, _, true, rfl, .ty "str", .base (.str _), kit_ty (by decide +kernel), true, rfl, ?_⟩
    refine iteF ?_
    -- the three parts
    obtain ⟨m, em⟩ := part_S l
    have hs := sp_len l
    refine ⟨.str (S l), rfl, ⟨_, rfl⟩, S l, Str.ofString ":", rfl, rfl, by decide +kernel, sz (by rw [S_len]; omega), fun p hp => ?_⟩
    rw [colonS, em]
    refine ⟨p, _, rfl, SqT.of upd_same, rfl, _, _, rfl, _, _, rfl, _, _, rfl, rfl, ?_⟩
    refine ⟨_, rfl, spS l, 200, rfl, by omega, by decide, ?_⟩
    refine ⟨_, rfl, ?_⟩
    have sm : Same H (upd H p (.tup [.str (S (spS l)), .str m, .str (S ((spT l).getD []))])) := same_new hp
    unfold isRestB at q
    cases h1 : isDec (spS l) 200 with
    | false =>
      refine iteT ?_
      rw [h1, if_neg (by decide)] at q
      refine ⟨_, rfl, rfl, ?_⟩
      have e : decide (V.str (S l) = V.str (Str.ofString "")) = decide (l = []) := by
        have e0 : Str.ofString "" = S [] := by decide +kernel
        rw [e0, Bool.eq_iff_iff, decide_eq_true_eq, decide_eq_true_eq]
        constructor
        · intro z
          injection z with z
          exact S_inj z
        · rintro rfl
          rfl
      rw [e]
      exact q _ sm
    | true =>
      refine iteF ?_
      rw [h1, if_pos rfl] at q
      obtain ⟨d1, d2⟩ := isDec_digs h1
      obtain ⟨d3, d4⟩ := isDec_len h1
      refine ⟨_, rfl, S ((spT l).getD []), rfl, sz (by rw [S_len]; omega), ?_⟩
      refine ⟨_, rfl, S (spS l), _, rfl, int_S d1 d2 (by omega), by rw [S_len]; omega, _, _, rfl, rfl, _, rfl, ?_⟩
      rw [S_len]
      have e : decide ((((spT l).getD []).length : Int) ≤ ((digitsVal (spS l) : Nat) : Int)) = decide (((spT l).getD []).length ≤ digitsVal (spS l)) := by
        rw [Bool.eq_iff_iff, decide_eq_true_eq, decide_eq_true_eq]
        omega
      rw [e]
      refine ite2 (fun h2 => ?_) (fun h2 => ?_)
      · refine ⟨_, rfl, _, rfl, ?_⟩
        rw [h2, Bool.true_and] at q
        exact q _ sm
      · rw [Bool.eq_false_iff.mpr h2, Bool.false_and] at q
        exact q _ sm
def frm (t : List Nat) : List Nat := numL t.length ++ 58 :: (t ++ [44])
def spFrame : Sp := fun vs H Q _ => ∃ l : List Nat, vs = [.str (S l)] ∧ isTextB l = true ∧ Q (.str (S (frm l))) H
theorem commaS : (Str.ofString ",") = S [44] := by decide +kernel
theorem ok_frame {f f1 : Addr} {fd fd1 : FuncData} (F : Fn K mg "frame" s_frame ["text"] f fd) (B : Con mg tm tn tb) (F_is_text : Fn K mg "is_text" s_is_text ["thing"] f1 fd1)
    (G_is_text : FnOk P w K mg base CX0 2 f1 fd1 ["thing"] spIsText) : FnOk P w K mg base CX0 3 f fd ["text"] spFrame := by
  refine F.F.ok sc_frame (fun vs H Q E h => ?_) (fun cdv A outer s H vs Q E hr h => ?_)
  · obtain ⟨l, rfl, _⟩ := h
    rfl
  · obtain ⟨l, rfl, ht, q⟩ := h
    have hl : l.length ≤ 200 := by
      unfold isTextB at ht
      rw [Bool.and_eq_true, decide_eq_true_eq] at ht
      exact ht.1
    refine ⟨_, (pss_cons (ps_if (pt_not (pt_val (pe_call G_is_text (hr.mono (by decide)) (by rfl) F_is_text.g F_is_text.F.kp F_is_text.b .nil pass0 (pa_cons (pv 0) pa_nil))))
      (pss_one ps_never)
      pss_nil)
      (pss_one (ps_ret (pe_joined (.cons (pe_fmt (pe_callB call_len_str (by rfl) B.n_len PySem.boot_len (pa_cons (pv 0) pa_nil))) (.cons pe_str (.cons (pe_fmt (pv 0)) (.cons pe_str .nil)))))))), ?_⟩
    refine ⟨_, rfl, l, rfl, by omega, _, rfl, ?_⟩
    rw [ht]
    refine iteF ?_
    have n3 : (numL l.length).length ≤ 3 := numL_len3 hl
    refine ⟨_, rfl, S l, rfl, sz (by rw [S_len]; omega), .inr ⟨_, rfl, ?_, ?_⟩⟩
    · rw [S_len]; exact log_small (Nat.lt_of_le_of_lt hl (by decide))
    rw [S_len, toStr]
    have e0 : Str.empty = S [] := rfl
    refine ⟨_, rfl, ?_, ?_⟩
    · rw [e0, S_cat, S_len]; exact sz (by simp; omega)
    rw [e0, S_cat, List.nil_append]
    refine ⟨_, rfl, ?_, ?_⟩
    · rw [colonS, S_cat, S_len]; exact sz (by simp; omega)
    rw [colonS, S_cat]
    refine ⟨_, rfl, .inl ⟨_, rfl, sz (by rw [S_len]; omega), _, rfl, ?_, ?_⟩⟩
    · rw [S_cat, S_len]; exact sz (by simp; omega)
    rw [S_cat]
    refine ⟨_, rfl, ?_, ?_⟩
    · rw [commaS, S_cat, S_len]; exact sz (by simp; omega)
    rw [commaS, S_cat]
    have e : numL l.length ++ [58] ++ l ++ [44] = frm l := by simp [frm]
    rw [e]
    exact q
end
end Ag

end
/-! ## P3 -/
section
set_option linter.all false
set_option maxRecDepth 100000
namespace Ag
open PySem PySem.Spec PyProof.Rows L2
open SX (S S_len S_cat S_inj)
section
variable {P : Program} {w : World} {K : PySem.W.Frag} {mg : Str → Option Value} {base : Heap} {tm tn tb : Tok}
theorem drop_take_one {l : List Nat} {a i c : Nat} (h : (l.drop a)[i]? = some c) : (l.drop a).take (a + i + 1 - a) = (l.drop a).take i ++ [c] := by
  rw [show a + i + 1 - a = i + 1 by omega, List.take_add_one, h]
  rfl
def spDigits : Sp := fun vs H Q _ => ∃ (l : List Nat) (a : Nat), vs = [.str (S l), .int (a : Int)] ∧ a ≤ l.length ∧ l.length ≤ 100000 ∧ Q (.int ((a + dgs [] (l.drop a) : Nat) : Int)) H
theorem ok_digits_end {f f1 : Addr} {fd fd1 : FuncData} (F : Fn K mg "digits_end" s_digits_end ["stream", "start"] f fd) (B : Con mg tm tn tb) (F_is_decimal : Fn K mg "is_decimal" s_is_decimal ["string", "most"] f1 fd1) :
    FnOk P w K mg base CX0 2 f fd ["stream", "start"] spDigits := by
  have G_is_decimal : FnOk P w K mg base CX0 1 f1 fd1 ["string", "most"] spDec := ok_is_decimal F_is_decimal B.toBlt
  refine F.F.ok sc_digits_end (fun vs H Q E h => ?_) (fun cdv A outer s H vs Q E hr h => ?_)
  · obtain ⟨l, a, rfl, _⟩ := h
    rfl
  · obtain ⟨l, a, rfl, ha, hl, q⟩ := h
    refine ⟨_, (pss_cons (ps_set (i := 2) sc_digits_end.nd rfl (.inl rfl) (pv 1))
      (pss_cons (ps_while PassesOwn.never (PW.pt (pw_and (pt_cmpR op_lt (pv 2) (pe_callB call_len_str (by rfl) B.n_len PySem.boot_len (pa_cons (pv 0) pa_nil)) (nomark _)) (pw_and1 (pt_val (pe_call G_is_decimal (hr.mono (by decide)) (by rfl) F_is_decimal.g F_is_decimal.F.kp F_is_decimal.b .nil pass0 (pa_cons (pe_slice sl_str (pv 0) (po_some (pv 1)) (po_some (pe_op op_add (pv 2) pe_int))) (pa_cons (pe_glob (v := .int 200) rfl B.g_TEXT_MOST ⟨_, rfl⟩) pa_nil)))))))
      (pss_one (ps_aug (i := 2) sc_digits_end.nd rfl (.inl rfl) pe_int ip_add)))
      (pss_one (ps_ret (pv 2))))), ?_⟩
    refine ⟨.int (a : Int), rfl, ?_⟩
    have hdl : (l.drop a).length = l.length - a := List.length_drop ..
    refine ⟨fun m σ H' => ∃ i, i + m = (l.drop a).length ∧ σ = [some (.str (S l)), some (.int (a : Int)), some (.int ((a + i : Nat) : Int))] ∧ H = H' ∧ dgs [] (l.drop a) = i + dgs ((l.drop a).take i) ((l.drop a).drop i), ⟨(l.drop a).length, 0, by omega, rfl, rfl, by simp⟩, ?_⟩
    rintro m σ H' ⟨i, em, rfl, rfl, ed⟩
    -- end < len(stream)
    refine ⟨_, rfl, _, rfl, S l, rfl, sz (by rw [S_len]; omega), _, _, rfl, rfl, _, rfl, ?_⟩
    rw [S_len]
    refine ite2 (fun h => ?_) (fun h => ?_)
    · have h : ((a + i : Nat) : Int) < (l.length : Int) := of_decide_eq_true h
      have hi : i < (l.drop a).length := by omega
      -- is_decimal(stream[start:end + 1], TEXT_MOST)
      refine ⟨_, rfl, _, rfl, (a : Int), rfl, _, rfl, _, _, rfl, rfl, ((a + i + 1 : Nat) : Int), by push_cast; rfl, S l, rfl, sz (by rw [S_len]; omega), ?_⟩
      rw [cut_S ha]
      refine ⟨_, 200, rfl, ?_, by decide, ?_⟩
      · rw [List.length_take]; omega
      obtain ⟨c, hc⟩ : ∃ c, (l.drop a)[i]? = some c := ⟨(l.drop a)[i], List.getElem?_eq_getElem hi⟩
      have hdi : (l.drop a).drop i = c :: (l.drop a).drop (i + 1) := by
        rw [List.drop_eq_getElem_cons hi]
        congr 1
        rw [List.getElem?_eq_getElem hi] at hc
        exact Option.some.inj hc
      rw [drop_take_one hc]
      refine ⟨_, rfl, ?_⟩
      cases hd : isDec ((l.drop a).take i ++ [c]) 200 with
      | true =>
        refine iteT ?_
        refine ⟨fun σ' H' => ∃ i', i' + (m - 1) = (l.drop a).length ∧ σ' = [some (.str (S l)), some (.int (a : Int)), some (.int ((a + i' : Nat) : Int))] ∧ H = H' ∧ dgs [] (l.drop a) = i' + dgs ((l.drop a).take i') ((l.drop a).drop i'), fun σ' H' n => ⟨m - 1, by omega, n⟩, ?_⟩
        refine ⟨_, rfl, _, _, rfl, rfl, i + 1, by omega, ?_, rfl, ?_⟩
        · show [some (V.str (S l)), some (V.int (a : Int)), some (V.int (((a + i : Nat) : Int) + 1))] = _
          rfl
        · rw [ed, hdi]
          show i + (if isDec ((l.drop a).take i ++ [c]) 200 = true then dgs ((l.drop a).take i ++ [c]) ((l.drop a).drop (i + 1)) + 1 else 0) = _
          rw [if_pos hd, List.take_add_one, hc]
          show _ = i + 1 + dgs ((l.drop a).take i ++ [c]) _
          omega
      | false =>
        refine iteF ?_
        refine ⟨_, rfl, ?_⟩
        have e : dgs [] (l.drop a) = i := by
          rw [ed, hdi]
          show i + (if isDec ((l.drop a).take i ++ [c]) 200 = true then dgs ((l.drop a).take i ++ [c]) ((l.drop a).drop (i + 1)) + 1 else 0) = _
          rw [if_neg (by rw [hd]; decide)]
          rfl
        rw [e] at q
        exact q
    · have h : ¬ ((a + i : Nat) : Int) < (l.length : Int) := fun z => h (decide_eq_true z)
      refine ⟨_, rfl, ?_⟩
      have e0 : (l.drop a).drop i = [] := List.drop_eq_nil_of_le (by omega)
      have e : dgs [] (l.drop a) = i := by
        rw [ed, e0]
        rfl
      rw [e] at q
      exact q
theorem pls_nonplain {l : List Nat} : ∀ {m c : Nat}, m < pls l → l[m]? = some c → plainC c = true := by
  intro m c hm hc
  have h := pls_plain l
  unfold plainL at h
  rw [List.all_eq_true] at h
  refine h c ?_
  refine List.mem_of_getElem? (i := m) ?_
  rw [List.getElem?_take, if_pos hm]
  exact hc
def spPlEnd : Sp := fun vs H Q _ => ∃ (l : List Nat) (a b : Nat), vs = [.str (S l), .int (a : Int), .int (b : Int)] ∧ a ≤ l.length ∧ l.length ≤ 100000 ∧ ∀ H', Same H H' → Q (.int ((a + pls ((l.drop a).take (b - a)) : Nat) : Int)) H'
theorem ok_plain_end {f f1 : Addr} {fd fd1 : FuncData} (F : Fn K mg "plain_end" s_plain_end ["stream", "start", "stop"] f fd) (B : Con mg tm tn tb) (F_is_plain : Fn K mg "is_plain" s_is_plain ["string"] f1 fd1) :
    FnOk P w K mg base CX0 2 f fd ["stream", "start", "stop"] spPlEnd := by
  have G_is_plain : FnOk P w K mg base CX0 1 f1 fd1 ["string"] spPlain := ok_is_plain F_is_plain
  refine F.F.ok sc_plain_end (fun vs H Q E h => ?_) (fun cdv A outer s H vs Q E hr h => ?_)
  · obtain ⟨l, a, b, rfl, _⟩ := h
    rfl
  · obtain ⟨l, a, b, rfl, ha, hl, q⟩ := h
    refine ⟨_, (pss_cons (ps_set (i := 3) sc_plain_end.nd rfl (.inl rfl) (pe_slice sl_str (pv 0) (po_some (pv 1)) (po_some (pv 2))))
      (pss_cons (ps_if (pt_val (pe_call G_is_plain (hr.mono (by decide)) (by rfl) F_is_plain.g F_is_plain.F.kp F_is_plain.b .nil pass0 (pa_cons (pv 3) pa_nil)))
      (pss_one (ps_ret (pe_op op_add (pv 1) (pe_callB call_len_str (by rfl) B.n_len PySem.boot_len (pa_cons (pv 3) pa_nil)))))
      pss_nil)
      (pss_one (ps_ret (pe_op op_add (pv 1) (pe_bm PySem.F.plainAttrs_list PySem.F.slot_list_index PySem.F.type_list_index mt_index (pe_lc (own := [("char", 4)]) rfl sc_plain_end.nd (pi_str (pv 3)) (blkOk_by (N := N_plain_end) (sc := defScope s_plain_end) (by decide +kernel)) (fun _ _ _ _ _ => (pg_name (i := 4) sc_plain_end.nd rfl (Or.inl rfl))) (fun _ _ _ _ _ => pts_nil) (fun _ _ _ _ _ => (pe_call G_is_plain (hr.mono (by decide)) (by rfl) F_is_plain.g F_is_plain.F.kp F_is_plain.b .nil pass0 (pa_cons (pv 4) pa_nil)))) (pa_cons pe_bl pa_nil))))))), ?_⟩
    refine ⟨_, rfl, _, rfl, (a : Int), rfl, _, rfl, (b : Int), rfl, S l, rfl, sz (by rw [S_len]; omega), ?_⟩
    rw [cut_S ha]
    have hpl : ((l.drop a).take (b - a)).length ≤ 100000 := by rw [List.length_take, List.length_drop]; omega
    generalize (l.drop a).take (b - a) = part at q hpl
    refine ⟨_, rfl, part, rfl, _, rfl, ?_⟩
    cases hp : plainL part with
    | true =>
      refine iteT ?_
      refine ⟨_, rfl, _, rfl, S part, rfl, sz (by rw [S_len]; omega), _, _, rfl, rfl, ?_⟩
      rw [S_len]
      rw [pls_all hp] at q
      have z := q H (Same.refl H)
      push_cast at z
      exact z
    | false =>
      refine iteF ?_
      refine ⟨_, rfl, _, rfl, S part, rfl, fun D hD => ?_⟩
      obtain ⟨k1, c1, k2, k3⟩ := pls_lt hp
      have hsz : (S part).cps.size = part.length := by simp
      refine lc_all walk_str (fun H' => ∀ b o, H b = some o → H' b = some o) (fun i y => ∃ c, part[i]? = some c ∧ y = .bl (plainC c)) (by rw [hsz]; omega) (fun _ _ e => e)
        (fun H' o r b o' e => by rw [upd_ne (ne_of_none e hD)]; exact r b o' e) (fun _ _ => trivial) ?_ ?_
      · rintro i x H1 H2 xs k hi r hxs ⟨rfl, c, hc, rfl⟩ hk
        refine ⟨rfl, _, rfl, [c], rfl, ?_⟩
        refine hk _ _ ⟨c, by simpa using hc, ?_⟩ r hxs
        simp [plainL]
      · intro H' xs hlen hv r hxs
        refine ⟨.inl ⟨rfl, _, SqL.of hxs⟩, ?_⟩
        have hlx : xs.length = part.length := by rw [hlen, hsz]
        have all : ∀ (i : Nat) (z : V), xs[i]? = some z → ∃ c, part[i]? = some c ∧ z = .bl (plainC c) := hv
        obtain ⟨z, hz⟩ : ∃ z, xs[pls part]? = some z := ⟨xs[pls part]'(by omega), List.getElem?_eq_getElem (by omega)⟩
        obtain ⟨c, hc, rfl⟩ := all _ _ hz
        refine ⟨D, xs, .bl false, pls part, _, rfl, rfl, SqL.of hxs, rfl, ?_, hz, ?_, ?_, _, _, rfl, rfl, ?_⟩
        · rw [List.all_eq_true]
          intro y hy
          obtain ⟨i, hi⟩ := List.mem_iff_getElem?.mp hy
          obtain ⟨c, _, rfl⟩ := all i y hi
          rfl
        · rw [k2] at hc
          cases hc
          rw [k3]
          rfl
        · intro m z' hm hz'
          obtain ⟨c', hc', rfl⟩ := all _ _ hz'
          rw [pls_nonplain hm hc']
          rfl
        · have z := q H' r
          push_cast at z
          exact z
end
end Ag

end
/-! ## P4 -/
section
set_option linter.all false
set_option maxRecDepth 100000
namespace Ag
open PySem PySem.Spec PyProof.Rows L2
open SX (S S_len S_cat S_inj)
theorem nf_a {m : List Nat} (h : dgs [] m = m.length) : nf m = .part (dgs [] m) := by
  unfold nf
  simp only [h, if_true]
theorem nf_b {m : List Nat} (h : dgs [] m ≠ m.length) (h2 : dgs [] m = 0 ∨ m[dgs [] m]? ≠ some 58) : nf m = .wrong (dgs [] m) := by
  unfold nf
  simp only [if_neg h, if_pos h2]
def nfN (m : List Nat) : Nat := digitsVal (m.take (dgs [] m))
def nfP (m : List Nat) : List Nat := (m.drop (dgs [] m + 1)).take (nfN m)
theorem nf_c {m : List Nat} (h : dgs [] m ≠ m.length) (h2 : ¬ (dgs [] m = 0 ∨ m[dgs [] m]? ≠ some 58)) (h3 : dgs [] m + 1 + pls (nfP m) = m.length) : nf m = .part (dgs [] m + 1 + pls (nfP m)) := by
  unfold nfP nfN at *
  unfold nf
  simp only [if_neg h, if_neg h2, if_pos h3]
theorem nf_d {m : List Nat} (h : dgs [] m ≠ m.length) (h2 : ¬ (dgs [] m = 0 ∨ m[dgs [] m]? ≠ some 58)) (h3 : dgs [] m + 1 + pls (nfP m) ≠ m.length) (h4 : m[dgs [] m + 1 + pls (nfP m)]? ≠ some 44) : nf m = .wrong (dgs [] m + 1 + pls (nfP m)) := by
  unfold nfP nfN at *
  unfold nf
  simp only [if_neg h, if_neg h2, if_neg h3, if_pos h4]
theorem nf_e {m : List Nat} (h : dgs [] m ≠ m.length) (h2 : ¬ (dgs [] m = 0 ∨ m[dgs [] m]? ≠ some 58)) (h3 : dgs [] m + 1 + pls (nfP m) ≠ m.length) (h4 : ¬ m[dgs [] m + 1 + pls (nfP m)]? ≠ some 44) :
    nf m = .whole (nfP m) (dgs [] m + 1 + nfN m + 1) := by
  unfold nfP nfN at *
  unfold nf
  simp only [if_neg h, if_neg h2, if_neg h3, if_neg h4]
def nfV (a : Nat) : Nf → List V
  | .part k => [.str (Str.ofString "part"), .str (Str.ofString ""), .int ((a + k : Nat) : Int)]
  | .wrong k => [.str (Str.ofString "wrong"), .str (Str.ofString ""), .int ((a + k : Nat) : Int)]
  | .whole t k => [.str (Str.ofString "whole"), .str (S t), .int ((a + k : Nat) : Int)]
theorem int_inj {a b : Nat} : decide (V.int (a : Int) = V.int (b : Int)) = decide (a = b) := by
  rw [Bool.eq_iff_iff, decide_eq_true_eq, decide_eq_true_eq]
  constructor
  · intro z
    injection z with z
    omega
  · rintro rfl
    rfl
theorem sign_ne {c d : Nat} {x : Str} (e : x = S [d]) : (!decide (V.str ⟨#[c]⟩ = V.str x)) = decide (c ≠ d) := by
  subst e
  rw [Bool.eq_iff_iff, decide_eq_true_eq, Bool.not_eq_true', decide_eq_false_iff_not]
  constructor
  · intro z w
    subst w
    exact z rfl
  · intro z w
    injection w with w
    have := S_inj (a := [c]) (b := [d]) w
    simp at this
    exact z this
theorem dgs_digs : ∀ (l s : List Nat), (s = [] ∨ isDec s 200 = true) → s ++ l.take (dgs s l) = [] ∨ isDec (s ++ l.take (dgs s l)) 200 = true
  | [], s, h => by simpa [dgs] using h
  | c :: cs, s, h => by
    by_cases hd : isDec (s ++ [c]) 200 = true
    · have e : dgs s (c :: cs) = dgs (s ++ [c]) cs + 1 := by
        show (if isDec (s ++ [c]) 200 = true then _ else _) = _
        rw [if_pos hd]
      rw [e, List.take_succ_cons]
      have := dgs_digs cs (s ++ [c]) (.inr hd)
      simpa using this
    · have e : dgs s (c :: cs) = 0 := by
        show (if isDec (s ++ [c]) 200 = true then _ else _) = _
        rw [if_neg hd]
      rw [e]
      simpa using h
section
variable {P : Program} {w : World} {K : PySem.W.Frag} {mg : Str → Option Value} {base : Heap} {tm tn tb : Tok}
def spNext : Sp := fun vs H Q _ => ∃ (l : List Nat) (a : Nat), vs = [.str (S l), .int (a : Int)] ∧ a ≤ l.length ∧ l.length ≤ 100000 ∧ ∀ p H', H p = none → Same H H' → H' p = some (.tup (nfV a (nf (l.drop a)))) → Q (.ref p) H'
theorem ok_next_frame {f f1 f2 : Addr} {fd fd1 fd2 : FuncData} (F : Fn K mg "next_frame" s_next_frame ["stream", "start"] f fd) (B : Con mg tm tn tb)
    (F_digits_end : Fn K mg "digits_end" s_digits_end ["stream", "start"] f1 fd1) (G_digits_end : FnOk P w K mg base CX0 2 f1 fd1 ["stream", "start"] spDigits)
    (F_plain_end : Fn K mg "plain_end" s_plain_end ["stream", "start", "stop"] f2 fd2) (G_plain_end : FnOk P w K mg base CX0 2 f2 fd2 ["stream", "start", "stop"] spPlEnd) :
    FnOk P w K mg base CX0 3 f fd ["stream", "start"] spNext := by
  refine F.F.ok sc_next_frame (fun vs H Q E h => ?_) (fun cdv A outer s H vs Q E hr h => ?_)
  · obtain ⟨l, a, rfl, _⟩ := h
    rfl
  · obtain ⟨l, a, rfl, ha, hl, q⟩ := h
    refine ⟨_, (pss_cons (ps_set (i := 2) sc_next_frame.nd rfl (.inl rfl) (pe_call G_digits_end (hr.mono (by decide)) (by rfl) F_digits_end.g F_digits_end.F.kp F_digits_end.b .nil pass0 (pa_cons (pv 0) (pa_cons (pv 1) pa_nil))))
      (pss_cons (ps_if (pt_cmpR op_eq (pv 2) (pe_callB call_len_str (by rfl) B.n_len PySem.boot_len (pa_cons (pv 0) pa_nil)) (nomark _))
      (pss_one (ps_ret (pe_tup (pa_cons pe_str (pa_cons pe_str (pa_cons (pv 2) pa_nil))))))
      pss_nil)
      (pss_cons (ps_if (PW.pt (pw_or (pt_cmpR op_eq (pv 2) (pv 1) (nomark _)) (pw_or1 (pt_cmpR op_ne (pe_ix ix_str (pv 0) (pv 2) (fun _ _ => rfl)) pe_str (nomark _)))))
      (pss_one (ps_ret (pe_tup (pa_cons pe_str (pa_cons pe_str (pa_cons (pv 2) pa_nil))))))
      pss_nil)
      (pss_cons (ps_set (i := 3) sc_next_frame.nd rfl (.inl rfl) (pe_op op_add (pe_op op_add (pv 2) pe_int) (pe_callTy call_int_str (by rfl) B.n_int (by decide +kernel) (pa_cons (pe_slice sl_str (pv 0) (po_some (pv 1)) (po_some (pv 2))) pa_nil))))
      (pss_cons (ps_set (i := 4) sc_next_frame.nd rfl (.inl rfl) (pe_call G_plain_end (hr.mono (by decide)) (by rfl) F_plain_end.g F_plain_end.F.kp F_plain_end.b .nil pass0 (pa_cons (pv 0) (pa_cons (pe_op op_add (pv 2) pe_int) (pa_cons (pv 3) pa_nil)))))
      (pss_cons (ps_if (pt_cmpR op_eq (pv 4) (pe_callB call_len_str (by rfl) B.n_len PySem.boot_len (pa_cons (pv 0) pa_nil)) (nomark _))
      (pss_one (ps_ret (pe_tup (pa_cons pe_str (pa_cons pe_str (pa_cons (pv 4) pa_nil))))))
      pss_nil)
      (pss_cons (ps_if (pt_cmpR op_ne (pe_ix ix_str (pv 0) (pv 4) (fun _ _ => rfl)) pe_str (nomark _))
      (pss_one (ps_ret (pe_tup (pa_cons pe_str (pa_cons pe_str (pa_cons (pv 4) pa_nil))))))
      pss_nil)
      (pss_one (ps_ret (pe_tup (pa_cons pe_str (pa_cons (pe_slice sl_str (pv 0) (po_some (pe_op op_add (pv 2) pe_int)) (po_some (pv 3))) (pa_cons (pe_op op_add (pv 3) pe_int) pa_nil))))))))))))), ?_⟩
    have s3 : 3 ≤ sizeLine := sz (by decide)
    have hdl : (l.drop a).length = l.length - a := List.length_drop ..
    have hkl := dgs_le (l.drop a) []
    refine ⟨_, rfl, _, rfl, l, a, rfl, ha, hl, ?_⟩
    -- colon == len(stream)
    refine ⟨_, rfl, _, rfl, S l, rfl, sz (by rw [S_len]; omega), rfl, _, rfl, ?_⟩
    rw [S_len, int_inj]
    refine ite2 (fun h1 => ?_) (fun h1 => ?_)
    · have h1 := of_decide_eq_true h1
      refine ⟨_, rfl, s3, fun p hp => q p _ hp (same_new hp) ?_⟩
      rw [upd_same, nf_a (by omega)]
      rfl
    · have h1 : ¬ (a + dgs [] (l.drop a) = l.length) := fun z => h1 (decide_eq_true z)
      have n1 : dgs [] (l.drop a) ≠ (l.drop a).length := by omega
      have hlt : dgs [] (l.drop a) < (l.drop a).length := by omega
      obtain ⟨c, hc⟩ : ∃ c, (l.drop a)[dgs [] (l.drop a)]? = some c := ⟨_, List.getElem?_eq_getElem hlt⟩
      have hcl : l[a + dgs [] (l.drop a)]? = some c := by rw [← hc, List.getElem?_drop]
      have wrong1 : (dgs [] (l.drop a) = 0 ∨ (l.drop a)[dgs [] (l.drop a)]? ≠ some 58) → ∀ p, H p = none → Q (.ref p) (upd H p (.tup [.str (Str.ofString "wrong"), .str (Str.ofString ""), .int ((a + dgs [] (l.drop a) : Nat) : Int)])) := by
        intro h2 p hp
        refine q p _ hp (same_new hp) ?_
        rw [upd_same, nf_b n1 h2]
        rfl
      -- colon == start or stream[colon] != ":"
      refine ⟨_, rfl, _, rfl, rfl, _, rfl, ?_⟩
      rw [int_inj]
      refine ite2 (fun h2 => ?_) (fun h2 => ?_)
      · have h2 := of_decide_eq_true h2
        exact iteT ⟨_, rfl, s3, wrong1 (.inl (by omega))⟩
      · have h2 : ¬ (a + dgs [] (l.drop a) = a) := fun z => h2 (decide_eq_true z)
        refine ⟨_, rfl, _, rfl, S l, _, c, rfl, rfl, sz (by rw [S_len]; omega), atI_nat hcl, rfl, _, rfl, ?_⟩
        rw [sign_ne colonS]
        refine ite2 (fun h3 => ?_) (fun h3 => ?_)
        · have h3 := of_decide_eq_true h3
          exact ⟨_, rfl, s3, wrong1 (.inr (by rw [hc]; simpa using h3))⟩
        · have h3 : c = 58 := by
            by_cases z : c = 58
            · exact z
            · exact absurd (decide_eq_true z) h3
          have n2 : ¬ (dgs [] (l.drop a) = 0 ∨ (l.drop a)[dgs [] (l.drop a)]? ≠ some 58) := by
            rintro (z | z)
            · omega
            · exact z (by rw [hc, h3])
          -- comma
          have hdig := (dgs_digs (l.drop a) [] (.inl rfl))
          rw [List.nil_append] at hdig
          have hdec : isDec ((l.drop a).take (dgs [] (l.drop a))) 200 = true := by
            rcases hdig with z | z
            · have := congrArg List.length z
              rw [List.length_take, List.length_nil] at this
              omega
            · exact z
          obtain ⟨d1, d2⟩ := isDec_digs hdec
          obtain ⟨d3, d4⟩ := isDec_len hdec
          refine ⟨_, rfl, _, _, rfl, rfl, _, rfl, _, rfl, (a : Int), rfl, _, rfl, _, rfl, S l, rfl, sz (by rw [S_len]; omega), ?_⟩
          rw [cut_S ha, show a + dgs [] (l.drop a) - a = dgs [] (l.drop a) by omega]
          refine ⟨_, _, rfl, int_S d1 d2 (by omega), by rw [S_len]; omega, _, _, rfl, rfl, ?_⟩
          -- end
          have eN : digitsVal ((l.drop a).take (dgs [] (l.drop a))) = nfN (l.drop a) := rfl
          rw [eN]
          refine ⟨_, rfl, _, rfl, _, _, rfl, rfl, _, rfl, l, a + dgs [] (l.drop a) + 1, a + dgs [] (l.drop a) + 1 + nfN (l.drop a), by push_cast; rfl, by omega, hl, fun H1 sm => ?_⟩
          have eP : (l.drop (a + dgs [] (l.drop a) + 1)).take (a + dgs [] (l.drop a) + 1 + nfN (l.drop a) - (a + dgs [] (l.drop a) + 1)) = nfP (l.drop a) := by
            unfold nfP
            rw [List.drop_drop]
            congr 1
            omega
          rw [eP]
          have hpl := pls_le (nfP (l.drop a))
          have hpP : (nfP (l.drop a)).length ≤ (l.drop a).length - (dgs [] (l.drop a) + 1) := by
            unfold nfP
            rw [List.length_take, List.length_drop]
            omega
          refine ⟨_, rfl, _, rfl, S l, rfl, sz (by rw [S_len]; omega), rfl, _, rfl, ?_⟩
          rw [S_len, int_inj]
          refine ite2 (fun h4 => ?_) (fun h4 => ?_)
          · have h4 := of_decide_eq_true h4
            refine ⟨_, rfl, s3, fun p hp => q p _ (sm.free hp) (sm.trans (same_new hp)) ?_⟩
            rw [upd_same, nf_c n1 n2 (by omega)]
            show some (HO.tup [_, _, V.int ((a + dgs [] (l.drop a) + 1 + pls (nfP (l.drop a)) : Nat) : Int)]) = some (HO.tup [_, _, V.int ((a + (dgs [] (l.drop a) + 1 + pls (nfP (l.drop a))) : Nat) : Int)])
            rw [show a + dgs [] (l.drop a) + 1 + pls (nfP (l.drop a)) = a + (dgs [] (l.drop a) + 1 + pls (nfP (l.drop a))) by omega]
          · have h4 : ¬ (a + dgs [] (l.drop a) + 1 + pls (nfP (l.drop a)) = l.length) := fun z => h4 (decide_eq_true z)
            have n3 : dgs [] (l.drop a) + 1 + pls (nfP (l.drop a)) ≠ (l.drop a).length := by omega
            have hlt3 : dgs [] (l.drop a) + 1 + pls (nfP (l.drop a)) < (l.drop a).length := by omega
            obtain ⟨d, hd⟩ : ∃ d, (l.drop a)[dgs [] (l.drop a) + 1 + pls (nfP (l.drop a))]? = some d := ⟨_, List.getElem?_eq_getElem hlt3⟩
            have hdl' : l[a + dgs [] (l.drop a) + 1 + pls (nfP (l.drop a))]? = some d := by
              rw [← hd, List.getElem?_drop]
              congr 1
              omega
            refine ⟨_, rfl, _, rfl, S l, _, d, rfl, rfl, sz (by rw [S_len]; omega), atI_nat hdl', rfl, _, rfl, ?_⟩
            rw [sign_ne commaS]
            refine ite2 (fun h5 => ?_) (fun h5 => ?_)
            · have h5 := of_decide_eq_true h5
              refine ⟨_, rfl, s3, fun p hp => q p _ (sm.free hp) (sm.trans (same_new hp)) ?_⟩
              rw [upd_same, nf_d n1 n2 n3 (by rw [hd]; simpa using h5)]
              show some (HO.tup [_, _, V.int ((a + dgs [] (l.drop a) + 1 + pls (nfP (l.drop a)) : Nat) : Int)]) = some (HO.tup [_, _, V.int ((a + (dgs [] (l.drop a) + 1 + pls (nfP (l.drop a))) : Nat) : Int)])
              rw [show a + dgs [] (l.drop a) + 1 + pls (nfP (l.drop a)) = a + (dgs [] (l.drop a) + 1 + pls (nfP (l.drop a))) by omega]
            · have h5 : d = 44 := by
                by_cases z : d = 44
                · exact z
                · exact absurd (decide_eq_true z) h5
              refine ⟨_, rfl, _, rfl, _, _, rfl, rfl, ((a + dgs [] (l.drop a) + 1 : Nat) : Int), by push_cast; rfl, _, rfl, ((a + dgs [] (l.drop a) + 1 + nfN (l.drop a) : Nat) : Int), by push_cast; rfl, S l, rfl, sz (by rw [S_len]; omega), ?_⟩
              rw [cut_S (by omega), eP]
              refine ⟨_, rfl, _, _, rfl, rfl, s3, fun p hp => q p _ (sm.free hp) (sm.trans (same_new hp)) ?_⟩
              rw [upd_same, nf_e n1 n2 n3 (by rw [hd, h5]; simp)]
              show some (HO.tup [_, _, V.int (((a + dgs [] (l.drop a) : Nat) : Int) + 1 + ((nfN (l.drop a) : Nat) : Int) + 1)]) = some (HO.tup [_, _, V.int ((a + (dgs [] (l.drop a) + 1 + nfN (l.drop a) + 1) : Nat) : Int)])
              rw [show ((a + dgs [] (l.drop a) : Nat) : Int) + 1 + ((nfN (l.drop a) : Nat) : Int) + 1 = ((a + (dgs [] (l.drop a) + 1 + nfN (l.drop a) + 1) : Nat) : Int) by omega]
end
end Ag

end
/-! ## P5 -/
section
set_option linter.all false
set_option maxRecDepth 100000
namespace Ag
open PySem PySem.Spec PyProof.Rows L2
open SX (S S_len S_cat S_inj)
def txs (ts : List (List Nat)) : List V := ts.map fun x => V.str (S x)
/-- a result of read stands at p -/
def OutAt (sub : Nat) (o : Out) (H : Hp) (p : Addr) : Prop := match o with
  | .read ts r => ∃ t, H t = some (.tup (txs ts)) ∧ H p = some (.tup [.str (Str.ofString "read"), .ref t, .str (S r)])
  | .wrong ts k => ∃ t, H t = some (.tup (txs ts)) ∧ H p = some (.tup [.str (Str.ofString "wrong"), .ref t, .int ((k : Int) - (sub : Int))])
theorem pw : decide (V.str (Str.ofString "part") = V.str (Str.ofString "wrong")) = false := by decide +kernel
theorem ww : decide (V.str (Str.ofString "wrong") = V.str (Str.ofString "wrong")) = true := by decide +kernel
theorem hw : decide (V.str (Str.ofString "whole") = V.str (Str.ofString "wrong")) = false := by decide +kernel
theorem pp : decide (V.str (Str.ofString "part") = V.str (Str.ofString "part")) = true := by decide +kernel
theorem hp' : decide (V.str (Str.ofString "whole") = V.str (Str.ofString "part")) = false := by decide +kernel
section
variable {P : Program} {w : World} {K : PySem.W.Frag} {mg : Str → Option Value} {base : Heap} {tm tn tb : Tok}
def spRead : Sp := fun vs H Q _ => ∃ (r z : List Nat), vs = [.str (S r), .str (S z)] ∧ isRestB r = true ∧ r.length ≤ 50000 ∧ z.length ≤ 50000 ∧ ∀ p H', H p = none → Same H H' → OutAt r.length (lr [] none (r ++ z)) H' p → Q (.ref p) H'
theorem ok_read {f f1 f2 : Addr} {fd fd1 fd2 : FuncData} (F : Fn K mg "read" s_read ["rest", "piece"] f fd) (B : Con mg tm tn tb)
    (F_is_rest : Fn K mg "is_rest" s_is_rest ["thing"] f1 fd1) (G_is_rest : FnOk P w K mg base CX0 2 f1 fd1 ["thing"] spIsRest)
    (F_next_frame : Fn K mg "next_frame" s_next_frame ["stream", "start"] f2 fd2) (G_next_frame : FnOk P w K mg base CX0 3 f2 fd2 ["stream", "start"] spNext) :
    FnOk P w K mg base CX0 4 f fd ["rest", "piece"] spRead := by
  refine F.F.ok sc_read (fun vs H Q E h => ?_) (fun cdv A outer s H vs Q E hr h => ?_)
  · obtain ⟨r, z, rfl, _⟩ := h
    rfl
  · obtain ⟨r, z, rfl, hrest, hrl, hzl, q⟩ := h
    refine ⟨_, (pss_cons (ps_if (pt_not (pt_val (pe_call G_is_rest (hr.mono (by decide)) (by rfl) F_is_rest.g F_is_rest.F.kp F_is_rest.b .nil pass0 (pa_cons (pv 0) pa_nil))))
      (pss_one ps_never)
      pss_nil)
      (pss_cons (ps_if (pt_not (pt_val (pe_callB call_isi (by rfl) B.n_isinstance (by decide +kernel) (pa_cons (pv 1) (pa_cons (pe_bltn (v := .ty "str") (by rfl) B.n_str (by decide +kernel) rfl) pa_nil)))))
      (pss_one ps_never)
      pss_nil)
      (pss_cons (ps_set (i := 2) sc_read.nd rfl (.inl rfl) (pe_op op_add_str (pv 0) (pv 1)))
      (pss_cons (ps_set (i := 3) sc_read.nd rfl (.inl rfl) (pe_lst pa_nil))
      (pss_cons (ps_set (i := 4) sc_read.nd rfl (.inl rfl) pe_int)
      (pss_cons (ps_while PassesOwn.never (pt_cmpR op_lt (pv 4) (pe_callB call_len_str (by rfl) B.n_len PySem.boot_len (pa_cons (pv 2) pa_nil)) (nomark _))
      (pss_cons (ps_asg (pe_call G_next_frame (hr.mono (by decide)) (by rfl) F_next_frame.g F_next_frame.F.kp F_next_frame.b .nil pass0 (pa_cons (pv 2) (pa_cons (pv 4) pa_nil))) (pg_tup rfl (pgs_cons (pg_name (i := 5) sc_read.nd rfl (Or.inl rfl)) (pgs_cons (pg_name (i := 6) sc_read.nd rfl (Or.inl rfl)) (pgs_cons (pg_name (i := 7) sc_read.nd rfl (Or.inl rfl)) pgs_nil)))))
        (pss_cons (ps_if (pt_cmpR op_eq (pv 5) pe_str (nomark _))
        (pss_one (ps_ret (pe_tup (pa_cons pe_str (pa_cons (pe_callTy call_tuple_of (by rfl) B.n_tuple (by decide +kernel) (pa_cons (pv 3) pa_nil)) (pa_cons (pe_op op_sub (pv 7) (pe_callB call_len_str (by rfl) B.n_len PySem.boot_len (pa_cons (pv 0) pa_nil))) pa_nil))))))
        pss_nil)
        (pss_cons (ps_if (pt_cmpR op_eq (pv 5) pe_str (nomark _))
        (pss_one ps_break)
        pss_nil)
        (pss_cons (ps_expr (pe_bm PySem.F.plainAttrs_list PySem.F.slot_list_append PySem.F.type_list_append mt_append (pv 3) (pa_cons (pv 6) pa_nil)))
        (pss_one (ps_set (i := 4) sc_read.nd rfl (.inl rfl) (pv 7))))))))
      (pss_one (ps_ret (pe_tup (pa_cons pe_str (pa_cons (pe_callTy call_tuple_of (by rfl) B.n_tuple (by decide +kernel) (pa_cons (pv 3) pa_nil)) (pa_cons (pe_slice sl_str (pv 2) (po_some (pv 4)) po_none) pa_nil)))))))))))), ?_⟩
    have s3 : 3 ≤ sizeLine := sz (by decide)
    refine ⟨_, rfl, r, rfl, by omega, fun H1 sm1 => ?_⟩
    rw [hrest]
    refine ⟨_, rfl, iteF ?_⟩
    refine ⟨_, rfl, .str (S z), .ty "str", _, _, true, rfl, .ty "str", .base (.str _), kit_ty (by decide +kernel), true, rfl, ?_⟩
    refine iteF ?_
    -- stream, texts, start
    refine ⟨_, rfl, _, rfl, S r, S z, rfl, rfl, sz (by rw [S_len, S_len]; omega), ?_⟩
    rw [S_cat]
    generalize hl : r ++ z = l at q
    have hll : l.length ≤ 100000 := by rw [← hl, List.length_append]; omega
    refine ⟨Nat.zero_le _, fun L hL => ?_⟩
    have nL : H L = none := sm1.free hL
    -- what a return or a break wants
    have fin : ∀ (o : Out) (ts : List (List Nat)) (H2 : Hp) (v : V) (nm : Str), Same H H2 → lr [] none l = o → (∀ t p H3, H3 t = some (.tup (txs ts)) → H3 p = some (.tup [.str nm, .ref t, v]) → OutAt r.length o H3 p) →
        ∀ t, H2 t = none → ∀ p, (upd H2 t (.tup (txs ts))) p = none → Q (.ref p) (upd (upd H2 t (.tup (txs ts))) p (.tup [.str nm, .ref t, v])) := by
      intro o ts H2 v nm sm e ho t ht p hp
      have npt : t ≠ p := fun z => by rw [z, upd_same] at hp; cases hp
      refine q p _ (sm.free (by rw [upd_ne npt.symm] at hp; exact hp)) (sm.trans ((same_new ht).trans (same_new hp))) ?_
      rw [e]
      exact ho t p _ (by rw [upd_ne npt, upd_same]) upd_same
    refine ⟨fun m σ H2 => ∃ (a : Nat) (ts : List (List Nat)) (x5 x6 x7 : Option V), a + m = l.length ∧ σ = [some (.str (S r)), some (.str (S z)), some (.str (S l)), some (.ref L), some (.int (a : Int)), x5, x6, x7] ∧ Same H H2 ∧
      H2 L = some (.lst (txs ts)) ∧ ts.length ≤ a ∧ lr [] none l = (lr [] none (l.drop a)).pre ts a, ⟨l.length, 0, [], none, none, none, by omega, rfl, sm1.trans (same_new hL), upd_same, Nat.zero_le _, by rw [List.drop_zero, Out.pre_nil]⟩, ?_⟩
    rintro m σ H2 ⟨a, ts, x5, x6, x7, em, rfl, sm, hts, hta, elr⟩
    have tsz : (txs ts).length ≤ 100000 := by
      unfold txs
      rw [List.length_map]
      omega
    refine ⟨_, rfl, _, rfl, S l, rfl, sz (by rw [S_len]; omega), _, _, rfl, rfl, _, rfl, ?_⟩
    rw [S_len]
    refine ite2 (fun h => ?_) (fun h => ?_)
    · have h : (a : Int) < (l.length : Int) := of_decide_eq_true h
      refine ⟨fun σ' H' => ∃ m', m' < m ∧ ∃ (a : Nat) (ts : List (List Nat)) (x5 x6 x7 : Option V), a + m' = l.length ∧ σ' = [some (.str (S r)), some (.str (S z)), some (.str (S l)), some (.ref L), some (.int (a : Int)), x5, x6, x7] ∧ Same H H' ∧
        H' L = some (.lst (txs ts)) ∧ ts.length ≤ a ∧ lr [] none l = (lr [] none (l.drop a)).pre ts a, fun σ' H' n => n, ?_⟩
      refine ⟨_, rfl, _, rfl, l, a, rfl, by omega, hll, fun p H3 hp sm3 hnf => ?_⟩
      have hnl := nf_lr (l.drop a)
      have sm' := sm.trans sm3
      have hts3 := sm3 _ _ hts
      cases hn : nf (l.drop a) with
      | part k =>
        rw [hn] at hnf hnl
        refine ⟨p, _, rfl, SqT.of hnf, rfl, _, _, rfl, _, _, rfl, _, _, rfl, rfl, ?_⟩
        refine ⟨_, rfl, rfl, _, rfl, ?_⟩
        rw [pw]
        refine iteF ?_
        refine ⟨_, rfl, rfl, _, rfl, ?_⟩
        rw [pp]
        refine iteT ?_
        -- break: return ("read", tuple(texts), stream[start:])
        obtain ⟨r', e1, e2⟩ := hnl
        refine ⟨_, rfl, L, _, rfl, .inl ⟨SqL.of hts3, fun t ht => ?_⟩⟩
        refine ⟨_, rfl, _, rfl, (a : Int), rfl, S l, rfl, sz (by rw [S_len]; omega), ?_⟩
        rw [cut_from (by omega)]
        refine ⟨s3, fin (.read ts (l.drop a)) ts H3 _ _ sm' ?_ ?_ t ht⟩
        · rw [elr, e1, e2]
          simp [Out.pre]
        · intro t p H4 h1 h2
          exact ⟨t, h1, h2⟩
      | wrong k =>
        rw [hn] at hnf hnl
        refine ⟨p, _, rfl, SqT.of hnf, rfl, _, _, rfl, _, _, rfl, _, _, rfl, rfl, ?_⟩
        refine ⟨_, rfl, rfl, _, rfl, ?_⟩
        rw [ww]
        refine iteT ?_
        refine ⟨_, rfl, L, _, rfl, .inl ⟨SqL.of hts3, fun t ht => ?_⟩⟩
        refine ⟨_, rfl, _, rfl, S r, rfl, sz (by rw [S_len]; omega), _, _, rfl, rfl, ?_⟩
        rw [S_len]
        refine ⟨s3, fin (.wrong ts (a + k)) ts H3 _ _ sm' ?_ ?_ t ht⟩
        · rw [elr, hnl.1]
          simp [Out.pre]
        · intro t p H4 h1 h2
          exact ⟨t, h1, h2⟩
      | whole u k =>
        rw [hn] at hnf hnl
        obtain ⟨e1, e2, e3⟩ := hnl
        refine ⟨p, _, rfl, SqT.of hnf, rfl, _, _, rfl, _, _, rfl, _, _, rfl, rfl, ?_⟩
        refine ⟨_, rfl, rfl, _, rfl, ?_⟩
        rw [hw]
        refine iteF ?_
        refine ⟨_, rfl, rfl, _, rfl, ?_⟩
        rw [hp']
        refine iteF ?_
        refine ⟨_, rfl, .inl ⟨rfl, _, SqL.of hts3⟩, _, rfl, L, _, _, rfl, rfl, hts3, Nat.lt_of_le_of_lt tsz (by decide), ?_⟩
        have dl : (l.drop a).length = l.length - a := List.length_drop ..
        refine ⟨_, rfl, l.length - (a + k), by omega, a + k, ts ++ [u], _, _, _, by omega, rfl, fun b o e => ?_, ?_, ?_, ?_⟩
        · rw [upd_ne (ne_of_none e nL)]
          exact sm' b o e
        · rw [upd_same]
          unfold txs
          rw [List.map_append]
          rfl
        · rw [List.length_append, List.length_singleton]
          omega
        · rw [elr, e1, Out.pre_pre, List.drop_drop]
    · have h : ¬ (a : Int) < (l.length : Int) := fun z => h (decide_eq_true z)
      have ed : l.drop a = [] := List.drop_eq_nil_of_le (by omega)
      refine ⟨_, rfl, L, _, rfl, .inl ⟨SqL.of hts, fun t ht => ?_⟩⟩
      refine ⟨_, rfl, _, rfl, (a : Int), rfl, S l, rfl, sz (by rw [S_len]; omega), ?_⟩
      rw [cut_from (by omega)]
      refine ⟨s3, fin (.read ts (l.drop a)) ts H2 _ _ sm ?_ ?_ t ht⟩
      · rw [elr, ed]
        simp [Out.pre, lr, glue]
      · intro t p H4 h1 h2
        exact ⟨t, h1, h2⟩
end
end Ag

end
/-! ## Q3 -/
section
set_option linter.all false
set_option maxRecDepth 100000
namespace Ag
open PySem PySem.Spec PyProof.Rows L2
open SX (S S_len S_cat S_inj)
/-! ### side, message_text, read_item -/
structure Twd (K : PySem.W.Frag) (mg : Str → Option Value) (Tw : Addr) : Prop where
  g : mg "TOWARD" = some (.ref Tw)
  tw : ∀ H, SqT K H Tw [.str (Str.ofString "ask"), .str (Str.ofString "past"), .str (Str.ofString "look")]
def twB (wd : List Nat) : Bool := decide (wd = [97,115,107]) || decide (wd = [112,97,115,116]) || decide (wd = [108,111,111,107])
def sideS (b : Bool) : Str := if b then Str.ofString "toward" else Str.ofString "back"
def headW : List Itm → List Nat
  | .s wd :: _ => wd
  | _ => []
theorem msg_head {ms : List Itm} (h : msgB ms = true) : ∃ wd xs ks, ms = .s wd :: xs ∧ formOf wd = some ks ∧ xs.length = ks.length ∧ (List.zipWith itmB ks xs).all id = true := by
  match ms, h with
  | .s wd :: xs, h =>
    simp only [msgB] at h
    cases hf : formOf wd with
    | none => rw [hf] at h; cases h
    | some ks =>
      rw [hf] at h
      simp only [Bool.and_eq_true, decide_eq_true_eq] at h
      exact ⟨wd, xs, ks, rfl, hf, h.1, h.2⟩
  | [], h => cases h
  | .i _ :: _, h => cases h
  | .n :: _, h => cases h
/-- what the items of a message are -/
theorem itm_ok {k : Nat} {x : Itm} (h : itmB k x = true) : (∃ l, x = .s l ∧ plainL l = true ∧ l.length ≤ 150) ∨ ∃ n : Nat, x = .i (n : Int) ∧ n ≤ 1000000000 := by
  unfold itmB at h
  split at h
  · cases x with
    | s l =>
      simp only [bodyB, Bool.and_eq_true, decide_eq_true_eq] at h
      exact .inl ⟨l, rfl, h.2, h.1⟩
    | i j => cases h
    | n => cases h
  · rw [Bool.and_eq_true] at h
    cases x with
    | s l => cases h.1
    | n => cases h.1
    | i j =>
      have h1 := h.1
      simp only [numB, Bool.and_eq_true, decide_eq_true_eq] at h1
      obtain ⟨n, rfl⟩ := Int.eq_ofNat_of_zero_le h1.1
      exact .inr ⟨n, rfl, by omega⟩
theorem zip_at {ks : List Nat} {xs : List Itm} (hl : xs.length = ks.length) (hv : (List.zipWith itmB ks xs).all id = true) : ∀ x ∈ xs, ∃ k, itmB k x = true := by
  intro x hx
  obtain ⟨i, hi, rfl⟩ := List.mem_iff_getElem.mp hx
  rw [List.all_eq_true] at hv
  refine ⟨ks[i]'(by omega), ?_⟩
  have : itmB (ks[i]'(by omega)) xs[i] ∈ List.zipWith itmB ks xs := by
    rw [List.mem_iff_getElem]
    exact ⟨i, by rw [List.length_zipWith]; omega, by rw [List.getElem_zipWith]⟩
  exact hv _ this
/-- the items of a message: short plain texts, numbers -/
theorem msg_items {ms : List Itm} (h : msgB ms = true) : ms.length ≤ 3 ∧ ∀ x ∈ ms, (∃ l, x = .s l ∧ plainL l = true ∧ l.length ≤ 150) ∨ ∃ n : Nat, x = .i (n : Int) ∧ n ≤ 1000000000 := by
  obtain ⟨wd, xs, ks, rfl, hf, hl, hv⟩ := msg_head h
  have h2 := (form_le hf).1
  refine ⟨by rw [List.length_cons]; omega, fun x hx => ?_⟩
  rcases List.mem_cons.mp hx with rfl | hx
  · obtain ⟨_, a, b, _⟩ := form_free hf
    exact .inl ⟨wd, rfl, a, by omega⟩
  · obtain ⟨k, hk⟩ := zip_at hl hv x hx
    exact itm_ok hk
theorem itT_len {x : Itm} (h : (∃ l, x = .s l ∧ plainL l = true ∧ l.length ≤ 150) ∨ ∃ n : Nat, x = .i (n : Int) ∧ n ≤ 1000000000) : (itT x).length ≤ 150 ∧ plainL (itT x) = true := by
  rcases h with ⟨l, rfl, hp, hl⟩ | ⟨n, rfl, hn⟩
  · exact ⟨hl, hp⟩
  · have := numL_len10 hn
    refine ⟨by show (numL n).length ≤ 150; omega, ?_⟩
    show plainL (numL n) = true
    unfold plainL
    rw [List.all_eq_true]
    intro c hc
    have := numL_all n c hc
    simp [plainC]
    omega
section
variable {P : Program} {w : World} {K : PySem.W.Frag} {mg : Str → Option Value} {base : Heap} {tm tn tb : Tok}
def spSide : Sp := fun vs H Q _ => ∃ (a : Addr) (ms : List Itm), vs = [.ref a] ∧ H a = some (.tup (ms.map Itm.v)) ∧ msgB ms = true ∧ bnd ms ∧ ∀ H', Same H H' → Q (.str (sideS (twB (headW ms)))) H'
theorem tw_in (wd : List Nat) : inV (.str (S wd)) [.str (Str.ofString "ask"), .str (Str.ofString "past"), .str (Str.ofString "look")] = twB wd := by
  have e1 : Str.ofString "ask" = S [97,115,107] := by decide +kernel
  have e2 : Str.ofString "past" = S [112,97,115,116] := by decide +kernel
  have e3 : Str.ofString "look" = S [108,111,111,107] := by decide +kernel
  rw [e1, e2, e3]
  unfold inV twB
  simp only [List.any_cons, List.any_nil, Bool.or_false]
  have key : ∀ a : List Nat, eqV (.str (S a)) (.str (S wd)) = decide (wd = a) := by
    intro a
    show (S a == S wd) = _
    rw [SX.S_beq_eq, Bool.eq_iff_iff, decide_eq_true_eq, decide_eq_true_eq]
    exact ⟨Eq.symm, Eq.symm⟩
  rw [key, key, key, Bool.or_assoc]
theorem ok_side {f f1 Tw : Addr} {fd fd1 : FuncData} (F : Fn K mg "side" s_side ["message"] f fd) (B : Con mg tm tn tb) (T : Twd K mg Tw)
    (F_is_message : Fn K mg "is_message" s_is_message ["thing"] f1 fd1) (G_is_message : FnOk P w K mg base CX0 5 f1 fd1 ["thing"] spMsg) : FnOk P w K mg base CX0 6 f fd ["message"] spSide := by
  refine F.F.ok sc_side (fun vs H Q E h => ?_) (fun cdv A outer s H vs Q E hr h => ?_)
  · obtain ⟨a, ms, rfl, _⟩ := h
    rfl
  · obtain ⟨a, ms, rfl, ha, hm, hb, q⟩ := h
    refine ⟨_, (pss_cons (ps_if (pt_not (pt_val (pe_call G_is_message (hr.mono (by decide)) (by rfl) F_is_message.g F_is_message.F.kp F_is_message.b .nil pass0 (pa_cons (pv 0) pa_nil))))
      (pss_one ps_never)
      pss_nil)
      (pss_one (ps_ret (pe_ifExp (pt_cmpR op_in_seq (pe_ix ix_tup (pv 0) pe_int (fun _ _ => rfl)) (pe_glob (v := .ref Tw) rfl T.g rfl) rfl) pe_str pe_str)))), ?_⟩
    have h3 := (msg_items hm).1
    refine ⟨_, rfl, a, ms, rfl, ha, hb, by omega, fun H1 sm => ?_⟩
    rw [hm]
    refine ⟨_, rfl, iteF ?_⟩
    obtain ⟨wd, xs, ks, rfl, _⟩ := msg_head hm
    refine ⟨_, rfl, a, _, _, _, rfl, rfl, SqT.of (sm _ _ ha), atI_nat (j := 0) rfl, ?_⟩
    refine ⟨Tw, _, rfl, .inr (T.tw H1), rfl, rfl, _, rfl, ?_⟩
    show if inV (.str (S wd)) _ = true then _ else _
    rw [tw_in]
    have q1 := q H1 sm
    refine ite2 (fun h => ?_) (fun h => ?_)
    · rw [show twB (headW (.s wd :: xs)) = true from h] at q1
      exact q1
    · rw [show twB (headW (.s wd :: xs)) = false from Bool.eq_false_iff.mpr h] at q1
      exact q1
def spMt : Sp := fun vs H Q _ => ∃ (a : Addr) (ms : List Itm), vs = [.ref a] ∧ H a = some (.tup (ms.map Itm.v)) ∧ msgB ms = true ∧ bnd ms ∧ ∀ H', Same H H' → Q (.str (S (wr ms))) H'
theorem mtx_all {xs : List V} {ms : List Itm} (hl : xs.length = ms.length) (h : ∀ (i : Nat) (y : V), xs[i]? = some y → ∃ x, ms[i]? = some x ∧ y = V.str (S (itT x))) : xs = ((ms.map itT).map S).map V.str := by
  refine List.ext_getElem? fun i => ?_
  rw [List.getElem?_map, List.getElem?_map, List.getElem?_map]
  cases e : xs[i]? with
  | none =>
    have h1 := List.getElem?_eq_none_iff.mp e
    rw [List.getElem?_eq_none_iff.mpr (show ms.length ≤ i by omega)]
    rfl
  | some y =>
    obtain ⟨x, hx, rfl⟩ := h i y e
    rw [hx]
    rfl
theorem its_at {ms : List Itm} {i : Nat} {x : V} (h : (ms.map Itm.v)[i]? = some x) : ∃ y, ms[i]? = some y ∧ x = y.v := by
  rw [List.getElem?_map] at h
  obtain ⟨y, h1, h2⟩ := Option.map_eq_some_iff.mp h
  exact ⟨y, h1, h2.symm⟩
theorem sum_le {l : List (List Nat)} {m : Nat} (h : ∀ x ∈ l, x.length ≤ m) : (l.map (·.length)).sum ≤ l.length * m := by
  induction l with
  | nil => simp
  | cons x l ih =>
    have h1 := h x List.mem_cons_self
    have h2 := ih fun y hy => h y (List.mem_cons_of_mem _ hy)
    rw [List.map_cons, List.sum_cons, List.length_cons, Nat.add_mul, Nat.one_mul]
    omega
/-- a message's items, joined by blanks: what the program and the law do alike -/
theorem str_itm {H : Hp} {x : Itm} {Q : VK} (h : (∃ l, x = .s l ∧ plainL l = true ∧ l.length ≤ 150) ∨ ∃ n : Nat, x = .i (n : Int) ∧ n ≤ 1000000000) (q : Q (.str (S (itT x))) H) :
    (∃ i, [x.v] = [V.int i] ∧ i.natAbs.log2 < 1920 ∧ Q (.str (Str.ofString (toString i))) H) ∨ ∃ a, [x.v] = [V.str a] ∧ Q (.str a) H := by
  rcases h with ⟨l, rfl, _⟩ | ⟨n, rfl, hn⟩
  · exact .inr ⟨_, rfl, q⟩
  · refine .inl ⟨_, rfl, log_small (Nat.lt_of_le_of_lt hn (by decide)), ?_⟩
    rw [toStr]
    exact q
theorem ok_message_text {f f1 : Addr} {fd fd1 : FuncData} (F : Fn K mg "message_text" s_message_text ["message"] f fd) (B : Con mg tm tn tb)
    (F_is_message : Fn K mg "is_message" s_is_message ["thing"] f1 fd1) (G_is_message : FnOk P w K mg base CX0 5 f1 fd1 ["thing"] spMsg) : FnOk P w K mg base CX0 6 f fd ["message"] spMt := by
  refine F.F.ok sc_message_text (fun vs H Q E h => ?_) (fun cdv A outer s H vs Q E hr h => ?_)
  · obtain ⟨a, ms, rfl, _⟩ := h
    rfl
  · obtain ⟨a, ms, rfl, ha, hm, hb, q⟩ := h
    refine ⟨_, (pss_cons (ps_if (pt_not (pt_val (pe_call G_is_message (hr.mono (by decide)) (by rfl) F_is_message.g F_is_message.F.kp F_is_message.b .nil pass0 (pa_cons (pv 0) pa_nil))))
      (pss_one ps_never)
      pss_nil)
      (pss_one (ps_ret (pe_join pe_str (pe_lc (own := [("item", 1)]) rfl sc_message_text.nd (pi_tup (pv 0)) (blkOk_by (N := N_message_text) (sc := defScope s_message_text) (by decide +kernel)) (fun _ _ _ _ _ => (pg_name (i := 1) sc_message_text.nd rfl (Or.inl rfl))) (fun _ _ _ _ _ => pts_nil) (fun _ _ _ _ _ => (pe_callTy (CallR.or call_str_int SkE.call_str_str) (by rfl) B.n_str (by decide +kernel) (pa_cons (pv 1) pa_nil)))))))), ?_⟩
    obtain ⟨h3, hi⟩ := msg_items hm
    refine ⟨_, rfl, a, ms, rfl, ha, hb, by omega, fun H1 sm => ?_⟩
    rw [hm]
    refine ⟨_, rfl, iteF ?_⟩
    have ha1 := sm _ _ ha
    refine ⟨⟨_, rfl⟩, _, rfl, a, rfl, ⟨_, SqT.of ha1⟩, fun D hD => ?_⟩
    have nD : a ≠ D := ne_of_none ha1 hD
    refine lc_all (walk_tup (K := K) (a := a) (xs := ms.map Itm.v)) (fun H' => Same H1 H' ∧ H' a = some (.tup (ms.map Itm.v))) (fun i y => ∃ x, ms[i]? = some x ∧ y = V.str (S (itT x))) (by rw [List.length_map]; omega) ⟨Same.refl _, ha1⟩ (fun H' o g => ⟨fun b o' e => by rw [upd_ne (ne_of_none e hD)]; exact g.1 b o' e, by rw [upd_ne nD]; exact g.2⟩) (fun _ g => SqT.of g.2) ?_ ?_
    · rintro i x Ha Hb xs k hi' g hxs ⟨rfl, hx⟩ hk
      obtain ⟨y, hy, rfl⟩ := its_at hx
      exact ⟨rfl, _, rfl, str_itm (hi y (List.mem_of_getElem? hy)) (hk _ _ ⟨y, hy, rfl⟩ g hxs)⟩
    · rintro H' xs hl hv ⟨g, _⟩ hxs
      have e := mtx_all (ms := ms) (by rw [hl, List.length_map]) hv
      subst e
      refine ⟨_, D, (ms.map itT).map S, rfl, rfl, .inl (SqL.of hxs), ?_, ?_⟩
      · rw [SX.lens, List.length_map, List.length_map]
        have : (Str.ofString " ").length = 1 := by decide +kernel
        rw [this]
        have := sum_le (l := ms.map itT) (m := 150) fun u hu => by
          obtain ⟨x, hx, rfl⟩ := List.mem_map.mp hu
          exact (itT_len (hi x hx)).1
        rw [List.length_map] at this
        omega
      · have eb : (Str.ofString " ") = S [32] := by decide +kernel
        rw [eb, SX.join_S]
        exact q _ (sm.trans g)
def spRi : Sp := fun vs H Q _ => ∃ (k : Nat) (l : List Nat), k ≤ 2 ∧ vs = [.str (kindS k), .str (S l)] ∧ l.length ≤ 100000 ∧ Q (rdI k l).v H
theorem ok_read_item {f f1 : Addr} {fd fd1 : FuncData} (F : Fn K mg "read_item" s_read_item ["kind", "field"] f fd) (B : Con mg tm tn tb) (F_is_decimal : Fn K mg "is_decimal" s_is_decimal ["string", "most"] f1 fd1) :
    FnOk P w K mg base CX0 2 f fd ["kind", "field"] spRi := by
  have G_is_decimal : FnOk P w K mg base CX0 1 f1 fd1 ["string", "most"] spDec := ok_is_decimal F_is_decimal B.toBlt
  refine F.F.ok sc_read_item (fun vs H Q E h => ?_) (fun cdv A outer s H vs Q E hr h => ?_)
  · obtain ⟨k, l, _, rfl, _⟩ := h
    rfl
  · obtain ⟨k, l, hk, rfl, hl, q⟩ := h
    refine ⟨_, (pss_cons (ps_if (pt_cmpR op_eq (pv 0) pe_str (nomark _))
      (pss_one (ps_ret (pv 1)))
      pss_nil)
      (pss_one (ps_ret (pe_ifExp (pt_val (pe_call G_is_decimal (hr.mono (by decide)) (by rfl) F_is_decimal.g F_is_decimal.F.kp F_is_decimal.b .nil pass0 (pa_cons (pv 1) (pa_cons (pe_glob (v := .int 1000000000) rfl B.g_NUMBER_MOST ⟨_, rfl⟩) pa_nil)))) (pe_callTy call_int_str (by rfl) B.n_int (by decide +kernel) (pa_cons (pv 1) pa_nil)) pe_non)))), ?_⟩
    refine ⟨_, rfl, rfl, _, rfl, ?_⟩
    refine ite2 (fun h => ?_) (fun h => ?_)
    · have hk0 : k = 0 := by
        match k, hk, h with
        | 0, _, _ => rfl
        | 1, _, h => exact absurd h (by decide +kernel)
        | 2, _, h => exact absurd h (by decide +kernel)
      subst hk0
      exact ⟨_, rfl, q⟩
    · have hk0 : k ≠ 0 := by
        rintro rfl
        exact absurd rfl h
      unfold rdI at q
      rw [if_neg hk0] at q
      refine ⟨_, rfl, l, 1000000000, rfl, by omega, by decide, _, rfl, ?_⟩
      refine ite2 (fun h => ?_) (fun h => ?_)
      · rw [if_pos h] at q
        have h' := h
        obtain ⟨j, hj, rfl⟩ := isDec_iff.mp h
        have hl10 := numL_len10 hj
        exact ⟨_, rfl, _, _, rfl, int_S (by rw [List.all_eq_true]; intro c hc; have := numL_all j c hc; simp [digC]; omega) (numL_ne j) (by omega), by rw [S_len]; omega, q⟩
      · rw [if_neg h] at q
        exact q
end
end Ag

end
/-! ## Q4 -/
section
set_option linter.all false
set_option maxRecDepth 100000
namespace Ag
open PySem PySem.Spec PyProof.Rows L2
open SX (S S_len S_cat S_inj)
/-! ### an own exception class whose __init__ keeps one thing -/
abbrev s_BT : Stmt := inClass (top 9) 0
abbrev N_BT : List Str := ["self", "thing"]
theorem sc_BT : FnScope N_BT ["self", "thing"] (defScope s_BT) := ⟨rfl, rfl, rfl, by decide +kernel, rfl, by decide +kernel, by decide +kernel⟩
structure ExcI (K : PySem.W.Frag) (mg : Str → Option Value) (x qual : Str) (st : Stmt) (C fI : Addr) (fd : FuncData) : Prop where
  E : OexE K C
  X : XfC K C
  no : PySem.W.findIn K (.ref C) "thing" = some none
  i : PySem.W.findIn K (.ref C) "__init__" = some (some (.ref fI)) ∧ PySem.W.typeIn K (.ref fI) = some (.type "function")
  F : Fun K "__init__" qual st fI fd
  b : Binds K fd ["self", "thing"] []
  g : mg x = some (.ref C)
  ex : PySem.W.exmOne K (.ref C) (.ref C) = some true
def spIni (K : PySem.W.Frag) : Sp := fun vs H Q _ => ∃ (a C : Addr) (y : V), vs = [.ref a, y] ∧ OexE K C ∧ PySem.W.findIn K (.ref C) "thing" = some none ∧ H a = some (exo a C none) ∧ ∀ dx, H dx = none → dx ≠ a → Q .non (upd (upd H dx (exd dx [("thing", y)])) a (exo a C (some dx)))
section
variable {P : Program} {w : World} {K : PySem.W.Frag} {mg : Str → Option Value} {base : Heap} {tm tn tb : Tok}
theorem ok_ini {f : Addr} {fd : FuncData} (F : Fun K "__init__" "BadText.__init__" s_BT f fd) : FnOk P w K mg base CX0 1 f fd ["self", "thing"] (spIni K) := by
  refine F.ok sc_BT (fun vs H Q E h => ?_) (fun cdv A outer s H vs Q E hr h => ?_)
  · obtain ⟨a, C, y, rfl, _⟩ := h
    rfl
  · obtain ⟨a, C, y, rfl, T, hno, ea, q⟩ := h
    refine ⟨_, pss_one (psE_ost (pv 0) (pv 1)), ?_⟩
    exact ⟨_, rfl, _, rfl, a, C, rfl, T, hno, ea, q⟩
/-! ### read_message -/
theorem spA_sub : ∀ (k : Nat) (acc l : List Nat), ∀ f ∈ spA k acc l, (∀ c ∈ f, c ∈ acc ++ l) ∧ f.length ≤ (acc ++ l).length
  | 0, acc, l, f, hf => by
    rw [spA_zero, List.mem_singleton] at hf
    subst hf
    exact ⟨fun c h => h, Nat.le_refl _⟩
  | k + 1, acc, [], f, hf => by
    simp only [spA, List.mem_singleton] at hf
    subst hf
    exact ⟨fun c h => by simpa using h, by simp⟩
  | k + 1, acc, c :: cs, f, hf => by
    by_cases h : c = 32
    · simp only [spA, if_pos h, List.mem_cons] at hf
      rcases hf with rfl | hf
      · exact ⟨fun d hd => List.mem_append_left _ hd, by simp⟩
      · obtain ⟨h1, h2⟩ := spA_sub k [] cs f hf
        refine ⟨fun d hd => List.mem_append_right _ (List.mem_cons_of_mem _ (by simpa using h1 d hd)), ?_⟩
        simp at h2 ⊢
        omega
    · simp only [spA, if_neg h] at hf
      obtain ⟨h1, h2⟩ := spA_sub (k + 1) (acc ++ [c]) cs f hf
      refine ⟨fun d hd => by simpa using h1 d hd, ?_⟩
      simpa using h2
theorem spA_len : ∀ (k : Nat) (acc l : List Nat), 1 ≤ (spA k acc l).length ∧ (spA k acc l).length ≤ k + 1
  | 0, acc, l => by rw [spA_zero]; simp
  | k + 1, acc, [] => by simp [spA]
  | k + 1, acc, c :: cs => by
    by_cases h : c = 32
    · simp only [spA, if_pos h, List.length_cons]
      have := spA_len k [] cs
      omega
    · simp only [spA, if_neg h]
      exact spA_len (k + 1) _ cs
theorem rdI_bnd {k : Nat} {f : List Nat} {l : List Nat} (h : rdI k f = .s l) : l = f := by
  unfold rdI at h
  split at h
  · injection h with h
    exact h.symm
  · split at h <;> cases h
def spRd (C : Addr) : Sp := fun vs H Q E => ∃ z : List Nat, vs = [.str (S z)] ∧ asc z ∧ z.length ≤ 50000 ∧
  (∀ ms, rdP z = some ms → ∀ p H', H p = none → Same H H' → H' p = some (.tup (ms.map Itm.v)) → Q (.ref p) H') ∧
  (rdP z = none → ∀ d H', H d = none → Same H H' → H' d = some (.xd [("thing", .str (S z))]) → E (.ref C) (some d) H')
theorem items_all {xs : List V} {ks : List Nat} {fs : List (List Nat)} (hl : xs.length = min ks.length fs.length) (h : ∀ (i : Nat) (y : V), xs[i]? = some y → ∃ k f, ks[i]? = some k ∧ fs[i]? = some f ∧ y = (rdI k f).v) : xs = (List.zipWith rdI ks fs).map Itm.v := by
  refine List.ext_getElem? fun i => ?_
  rw [List.getElem?_map, List.getElem?_zipWith]
  cases e : xs[i]? with
  | none =>
    have h1 := List.getElem?_eq_none_iff.mp e
    by_cases h2 : i < ks.length
    · rw [List.getElem?_eq_none_iff.mpr (show fs.length ≤ i by omega)]
      cases ks[i]? <;> rfl
    · rw [List.getElem?_eq_none_iff.mpr (show ks.length ≤ i by omega)]
      rfl
  | some y =>
    obtain ⟨k, f, h1, h2, rfl⟩ := h i y e
    rw [h1, h2]
    rfl
theorem kget_form {Fm : Addr} (T : Frms K w mg Fm) {G : VK} {e : Addr} {H3 : Hp} {wd : List Nat} (he : H3 e = some (.tup []))
    (h : ∀ (t : Addr) (ks : List Nat), (formOf wd = some ks ∨ (formOf wd = none ∧ ks = [])) → (∀ H', Same H3 H' → SqT K H' t (ks.map fun k => V.str (kindS k))) → G (.ref t) H3) :
    ∃ (k : Str) (r : Option Value), V.str (S wd) = .str k ∧ PySem.W.nsIn K Fm k = some r ∧ match r with
      | some u => ∃ v : V, RelV v u ∧ G v H3
      | none => G (.ref e) H3 := by
  cases hf : formOf wd with
  | none => exact ⟨S wd, none, rfl, T.no wd hf, h e [] (.inr ⟨hf, rfl⟩) fun H' sm => SqT.of (sm _ _ he)⟩
  | some ks =>
    obtain ⟨t, ht, hkt⟩ := T.yes wd ks hf
    exact ⟨S wd, some (.ref t), rfl, ht, .ref t, rfl, h t ks (.inl hf) fun H' _ => hkt H'⟩
theorem cut1 {x : V} {xs : List V} : cutV (x :: xs) (some 1) none = xs := by
  unfold cutV
  have hs1 : HT.sIx (x :: xs).length 0 (some ((1 : Nat) : Int)) = 1 := sIx_at (by simp)
  rw [show (1 : Int) = ((1 : Nat) : Int) from rfl, hs1]
  show (xs.take _) = _
  rw [show HT.sIx (x :: xs).length (x :: xs).length none = (x :: xs).length from rfl, List.length_cons, show xs.length + 1 - 1 = xs.length by omega]
  exact List.take_length
theorem ok_read_message {f f1 f2 f3 Fm C : Addr} {fd fd1 fd2 fd3 : FuncData} (F : Fn K mg "read_message" s_read_message ["text"] f fd) (B : Con mg tm tn tb) (T : Frms K w mg Fm)
    (F_is_message : Fn K mg "is_message" s_is_message ["thing"] f1 fd1) (G_is_message : FnOk P w K mg base CX0 5 f1 fd1 ["thing"] spMsg)
    (F_read_item : Fn K mg "read_item" s_read_item ["kind", "field"] f2 fd2) (G_read_item : FnOk P w K mg base CX0 2 f2 fd2 ["kind", "field"] spRi)
    (TE : ExcI K mg "BadText" "BadText.__init__" s_BT C f3 fd3) : FnOk P w K mg base (L2.CX P w) 6 f fd ["text"] (spRd C) := by
  obtain ⟨es, en, D⟩ := T.kd
  have G_ini : FnOk P w K mg base CX0 1 f3 fd3 ["self", "thing"] (spIni K) := ok_ini TE.F
  refine F.F.okX sc_read_message (fun vs H Q E h => ?_) (fun cdv A outer s H vs Q E hr h => ?_)
  · obtain ⟨z, rfl, _⟩ := h
    rfl
  · obtain ⟨z, rfl, az, lz, q1, q2⟩ := h
    refine ⟨_, (pss_cons (ps_if (pt_not (pt_val (pe_callB call_isi (by rfl) B.n_isinstance (by decide +kernel) (pa_cons (pv 0) (pa_cons (pe_bltn (v := .ty "str") (by rfl) B.n_str (by decide +kernel) rfl) pa_nil)))))
      (pss_one (ps_raise rfl (takes_of rfl rfl rfl rfl) (pmkE TE.E TE.i G_ini (hr.mono (by decide)) TE.b pass0 (by rfl) TE.g (pa_cons (pv 0) pa_nil))))
      pss_nil)
      (pss_cons (ps_set (i := 1) sc_read_message.nd rfl (.inl rfl) (pe_bm PySem.F.plainAttrs_str PySem.F.slot_str_split PySem.F.type_str_split mt_splitMax (pv 0) (pa_cons pe_str (pa_cons pe_int pa_nil))))
      (pss_cons (ps_set (i := 2) sc_read_message.nd rfl (.inl rfl) (pe_kget2 D (pe_glob (v := .ref Fm) rfl T.g rfl) (pe_ix ix_list (pv 1) pe_int (fun _ _ => rfl)) (pe_tup pa_nil) ⟨rfl, rfl, rfl, rfl⟩))
      (pss_cons (ps_setLc (i := 3) (own := [("kind", 5), ("field", 6)]) rfl sc_read_message.nd rfl rfl (sw_true rfl rfl rfl (by decide +kernel)) (pi_zipM (by rfl) B.n_zip (pa_cons (pv 2) (pa_cons (pe_slice sl_list (pv 1) (po_some pe_int) po_none) pa_nil))) (blkOk_by (N := N_read_message) (sc := defScope s_read_message) (by decide +kernel)) (fun _ _ _ _ _ => pg_two (i := 5) (j := 6) K rfl sc_read_message.nd rfl rfl rfl rfl rfl) (fun _ _ _ _ _ => pts_nil) (fun _ _ _ _ _ => (pe_call G_read_item (hr.mono (by decide)) (by rfl) F_read_item.g F_read_item.F.kp F_read_item.b .nil pass0 (pa_cons (pv 5) (pa_cons (pv 6) pa_nil)))))
      (pss_cons (ps_set (i := 4) sc_read_message.nd rfl (.inl rfl) (pe_tup (pa_cons (pe_ix ix_list (pv 1) pe_int (fun _ _ => rfl)) (StX.pa_star (pv 3) pa_nil))))
      (pss_cons (ps_if (PW.pt (pw_or (pt_cmpR op_ne (pe_callB call_len_seq (by rfl) B.n_len PySem.boot_len (pa_cons (pv 4) pa_nil)) (pe_callB call_len_seq (by rfl) B.n_len PySem.boot_len (pa_cons (pv 1) pa_nil)) (nomark _)) (pw_or1 (pt_not (pt_val (pe_call G_is_message (hr.mono (by decide)) (by rfl) F_is_message.g F_is_message.F.kp F_is_message.b .nil pass0 (pa_cons (pv 4) pa_nil)))))))
      (pss_one (ps_raise rfl (takes_of rfl rfl rfl rfl) (pmkE TE.E TE.i G_ini (hr.mono (by decide)) TE.b pass0 (by rfl) TE.g (pa_cons (pv 0) pa_nil))))
      pss_nil)
      (pss_one (ps_ret (pv 4))))))))), ?_⟩
    -- what a raise needs
    have out : ∀ H', Same H H' → rdP z = none → ∀ a, H' a = none → spIni K [.ref a, .str (S z)] (upd H' a (exo a C none)) (fun v H2 => v = .non ∧ ∃ (d : Addr) (fs : List (Str × V)), H2 a = some (exo a C (some d)) ∧ H2 d = some (exd d fs) ∧ H' d = none ∧ E (.ref C) (some d) (upd (del H2 a) d (.xd fs))) E0 := by
      intro H' sm hn a ha
      refine ⟨a, C, _, rfl, TE.E, TE.no, upd_same, fun dx hdx ne => ⟨rfl, dx, _, upd_same, by rw [upd_ne ne, upd_same], by rw [upd_ne ne] at hdx; exact hdx, ?_⟩⟩
      rw [upd_ne ne] at hdx
      refine q2 hn dx _ (sm.free hdx) (fun b o e => ?_) upd_same
      have e' := sm _ _ e
      have nb1 : b ≠ dx := ne_of_none e' hdx
      have nb2 : b ≠ a := ne_of_none e' ha
      rw [upd_ne nb1, del_ne nb2, upd_ne nb2, upd_ne nb1, upd_ne nb2]
      exact e'
    refine ⟨.str (S z), rfl, .str (S z), .ty "str", _, _, true, rfl, .ty "str", .base (.str _), kit_ty (by decide +kernel), _, rfl, iteF ?_⟩
    -- fields
    refine ⟨_, rfl, rfl, S z, _, 2, rfl, rfl, by decide +kernel, by decide, by decide, sz (by rw [S_len]; omega), ?_⟩
    rw [split2]
    intro L hL
    have hfs := spA_sub 2 [] z
    have hln := spA_len 2 [] z
    obtain ⟨w0, fs, hs⟩ : ∃ w0 fs, spA 2 [] z = w0 :: fs := by
      cases h : spA 2 [] z with
      | nil => rw [h] at hln; simp at hln
      | cons w0 fs => exact ⟨w0, fs, rfl⟩
    rw [hs] at hfs hln ⊢
    have sm1 := same_new (o := .lst (((w0 :: fs).map S).map V.str)) hL
    have hL1 : upd H L (.lst (((w0 :: fs).map S).map V.str)) L = some (.lst (((w0 :: fs).map S).map V.str)) := upd_same
    generalize upd H L (.lst (((w0 :: fs).map S).map V.str)) = H1 at sm1 hL1
    -- kinds
    refine ⟨rfl, _, rfl, L, _, _, _, rfl, rfl, SqL.of hL1, atI_nat (j := 0) rfl, Nat.zero_le _, fun e he => kget_form T upd_same fun t ks hks hkt => ?_⟩
    have sm2 := same_new (o := .tup []) he
    have hL2 := sm2 _ _ hL1
    have sm2 := sm1.trans sm2
    generalize upd H1 e (.tup []) = H2 at sm2 hL2 hkt ⊢
    have hk2 : ks.length ≤ 2 ∧ ∀ k ∈ ks, k ≤ 2 := by
      rcases hks with h | ⟨_, rfl⟩
      · exact form_le h
      · simp
    -- items
    refine ⟨_, rfl, _, rfl, 1, rfl, L, _, rfl, SqL.of hL2, fun u hu => ?_⟩
    rw [show cutV (((w0 :: fs).map S).map V.str) (some 1) none = (fs.map S).map V.str from cut1]
    have sm3 := same_new (o := .lst ((fs.map S).map V.str)) hu
    have hL3 := sm3 _ _ hL2
    have hkt3 : ∀ H', Same (upd H2 u (.lst ((fs.map S).map V.str))) H' → SqT K H' t (ks.map fun k => V.str (kindS k)) := fun H' g => hkt H' (sm3.trans g)
    have hu3 : upd H2 u (.lst ((fs.map S).map V.str)) u = some (.lst ((fs.map S).map V.str)) := upd_same
    have sm3 := sm2.trans sm3
    generalize upd H2 u (.lst ((fs.map S).map V.str)) = H3 at sm3 hL3 hu3 hkt3 ⊢
    refine ⟨t, u, _, _, rfl, ⟨hkt3 _ (Same.refl _), SqL.of hu3⟩, fun D' hD => ?_⟩
    have nu : u ≠ D' := ne_of_none hu3 hD
    refine lc_all (walk_zipM (K := K) (a := t) (b := u) (xs := ks.map fun k => V.str (kindS k)) (ys := (fs.map S).map V.str) rfl) (fun H' => Same H3 H' ∧ H' u = some (.lst ((fs.map S).map V.str)))
      (fun i y => ∃ k f, ks[i]? = some k ∧ fs[i]? = some f ∧ y = (rdI k f).v) (by simp; omega) ⟨Same.refl _, hu3⟩ (fun H' o g => ⟨fun b o' e => by rw [upd_ne (ne_of_none e hD)]; exact g.1 b o' e, by rw [upd_ne nu]; exact g.2⟩) (fun H' g => ⟨hkt3 _ g.1, SqL.of g.2⟩) ?_ ?_
    · rintro i x' Ha Hb ys k hi ⟨g, hu'⟩ hxs ⟨T', x1, x2, rfl, hT', rfl, h1, h2⟩ hk
      have h1 : (ks.map fun k => V.str (kindS k))[i]? = some x1 := h1
      have h2 : ((fs.map S).map V.str)[i]? = some x2 := h2
      rw [List.getElem?_map] at h1 h2
      rw [List.getElem?_map] at h2
      obtain ⟨kk, hkk, rfl⟩ := Option.map_eq_some_iff.mp h1
      obtain ⟨x3, hx3, rfl⟩ := Option.map_eq_some_iff.mp h2
      obtain ⟨ff, hff, rfl⟩ := Option.map_eq_some_iff.mp hx3
      have nT : D' ≠ T' := ne_of_none hxs hT'
      have nT2 : u ≠ T' := ne_of_none hu' hT'
      have hfl := (hfs ff (List.mem_cons_of_mem _ (List.mem_of_getElem? hff))).2
      rw [List.nil_append] at hfl
      refine ⟨T', _, rfl, SqT.of upd_same, rfl, _, _, rfl, _, _, rfl, rfl, rfl, _, rfl, _, rfl, kk, ff, hk2.2 kk (List.mem_of_getElem? hkk), rfl, by omega, ?_⟩
      exact hk _ _ ⟨kk, ff, hkk, hff, rfl⟩ ⟨g.trans (same_new hT'), by rw [upd_ne nT2]; exact hu'⟩ (by rw [upd_ne nT]; exact hxs)
    rintro H4 ys hyl hyv ⟨g4, _⟩ hD4
    have ey := items_all (by rw [hyl]; simp) hyv
    subst ey
    have hL4 := g4 _ _ hL3
    have sm4 := sm3.trans g4
    clear hyv hyl hu3 hkt3 hkt hL3 hL2 hL1 sm1 sm2 sm3 g4
    -- the message
    refine ⟨_, rfl, L, _, _, _, rfl, rfl, SqL.of hL4, atI_nat (j := 0) rfl, _, rfl, D', _, rfl, .inr (SqL.of hD4), ?_, fun m hm => ?_⟩
    · rw [List.append_nil, List.length_cons, List.length_map, List.length_zipWith]
      exact sz (by omega)
    show gName 4 (V.ref m) _ (upd H4 m (.tup (V.str (S w0) :: ((List.zipWith rdI ks fs).map Itm.v ++ [])))) _
    rw [List.append_nil]
    have sm5 := same_new (o := .tup (V.str (S w0) :: (List.zipWith rdI ks fs).map Itm.v)) hm
    have hL5 := sm5 _ _ hL4
    have nm : H m = none := sm4.free hm
    have hm5 : upd H4 m (.tup (V.str (S w0) :: (List.zipWith rdI ks fs).map Itm.v)) m = some (.tup (((Itm.s w0) :: List.zipWith rdI ks fs).map Itm.v)) := upd_same
    have sm5 := sm4.trans sm5
    generalize upd H4 m (.tup (V.str (S w0) :: (List.zipWith rdI ks fs).map Itm.v)) = H5 at sm5 hm5 hL5 ⊢
    have hb : bnd (Itm.s w0 :: List.zipWith rdI ks fs) := by
      have hf : ∀ f ∈ w0 :: fs, asc f ∧ f.length ≤ 100000 := fun f hf => by
        obtain ⟨a1, a2⟩ := hfs f hf
        rw [List.nil_append] at a2
        exact ⟨fun c hc => az c (by simpa using a1 c hc), by omega⟩
      intro l hl
      rcases List.mem_cons.mp hl with e | hl
      · injection e with e
        subst e
        exact hf _ List.mem_cons_self
      · obtain ⟨i, hi, e⟩ := List.mem_iff_getElem.mp hl
        rw [List.getElem_zipWith] at e
        have := rdI_bnd e
        subst this
        exact hf _ (List.mem_cons_of_mem _ (List.getElem_mem _))
    have hfl : fs.length ≤ 2 := by have := hln.2; rw [List.length_cons] at this; omega
    have hrd : rdP z = match formOf w0 with
        | none => none
        | some ks => if fs.length = ks.length ∧ (List.zipWith itmB ks (List.zipWith rdI ks fs)).all id = true then some (.s w0 :: List.zipWith rdI ks fs) else none := by
      unfold rdP
      rw [hs] <;> rfl
    refine ⟨_, rfl, m, _, rfl, .inr (SqT.of hm5), _, rfl, L, _, rfl, .inl (SqL.of hL5), rfl, _, rfl, ?_⟩
    rw [show ((Itm.s w0 :: List.zipWith rdI ks fs).map Itm.v).length = 1 + min ks.length fs.length by rw [List.length_map, List.length_cons, List.length_zipWith]; omega, show (((w0 :: fs).map S).map V.str).length = 1 + fs.length by rw [List.length_map, List.length_map, List.length_cons]; omega]
    rw [int_inj]
    refine ite2 (fun h1 => ?_) (fun h1 => ?_)
    · have h1 : ¬ (1 + min ks.length fs.length = 1 + fs.length) := by simpa using h1
      refine iteT ⟨_, rfl, Nat.le_of_ble_eq_true rfl, out _ sm5 ?_⟩
      rw [hrd]
      rcases hks with h | ⟨h, _⟩
      · rw [h]
        simp only
        rw [if_neg (fun z => h1 (by have := z.1; omega))]
      · rw [h]
    · have h1 : 1 + min ks.length fs.length = 1 + fs.length := by simpa using h1
      refine ⟨_, rfl, m, _, rfl, hm5, hb, by rw [List.length_cons, List.length_zipWith]; omega, fun H6 sm6 => ?_⟩
      have sm6' := sm5.trans sm6
      cases hmb : msgB (Itm.s w0 :: List.zipWith rdI ks fs) with
      | false =>
        refine ⟨_, rfl, iteT ⟨_, rfl, Nat.le_of_ble_eq_true rfl, out _ sm6' ?_⟩⟩
        rw [hrd]
        rcases hks with h | ⟨h, _⟩
        · rw [h]
          simp only [msgB, h] at hmb ⊢
          refine if_neg fun zz => ?_
          rw [zz.2, Bool.and_true, decide_eq_false_iff_not, List.length_zipWith] at hmb
          exact hmb (by have := zz.1; omega)
        · rw [h]
      | true =>
        refine ⟨_, rfl, iteF ⟨_, rfl, q1 _ ?_ m H6 nm sm6' (sm6 _ _ hm5)⟩⟩
        rw [hrd]
        rcases hks with h | ⟨h, _⟩
        · rw [h]
          simp only [msgB, h, Bool.and_eq_true, decide_eq_true_eq] at hmb ⊢
          rw [if_pos ⟨by have := hmb.1; rw [List.length_zipWith] at this; omega, hmb.2⟩]
        · simp only [msgB, h] at hmb
          cases hmb
end
end Ag

end
/-! ## L1 -/
section
set_option linter.all false
set_option maxRecDepth 100000
namespace Ag
open PySem PySem.Spec PyProof.Rows L2
open SX (S S_len S_cat S_inj)
/-! ### the deck of draws -/
def kC : Key := Sum.inr (Str.ofString "cells")
def kM : Key := Sum.inr (Str.ofString "mixed")
def kT : Key := Sum.inr (Str.ofString "turn")
def dkL (c : Addr) (m t : Int) : List (Key × V) := [(kC, .ref c), (kM, .int m), (kT, .int t)]
theorem nCM : ¬ kC = kM := by decide +kernel
theorem nCT : ¬ kC = kT := by decide +kernel
theorem nMT : ¬ kM = kT := by decide +kernel
section
variable {c : Addr} {m t u : Int}
theorem v_C : valV (dkL c m t) kC = some (.ref c) := valV_pos rfl
theorem v_M : valV (dkL c m t) kM = some (.int m) := (valV_neg nCM).trans (valV_pos rfl)
theorem v_T : valV (dkL c m t) kT = some (.int t) := (valV_neg nCT).trans ((valV_neg nMT).trans (valV_pos rfl))
theorem put_T : putK (dkL c m t) kT (.int u) = dkL c m u := by
  unfold putK dkL
  simp [nCT, nMT]
theorem merge_d : mergeK [] (dkL c m t) = dkL c m t := by
  unfold mergeK dkL putK
  simp [nCM, nCT, nMT]
end
/-- a deck stands at p, its cells at c -/
def Dk (p c : Addr) (H : Hp) : Prop := ∃ (m t : Int) (cs : List Int), H p = some (.dK (dkL c m t)) ∧ H c = some (.lst (cs.map V.int)) ∧ cs.length ≤ 63
/-- all but the deck is as it was, and the deck is one -/
def Gx (p c : Addr) (H H' : Hp) : Prop := (∀ b o, b ≠ p → b ≠ c → H b = some o → H' b = some o) ∧ Dk p c H'
theorem Gx.refl {p c : Addr} {H : Hp} (d : Dk p c H) : Gx p c H H := ⟨fun _ _ _ _ e => e, d⟩
theorem Gx.trans {p c : Addr} {H H1 H2 : Hp} (a : Gx p c H H1) (b : Gx p c H1 H2) : Gx p c H H2 := ⟨fun x o h1 h2 e => b.1 x o h1 h2 (a.1 x o h1 h2 e), b.2⟩
theorem Dk.same {p c : Addr} {H H' : Hp} (d : Dk p c H) (s : Same H H') : Dk p c H' := by
  obtain ⟨m, t, cs, h1, h2, h3⟩ := d
  exact ⟨m, t, cs, s _ _ h1, s _ _ h2, h3⟩
theorem Gx.same {p c : Addr} {H H' : Hp} (d : Dk p c H) (s : Same H H') : Gx p c H H' := ⟨fun b o _ _ e => s b o e, d.same s⟩
theorem Dk.ne {p c q : Addr} {H : Hp} (d : Dk p c H) (h : H q = none) : q ≠ p ∧ q ≠ c := by
  obtain ⟨m, t, cs, h1, h2, _⟩ := d
  exact ⟨(ne_of_none h1 h).symm, (ne_of_none h2 h).symm⟩
theorem Gx.free {p c q : Addr} {H H' : Hp} (g : Gx p c H H') (d : Dk p c H) (h : H' q = none) : H q = none := by
  cases e : H q with
  | none => rfl
  | some o =>
    have n := g.2.ne h
    have := g.1 q o n.1 n.2 e
    rw [h] at this
    cases this
/-- an object that the deck is not -/
def At (p c : Addr) (H : Hp) (a : Addr) (o : HO) : Prop := a ≠ p ∧ a ≠ c ∧ H a = some o
theorem At.gx {p c a : Addr} {H H' : Hp} {o : HO} (h : At p c H a o) (g : Gx p c H H') : At p c H' a o := ⟨h.1, h.2.1, g.1 a o h.1 h.2.1 h.2.2⟩
theorem At.new {p c a : Addr} {H : Hp} {o : HO} (d : Dk p c H) (h : H a = none) : At p c (upd H a o) a o := ⟨(d.ne h).1, (d.ne h).2, upd_same⟩
theorem Gx.new {p c a : Addr} {H : Hp} {o : HO} (d : Dk p c H) (h : H a = none) : Gx p c H (upd H a o) := Gx.same d (same_new h)
/-- a list's own change -/
theorem Gx.put {p c a : Addr} {H H' : Hp} {o : HO} (g : Gx p c H H') (d : Dk p c H) (h : H a = none) (n : a ≠ p ∧ a ≠ c) : Gx p c H (upd H' a o) := by
  refine ⟨fun b u h1 h2 e => ?_, ?_⟩
  · rw [upd_ne (ne_of_none e h)]
    exact g.1 b u h1 h2 e
  · obtain ⟨m, t, cs, h1, h2, h3⟩ := g.2
    exact ⟨m, t, cs, by rw [upd_ne n.1.symm]; exact h1, by rw [upd_ne n.2.symm]; exact h2, h3⟩
theorem cutV63 {ns : List Int} (h : ns.length ≤ 63) : cutV (ns.map V.int) none (some 63) = ns.map V.int := by
  unfold cutV
  rw [HT.sIx_none, show HT.sIx (ns.map V.int).length (ns.map V.int).length (some 63) = min 63 (ns.map V.int).length from HT.sIx_nat _ _ 63, List.drop_zero, List.take_of_length_le]
  rw [List.length_map]
  omega
section
variable {P : Program} {w : World} {K : PySem.W.Frag} {mg : Str → Option Value} {base : Heap} {tm tn tb : Tok}
def spDeck (K : PySem.W.Frag) : Sp := fun vs H Q _ => ∃ (a : Addr) (ns : List Int), vs = [.ref a] ∧ SqL K H a (ns.map V.int) ∧ ns.length ≤ 63 ∧ ∀ p c H', H p = none → H c = none → Same H H' → Dk p c H' → Q (.ref p) H'
theorem ints_all {ns : List Int} {xs : List V} (hl : xs.length = ns.length) (h : ∀ (i : Nat) (y : V), xs[i]? = some y → ∃ z, ns[i]? = some z ∧ y = V.int z) : xs = ns.map V.int := by
  refine List.ext_getElem? fun i => ?_
  rw [List.getElem?_map]
  cases e : xs[i]? with
  | none =>
    have h1 := List.getElem?_eq_none_iff.mp e
    have h2 : ns[i]? = none := List.getElem?_eq_none_iff.mpr (by omega)
    rw [h2]
    rfl
  | some y =>
    obtain ⟨z, hz, rfl⟩ := h i y e
    rw [hz]
    rfl
theorem int_at {ns : List Int} {i : Nat} {x : V} (h : (ns.map V.int)[i]? = some x) : ∃ z, ns[i]? = some z ∧ x = V.int z := by
  rw [List.getElem?_map] at h
  cases e : ns[i]? with
  | none => rw [e] at h; cases h
  | some z =>
    rw [e] at h
    exact ⟨z, rfl, (Option.some.inj h).symm⟩
theorem ok_deck {f : Addr} {fd : FuncData} (F : Fn K mg "_law_deck" s__law_deck ["_law_script"] f fd) (B : Blt mg) : FnOk P w K mg base CX0 1 f fd ["_law_script"] (spDeck K) := by
  refine F.F.ok sc__law_deck (fun vs H Q E h => ?_) (fun cdv A outer s H vs Q E hr h => ?_)
  · obtain ⟨a, ns, rfl, _⟩ := h
    rfl
  · obtain ⟨a, ns, rfl, hS, hlen, q⟩ := h
    refine ⟨_, (pss_cons (ps_set (i := 1) sc__law_deck.nd rfl (.inl rfl) pe_int)
      (pss_cons (ps_for PassesOwn.never rfl (pi_list (pe_slice sl_list (pv 0) po_none (po_some pe_int))) (pg_name (i := 2) sc__law_deck.nd rfl (Or.inl rfl))
      (pss_one (ps_set (i := 1) sc__law_deck.nd rfl (.inl rfl) (pe_op op_mod (pe_callTy call_int1 (by rfl) B.n_int (by decide +kernel) (pa_cons (pe_op op_add (pe_op op_add (pe_op op_mul (pv 1) pe_int) (pe_op op_mod (pe_callTy call_int1 (by rfl) B.n_int (by decide +kernel) (pa_cons (pv 2) pa_nil)) pe_int)) pe_int) pa_nil)) pe_int))))
      (pss_one (ps_ret (pe_disp (pps_cons pe_str (pe_revL (pe_lc (own := [("_law_cell", 2)]) rfl sc__law_deck.nd (pi_list (pe_slice sl_list (pv 0) po_none (po_some pe_int))) (blkOk_by (N := N__law_deck) (sc := defScope s__law_deck) (by decide +kernel)) (fun _ _ _ _ _ => (pg_name (i := 2) sc__law_deck.nd rfl (Or.inl rfl))) (fun _ _ _ _ _ => pts_nil) (fun _ _ _ _ _ => (pe_callTy call_int1 (by rfl) B.n_int (by decide +kernel) (pa_cons (pv 2) pa_nil))))) (pps_cons pe_str (pv 1) (pps_cons pe_str pe_int pps_nil))) (by rfl) (by rfl) (fun z => by cases z) (by decide)))))), ?_⟩
    have c63 := cutV63 hlen
    -- the mixed number
    refine ⟨_, rfl, 63, rfl, a, _, rfl, hS, fun u hu => ?_⟩
    rw [c63]
    refine ⟨u, rfl, ⟨_, SqL.of upd_same⟩, ?_⟩
    refine for_list (K := K) (a := u) (xs := ns.map V.int) (fun i σ H2 => ∃ (m : Int) (x : Option V), σ = [some (.ref a), some (.int m), x] ∧ Same H H2 ∧ H2 u = some (.lst (ns.map V.int))) ⟨_, none, rfl, same_new hu, upd_same⟩ (fun i σ H2 _ z => ?_) ?_ ?_
    · obtain ⟨_, _, _, _, e⟩ := z
      exact SqL.of e
    · rintro i x σ H2 hx ⟨m, y, rfl, sm, e⟩
      obtain ⟨z, _, rfl⟩ := int_at hx
      refine ⟨_, rfl, _, _, rfl, rfl, .inr ⟨by decide, by decide⟩, ?_⟩
      refine ⟨_, rfl, .inl ⟨z, rfl, _, _, rfl, rfl, (by show (0 : Int) < 2147483353; decide), _, _, rfl, rfl, _, _, rfl, rfl, .inl ⟨_, rfl, _, _, rfl, rfl, (by show (0 : Int) < 2147483587; decide), ?_⟩⟩⟩
      exact ⟨_, _, rfl, sm, e⟩
    · rintro σ H2 ⟨m, x, rfl, sm, e⟩
      -- the dict
      intro p hp
      have nHp : H p = none := sm.free hp
      have sm2 : Same H (upd H2 p (.dK [])) := sm.trans (same_new hp)
      refine ⟨_, rfl, 63, rfl, a, _, rfl, sm2.seq hS, fun v hv => ?_⟩
      rw [c63]
      have npv : p ≠ v := fun z => by rw [← z, upd_same] at hv; cases hv
      refine ⟨v, rfl, ⟨_, SqL.of upd_same⟩, fun D hD => ?_⟩
      have hvp : v ≠ D := fun z => by rw [← z, upd_same] at hD; cases hD
      have hD' : H D = none := (sm2.trans (same_new hv)).free hD
      have hpD : p ≠ D := fun z => by rw [← z, upd_ne npv, upd_same] at hD; cases hD
      refine lc_all (walk_list (K := K) (a := v) (xs := ns.map V.int)) (fun H' => Same H H' ∧ H' p = some (.dK []) ∧ H' v = some (.lst (ns.map V.int))) (fun i y => ∃ z, ns[i]? = some z ∧ y = .int z) (by rw [List.length_map]; omega) ⟨sm2.trans (same_new hv), by rw [upd_ne npv, upd_same], upd_same⟩ ?_ ?_ ?_ ?_
      · rintro H' o ⟨r1, r2, r3⟩
        exact ⟨fun b o' e => by rw [upd_ne (ne_of_none e hD')]; exact r1 b o' e, by rw [upd_ne hpD]; exact r2, by rw [upd_ne hvp]; exact r3⟩
      · rintro H' ⟨_, _, r3⟩
        exact SqL.of r3
      · rintro i x H1 H2' xs k hi r hxs ⟨rfl, hx⟩ hk
        obtain ⟨z, hz, rfl⟩ := int_at hx
        refine ⟨rfl, _, rfl, .inl ⟨z, rfl, hk _ _ ⟨z, hz, rfl⟩ r hxs⟩⟩
      · rintro H3 xs hl hv' ⟨r1, r2, r3⟩ hxs
        have hxe := ints_all (by rw [hl, List.length_map]) hv'
        refine ⟨D, xs, rfl, SqL.of hxs, fun R hR => ?_⟩
        have hRp : p ≠ R := ne_of_none r2 hR
        refine ⟨_, rfl, ?_⟩
        refine ⟨by rw [upd_ne hRp]; exact r2, dkL R m 0, rfl, by show 3 ≤ 15; decide, ?_⟩
        rw [merge_d]
        have nR : H R = none := r1.free hR
        refine q p R _ nHp nR (fun b o e => ?_) ⟨m, 0, ns.reverse, upd_same, ?_, by rw [List.length_reverse]; exact hlen⟩
        · rw [upd_ne (ne_of_none e nHp), upd_ne (ne_of_none e nR)]
          exact r1 b o e
        · rw [upd_ne hRp.symm, upd_same, hxe, List.map_reverse]
end
end Ag

end
/-! ## L2 -/
section
set_option linter.all false
set_option maxRecDepth 100000
namespace Ag
open PySem PySem.Spec PyProof.Rows L2
open SX (S S_len S_cat S_inj)
theorem dget {H : Hp} {a : Addr} {kvs : List (Key × V)} {k : Key} {v : V} (e : H a = some (.dK kvs)) (h : valV kvs k = some v) : DGet H a (kV k) (some v) := h ▸ DGet.k e
theorem dpInts {K : PySem.W.Frag} {H : Hp} : ∀ cs : List Int, DpAll K H (cs.map V.int) (cs.map PyData.int)
  | [] => .nil
  | c :: cs => .cons (.int c) (dpInts cs)
theorem lay_ints : ∀ cs : List Int, PyData.canLayAll0 (cs.map PyData.int) = true
  | [] => by simp [PyData.canLayAll0]
  | c :: cs => by simp [PyData.canLayAll0, PyData.canLay0, lay_ints cs]
theorem depth_ints : ∀ cs : List Int, PyData.depthAll (cs.map PyData.int) = 0
  | [] => by simp [PyData.depthAll]
  | c :: cs => by simp [PyData.depthAll, PyData.depth, depth_ints cs]
theorem shaped_ints (cs : List Int) : SeqAt.shaped (.list (cs.map PyData.int)) = true := by
  simp [SeqAt.shaped, PyData.canLay0, PyData.depth, lay_ints, depth_ints]
theorem ne_nil_ints (cs : List Int) : (!PyData.eqv (.list (cs.map PyData.int)) (.list [])) = decide (cs ≠ []) := by
  cases cs <;> simp [PyData.eqv, PyData.eqvAll]
section
variable {P : Program} {w : World} {K : PySem.W.Frag} {mg : Str → Option Value} {base : Heap} {tm tn tb : Tok}
def spDraw : Sp := fun vs H Q _ => ∃ (p c : Addr) (n : Int), vs = [.ref p, .int n] ∧ Dk p c H ∧ 1 ≤ n ∧ n ≤ 1000000 ∧ ∀ (r : Nat) H', (r : Int) < n → Gx p c H H' → Q (.int (r : Int)) H'
theorem nat_mod {x n : Int} (h : 1 ≤ n) : ∃ r : Nat, x % n = (r : Int) ∧ (r : Int) < n := by
  refine ⟨(x % n).toNat, ?_, ?_⟩
  · have := Int.emod_nonneg x (by omega : n ≠ 0)
    omega
  · have h1 := Int.emod_nonneg x (by omega : n ≠ 0)
    have h2 := Int.emod_lt_of_pos x (by omega : 0 < n)
    omega
theorem ok_draw {f : Addr} {fd : FuncData} (F : Fn K mg "_law_draw" s__law_draw ["_law_deck_here", "_law_below"] f fd) (B : Blt mg) : FnOk P w K mg base CX0 1 f fd ["_law_deck_here", "_law_below"] spDraw := by
  refine F.F.ok sc__law_draw (fun vs H Q E h => ?_) (fun cdv A outer s H vs Q E hr h => ?_)
  · obtain ⟨p, c, n, rfl, _⟩ := h
    rfl
  · obtain ⟨p, c, n, rfl, dk, n1, n2, q⟩ := h
    have hu := hu_of hr
    refine ⟨_, (pss_cons (ps_dput hu (pv 0) pe_str (pe_op op_add (pe_dget hu (pv 0) pe_str (fun _ _ => rfl)) pe_int) rfl)
      (pss_cons (ps_set (i := 2) sc__law_draw.nd rfl (.inl rfl) (pe_op op_add (pe_dget hu (pv 0) pe_str (fun _ _ => rfl)) (pe_op op_mul pe_int (pe_dget hu (pv 0) pe_str (fun _ _ => rfl)))))
      (C8.pss_cut (ps_if (pt_cmpR (op_neD hr.units) (pe_dget hu (pv 0) pe_str (fun _ _ => rfl)) (pe_lst pa_nil) (nomark _))
      (pss_cons (ps_set (i := 3) sc__law_draw.nd rfl (.inl rfl) (pe_bm0 PySem.F.plainAttrs_list PySem.F.slot_list_pop PySem.F.type_list_pop mt_pop (pe_dget hu (pv 0) pe_str (fun _ _ => rfl))))
        (pss_cons (ps_if (pt_cmpR op_ge (pv 3) (pe_op op_pow pe_int pe_int) (nomark _))
        (pss_cons (ps_expr (pe_bm PySem.F.plainAttrs_list PySem.F.slot_list_append PySem.F.type_list_append mt_append (pe_dget hu (pv 0) pe_str (fun _ _ => rfl)) (pa_cons (pe_op op_fdiv (pv 3) (pe_callB (call_max2 rfl) (by rfl) B.n_max (by decide +kernel) (pa_cons pe_int (pa_cons (pv 1) pa_nil)))) pa_nil)))
          (pss_one (ps_ret (pe_op op_mod (pe_callTy call_int1 (by rfl) B.n_int (by decide +kernel) (pa_cons (pv 3) pa_nil)) (pv 1)))))
        pss_nil)
        (pss_one (ps_set (i := 2) sc__law_draw.nd rfl (.inl rfl) (pe_op op_add (pv 2) (pe_op op_mod (pe_callTy call_int1 (by rfl) B.n_int (by decide +kernel) (pa_cons (pv 3) pa_nil)) pe_int))))))
      pss_nil)
      (pss_cons (ps_set (i := 2) sc__law_draw.nd rfl (.inl rfl) (pe_op op_mod (pe_callTy call_int1 (by rfl) B.n_int (by decide +kernel) (pa_cons (pe_op op_add (pe_op op_mul (pv 2) pe_int) pe_int) pa_nil)) pe_int))
      (pss_cons (ps_set (i := 2) sc__law_draw.nd rfl (.inl rfl) (pe_op op_mod (pe_callTy call_int1 (by rfl) B.n_int (by decide +kernel) (pa_cons (pe_op op_add (pe_op op_add (pe_op op_mul (pv 2) (pv 2)) (pe_op op_mul pe_int (pe_dget hu (pv 0) pe_str (fun _ _ => rfl)))) pe_int) pa_nil)) pe_int))
      (pss_cons (ps_set (i := 2) sc__law_draw.nd rfl (.inl rfl) (pe_op op_mod (pe_callTy call_int1 (by rfl) B.n_int (by decide +kernel) (pa_cons (pe_op op_mul (pv 2) pe_int) pa_nil)) pe_int))
      (pss_one (ps_ret (pe_op op_mod (pe_callTy call_int1 (by rfl) B.n_int (by decide +kernel) (pa_cons (pe_op op_fdiv (pv 2) pe_int) pa_nil)) (pv 1)))))))))), ?_⟩
    obtain ⟨m, t, cs, h1, h2, h3⟩ := id dk
    have fin : ∀ (x : Int) (H2 : Hp), Gx p c H H2 → Q (.int (x % n)) H2 := by
      intro x H2 g
      obtain ⟨r, er, hr'⟩ := nat_mod (x := x) n1
      rw [er]
      exact q r H2 hr' g
    have npc : p ≠ c := ne_of h1 h2 (by intro z; cases z)
    -- turn
    refine ⟨_, rfl, p, _, rfl, dget (k := kT) h1 v_T, _, _, rfl, rfl, _, rfl, p, _, rfl, DPut.k (k := kT) h1 (by rw [sizeLine_eq]; show 3 < _; decide), ?_⟩
    rw [put_T]
    have g1 : Gx p c H (upd H p (.dK (dkL c m (t + 1)))) := ⟨fun b o b1 _ e => by rw [upd_ne b1]; exact e, ⟨m, t + 1, cs, upd_same, by rw [upd_ne npc.symm]; exact h2, h3⟩⟩
    generalize upd H p (.dK (dkL c m (t + 1))) = H1 at g1
    obtain ⟨m1, t1, cs1, k1, k2, k3⟩ := g1.2
    -- the figure
    refine ⟨_, rfl, p, _, rfl, dget (k := kM) k1 v_M, _, rfl, p, _, rfl, dget (k := kT) k1 v_T, _, _, rfl, rfl, .inl ⟨by decide, by decide⟩, _, _, rfl, rfl, ?_⟩
    refine ⟨fun σ H' => ∃ (fig : Int) (x3 : Option V), σ = [some (.ref p), some (.int n), some (.int fig), x3] ∧ Gx p c H H', ?_, ?_⟩
    · refine ⟨_, rfl, p, _, rfl, dget (k := kC) k1 v_C, Nat.zero_le _, fun z hz => ?_⟩
      have dk1 : Dk p c H1 := g1.2
      have nz := dk1.ne hz
      have k1' : upd H1 z (.lst []) p = some (.dK (dkL c m1 t1)) := by rw [upd_ne nz.1.symm]; exact k1
      have k2' : upd H1 z (.lst []) c = some (.lst (cs1.map V.int)) := by rw [upd_ne nz.2.symm]; exact k2
      have g2 : Gx p c H (upd H1 z (.lst [])) := g1.trans (Gx.new dk1 hz)
      refine ⟨.list (cs1.map .int), .list [], .lst (SqL.of k2') (dpInts cs1), .lst (SqL.of upd_same) .nil, shaped_ints cs1, shaped_ints [], _, rfl, ?_⟩
      rw [ne_nil_ints]
      refine ite2 (fun h => ?_) (fun h => ?_)
      · have hne : cs1 ≠ [] := of_decide_eq_true h
        obtain ⟨ini, cell, rfl⟩ : ∃ ini cell, cs1 = ini ++ [cell] := ⟨_, _, (List.dropLast_concat_getLast hne).symm⟩
        refine ⟨_, rfl, p, _, rfl, dget (k := kC) k1' v_C, .inl ⟨rfl, _, SqL.of k2'⟩, c, _, .int cell, rfl, rfl, k2', by simp, ?_⟩
        have ed : ((ini ++ [cell]).map V.int).dropLast = ini.map V.int := by simp
        rw [ed]
        rw [List.length_append, List.length_singleton] at k3
        have k1'' : upd (upd H1 z (.lst [])) c (.lst (ini.map V.int)) p = some (.dK (dkL c m1 t1)) := by rw [upd_ne npc]; exact k1'
        have putc : ∀ (xs : List Int) (H2 : Hp), (∀ b, b ≠ c → H2 b = upd H1 z (.lst []) b) → xs.length ≤ 63 → Gx p c H (upd H2 c (.lst (xs.map V.int))) := by
          intro xs H2 hb hx
          refine ⟨fun b o b1 b2 e => ?_, ⟨m1, t1, xs, ?_, upd_same, hx⟩⟩
          · rw [upd_ne b2, hb b b2]
            exact g2.1 b o b1 b2 e
          · rw [upd_ne npc, hb p npc]
            exact k1'
        refine ⟨_, rfl, _, _, rfl, rfl, ⟨by decide, by decide, by decide⟩, _, _, rfl, rfl, _, rfl, ?_⟩
        refine ite2 (fun h => ?_) (fun h => ?_)
        · refine ⟨_, rfl, p, _, rfl, dget (k := kC) k1'' v_C, .inl ⟨rfl, _, SqL.of upd_same⟩, _, rfl, _, rfl, 2, n, rfl, _, _, rfl, rfl, ?_, c, _, _, rfl, rfl, upd_same, ?_, ?_⟩
          · show (0 : Int) < (if n > 2 then n else 2) ∧ (if n > 2 then n else 2) < 1073741824
            split <;> omega
          · rw [List.length_map, sizeLine_eq]; omega
          refine ⟨_, rfl, .inl ⟨_, rfl, _, rfl, _, _, rfl, rfl, (by show (0 : Int) < n; omega), ?_⟩⟩
          refine fin cell _ ?_
          have e2 : ini.map V.int ++ [V.int (cell / (if n > 2 then n else 2))] = (ini ++ [cell / (if n > 2 then n else 2)]).map V.int := by simp
          show Gx p c H (upd _ c (.lst (ini.map V.int ++ [V.int (cell / (if n > 2 then n else 2))])))
          rw [e2]
          exact putc _ _ (fun b hb => by rw [upd_ne hb]) (by simp; omega)
        · refine ⟨_, rfl, _, rfl, .inl ⟨_, rfl, _, _, rfl, rfl, (by show (0 : Int) < 2147483353; decide), _, _, rfl, rfl, _, _, rfl, putc _ _ (fun b hb => rfl) (by omega)⟩⟩
      · exact ⟨_, _, rfl, g2⟩
    · rintro σ H2 ⟨fig, x3, rfl, g2⟩
      obtain ⟨m2, t2, cs2, j1, j2, j3⟩ := g2.2
      refine ⟨_, rfl, _, _, rfl, rfl, .inr ⟨by decide, by decide⟩, _, _, rfl, rfl, .inl ⟨_, rfl, _, _, rfl, rfl, (by show (0 : Int) < 2147483399; decide), ?_⟩⟩
      have b1 := Int.emod_nonneg (fig * 48271 + 83) (by decide : (2147483399 : Int) ≠ 0)
      have b2 := Int.emod_lt_of_pos (fig * 48271 + 83) (by decide : (0 : Int) < 2147483399)
      generalize (fig * 48271 + 83) % 2147483399 = f1 at b1 b2
      refine ⟨_, rfl, _, rfl, _, _, rfl, rfl, .inl ⟨by omega, by omega⟩, _, rfl, p, _, rfl, dget (k := kT) j1 v_T, _, _, rfl, rfl, .inl ⟨by decide, by decide⟩, _, _, rfl, rfl, _, _, rfl, rfl, .inl ⟨_, rfl, _, _, rfl, rfl, (by show (0 : Int) < 2147483587; decide), ?_⟩⟩
      refine ⟨_, rfl, _, _, rfl, rfl, .inr ⟨by decide, by decide⟩, .inl ⟨_, rfl, _, _, rfl, rfl, (by show (0 : Int) < 2147483323; decide), ?_⟩⟩
      refine ⟨_, rfl, _, _, rfl, rfl, ⟨by decide, by decide⟩, .inl ⟨_, rfl, _, rfl, _, _, rfl, rfl, (by show (0 : Int) < n; omega), ?_⟩⟩
      exact fin _ H2 g2
/-- _law_pick: any item of a list that the deck is not, any sign of a text -/
def spPick : Sp := fun vs H Q _ => ∃ (p c : Addr) (v : V), vs = [.ref p, v] ∧ Dk p c H ∧
  ((∃ (a : Addr) (xs : List V), v = .ref a ∧ At p c H a (.lst xs) ∧ 1 ≤ xs.length ∧ xs.length ≤ 100000 ∧ ∀ (r : Nat) x H', xs[r]? = some x → Gx p c H H' → Q x H') ∨
   ∃ z : List Nat, v = .str (S z) ∧ 1 ≤ z.length ∧ z.length ≤ 1000 ∧ ∀ (r : Nat) d H', z[r]? = some d → Gx p c H H' → Q (.str (S [d])) H')
theorem ok_pick {f f1 : Addr} {fd fd1 : FuncData} (F : Fn K mg "_law_pick" s__law_pick ["_law_deck_here", "_law_some"] f fd) (B : Blt mg) (F__law_draw : Fn K mg "_law_draw" s__law_draw ["_law_deck_here", "_law_below"] f1 fd1) :
    FnOk P w K mg base CX0 2 f fd ["_law_deck_here", "_law_some"] spPick := by
  have G__law_draw : FnOk P w K mg base CX0 1 f1 fd1 ["_law_deck_here", "_law_below"] spDraw := ok_draw F__law_draw B
  refine F.F.ok sc__law_pick (fun vs H Q E h => ?_) (fun cdv A outer s H vs Q E hr h => ?_)
  · obtain ⟨p, c, v, rfl, _⟩ := h
    rfl
  · obtain ⟨p, c, v, rfl, dk, h⟩ := h
    refine ⟨_, (pss_one (ps_ret (pe_ix ix_seq (pv 1) (pe_call G__law_draw (hr.mono (by decide)) (by rfl) F__law_draw.g F__law_draw.F.kp F__law_draw.b .nil pass0 (pa_cons (pv 0) (pa_cons (pe_callB call_len (by rfl) B.n_len PySem.boot_len (pa_cons (pv 1) pa_nil)) pa_nil))) (fun _ _ => rfl)))), ?_⟩
    rcases h with ⟨a, xs, rfl, ha, hl1, hl2, q⟩ | ⟨z, rfl, hl1, hl2, q⟩
    · refine ⟨_, rfl, _, rfl, _, rfl, .ref a, xs.length, rfl, .inl ⟨xs, SqL.of ha.2.2, rfl⟩, p, c, _, rfl, dk, by omega, by omega, fun r H' hr' g => ?_⟩
      have hlt : r < xs.length := by omega
      exact .inl ⟨a, xs, _, _, rfl, rfl, SqL.of (ha.gx g).2.2, atI_nat (List.getElem?_eq_getElem hlt), q r _ H' (List.getElem?_eq_getElem hlt) g⟩
    · refine ⟨_, rfl, _, rfl, _, rfl, .str (S z), z.length, rfl, ⟨sz (by rw [S_len]; omega), by rw [S_len]⟩, p, c, _, rfl, dk, by omega, by omega, fun r H' hr' g => ?_⟩
      have hlt : r < z.length := by omega
      have hz : (S z).cps.toList[r]? = some z[r] := List.getElem?_eq_getElem hlt
      exact .inr (.inr ⟨S z, _, _, rfl, rfl, sz (by rw [S_len]; omega), atI_nat hz, q r _ H' (List.getElem?_eq_getElem hlt) g⟩)
def signs : List Nat := 32 :: 33 :: 34 :: 35 :: 36 :: (List.range 89).map (· + 38)
theorem signs_eq : (Str.ofString " !\"#$&'()*+,-./0123456789:;<=>?@ABCDEFGHIJKLMNOPQRSTUVWXYZ[\\]^_`abcdefghijklmnopqrstuvwxyz{|}~") = S signs := by decide +kernel
theorem signs_plain : plainL signs = true := by decide +kernel
theorem signs_len : signs.length = 94 := by decide +kernel
def spSigns : Sp := fun vs H Q _ => vs = [] ∧ Q (.str (S signs)) H
theorem ok_signs {f : Addr} {fd : FuncData} (F : Fn K mg "_law_signs" s__law_signs [] f fd) : FnOk P w K mg base CX0 1 f fd [] spSigns := by
  refine F.F.ok sc__law_signs (fun vs H Q E h => ?_) (fun cdv A outer s H vs Q E hr h => ?_)
  · obtain ⟨rfl, _⟩ := h
    rfl
  · obtain ⟨rfl, q⟩ := h
    refine ⟨_, (pss_one (ps_ret pe_str)), ?_⟩
    rw [← signs_eq] at q
    exact q
end
end Ag

end
/-! ## L3 -/
section
set_option linter.all false
set_option maxRecDepth 100000
namespace Ag
open PySem PySem.Spec PyProof.Rows L2
open SX (S S_len S_cat S_inj)
theorem strs_of {P : List Nat → Prop} : ∀ {xs : List V}, (∀ (i : Nat) y, xs[i]? = some y → ∃ z, P z ∧ y = V.str (S z)) → ∃ zs : List (List Nat), xs = (zs.map S).map V.str ∧ ∀ z ∈ zs, P z
  | [], _ => ⟨[], rfl, fun _ h => by cases h⟩
  | x :: xs, h => by
    obtain ⟨z, hz, rfl⟩ := h 0 x rfl
    obtain ⟨zs, rfl, hp⟩ := strs_of (xs := xs) fun i y hy => h (i + 1) y (by simpa using hy)
    refine ⟨z :: zs, rfl, fun u hu => ?_⟩
    rcases List.mem_cons.mp hu with rfl | hu
    · exact hz
    · exact hp u hu
theorem joinL_nil : ∀ zs : List (List Nat), TL.joinL [] zs = zs.flatten
  | [] => rfl
  | [p] => by simp [TL.joinL]
  | p :: q :: r => by
    show p ++ ([] ++ TL.joinL [] (q :: r)) = _
    rw [joinL_nil (q :: r)]
    simp
theorem plain_flat {zs : List (List Nat)} (h : ∀ z ∈ zs, plainL z = true) : plainL zs.flatten = true := by
  unfold plainL at *
  rw [List.all_flatten, List.all_eq_true]
  exact h
theorem plain_take {l : List Nat} (n : Nat) (h : plainL l = true) : plainL (l.take n) = true := by
  unfold plainL at *
  rw [List.all_eq_true] at *
  exact fun c hc => h c (List.mem_of_mem_take hc)
theorem plain_rep {l : List Nat} (n : Nat) (h : plainL l = true) : plainL (List.replicate n l).flatten = true :=
  plain_flat fun z hz => by rw [(List.mem_replicate.mp hz).2]; exact h
theorem signs_at {k : Nat} (h : k < 94) : ∃ d, signs[k]? = some d ∧ plainC d = true := by
  have hl : k < signs.length := by rw [signs_len]; exact h
  refine ⟨signs[k], List.getElem?_eq_getElem hl, ?_⟩
  have := signs_plain
  unfold plainL at this
  rw [List.all_eq_true] at this
  exact this _ (List.getElem_mem hl)
theorem emptyS : (Str.ofString "") = S [] := by decide +kernel
theorem len_sum {zs : List (List Nat)} : ((zs.map S).map (·.length)).sum = zs.flatten.length := by
  rw [SX.lens, List.length_flatten]
theorem flat_le {zs : List (List Nat)} {k : Nat} (h : ∀ z ∈ zs, z.length ≤ k) : zs.flatten.length ≤ zs.length * k := by
  induction zs with
  | nil => simp
  | cons z zs ih =>
    have h1 := h z List.mem_cons_self
    have h2 := ih fun u hu => h u (List.mem_cons_of_mem _ hu)
    simp only [List.flatten_cons, List.length_append, List.length_cons, Nat.add_mul, Nat.one_mul]
    omega
section
variable {P : Program} {w : World} {K : PySem.W.Frag} {mg : Str → Option Value} {base : Heap} {tm tn tb : Tok}
def spText : Sp := fun vs H Q _ => ∃ (p c : Addr) (n : Nat), vs = [.ref p, .int (n : Int)] ∧ Dk p c H ∧ n ≤ 200 ∧ ∀ (l : List Nat) H', plainL l = true → l.length ≤ n → Gx p c H H' → Q (.str (S l)) H'
theorem ok_text {f f1 f2 f3 : Addr} {fd fd1 fd2 fd3 : FuncData} (F : Fn K mg "_law_text" s__law_text ["_law_deck_here", "_law_size"] f fd) (B : Blt mg) (F__law_draw : Fn K mg "_law_draw" s__law_draw ["_law_deck_here", "_law_below"] f1 fd1)
    (G__law_draw : FnOk P w K mg base CX0 1 f1 fd1 ["_law_deck_here", "_law_below"] spDraw) (F__law_pick : Fn K mg "_law_pick" s__law_pick ["_law_deck_here", "_law_some"] f2 fd2) (G__law_pick : FnOk P w K mg base CX0 2 f2 fd2 ["_law_deck_here", "_law_some"] spPick)
    (F__law_signs : Fn K mg "_law_signs" s__law_signs [] f3 fd3) : FnOk P w K mg base CX0 3 f fd ["_law_deck_here", "_law_size"] spText := by
  have G__law_signs : FnOk P w K mg base CX0 1 f3 fd3 [] spSigns := ok_signs F__law_signs
  refine F.F.ok sc__law_text (fun vs H Q E h => ?_) (fun cdv A outer s H vs Q E hr h => ?_)
  · obtain ⟨p, c, n, rfl, _⟩ := h
    rfl
  · obtain ⟨p, c, n, rfl, dk, hn, q⟩ := h
    refine ⟨_, (pss_cons (ps_asg (pe_tup (pa_cons (pe_call G__law_draw (hr.mono (by decide)) (by rfl) F__law_draw.g F__law_draw.F.kp F__law_draw.b .nil pass0 (pa_cons (pv 0) (pa_cons pe_int pa_nil))) (pa_cons (pe_call0 G__law_signs (hr.mono (by decide)) (by rfl) F__law_signs.g F__law_signs.F.kp F__law_signs.b .nil pass0) pa_nil))) (pg_tup rfl (pgs_cons (pg_name (i := 2) sc__law_text.nd rfl (Or.inl rfl)) (pgs_cons (pg_name (i := 3) sc__law_text.nd rfl (Or.inr rfl)) pgs_nil))))
      (pss_cons (ps_asg (pe_tup (pa_cons (pe_call G__law_draw (hr.mono (by decide)) (by rfl) F__law_draw.g F__law_draw.F.kp F__law_draw.b .nil pass0 (pa_cons (pv 0) (pa_cons pe_int pa_nil))) (pa_cons (pe_call G__law_draw (hr.mono (by decide)) (by rfl) F__law_draw.g F__law_draw.F.kp F__law_draw.b .nil pass0 (pa_cons (pv 0) (pa_cons pe_int pa_nil))) pa_nil))) (pg_tup rfl (pgs_cons (pg_name (i := 4) sc__law_text.nd rfl (Or.inr rfl)) (pgs_cons (pg_name (i := 5) sc__law_text.nd rfl (Or.inr rfl)) pgs_nil))))
      (pss_cons (ps_if (pt_cmpR op_eq (pv 2) pe_int (nomark _))
      (pss_one (ps_ret (pe_op op_rep_str (pe_ix ix_str (pv 3) (pv 4) (fun _ _ => rfl)) (pv 1))))
      pss_nil)
      (pss_cons (ps_if (pt_cmpR op_eq (pv 2) pe_int (nomark _))
      (pss_one (ps_ret (pe_join pe_str (pe_lc (own := [("_law_at", 9)]) rfl sc__law_text.nd (pi_range1 (by rfl) B.n_range (pa_cons (pv 1) pa_nil)) (blkOk_by (N := N__law_text) (sc := defScope s__law_text) (by decide +kernel)) (fun _ _ _ _ _ => (pg_name (i := 9) sc__law_text.nd rfl (Or.inl rfl))) (fun _ _ _ _ _ => pts_nil) (fun _ _ _ _ _ => (pe_ix ix_str (pv 3) (pe_op op_mod (pe_callTy call_int1 (by rfl) B.n_int (by decide +kernel) (pa_cons (pe_op op_add (pv 4) (pe_op op_mul (pv 5) (pv 9))) pa_nil)) pe_int) (fun _ _ => rfl)))))))
      pss_nil)
      (pss_cons (ps_set (i := 6) sc__law_text.nd rfl (.inr rfl) (pe_lst (pa_cons pe_str (pa_cons pe_str (pa_cons pe_str (pa_cons pe_str (pa_cons pe_str (pa_cons pe_str (pa_cons pe_str (pa_cons pe_str (pa_cons pe_str (pa_cons pe_str (pa_cons pe_str (pa_cons pe_str (pa_cons pe_str pa_nil)))))))))))))))
      (pss_cons (ps_set (i := 7) sc__law_text.nd rfl (.inl rfl) (pe_join pe_str (pe_lc (own := [("_law_turn", 8)]) rfl sc__law_text.nd (pi_range1 (by rfl) B.n_range (pa_cons (pe_op op_add pe_int (pe_call G__law_draw (hr.mono (by decide)) (by rfl) F__law_draw.g F__law_draw.F.kp F__law_draw.b .nil pass0 (pa_cons (pv 0) (pa_cons pe_int pa_nil)))) pa_nil)) (blkOk_by (N := N__law_text) (sc := defScope s__law_text) (by decide +kernel)) (fun _ _ _ _ _ => (pg_name (i := 8) sc__law_text.nd rfl (Or.inl rfl))) (fun _ _ _ _ _ => pts_nil) (fun _ _ _ _ _ => (pe_call G__law_pick (hr.mono (by decide)) (by rfl) F__law_pick.g F__law_pick.F.kp F__law_pick.b .nil pass0 (pa_cons (pv 0) (pa_cons (pv 6) pa_nil)))))))
      (pss_one (ps_ret (pe_slice sl_str (pe_op op_rep_str (pv 7) (pe_op op_add (pe_op op_fdiv (pv 1) (pe_callB call_len_str (by rfl) B.n_len PySem.boot_len (pa_cons (pv 7) pa_nil))) pe_int)) po_none (po_some (pv 1))))))))))), ?_⟩
    have s2 : 2 ≤ sizeLine := sz (by decide)
    -- way, signs
    refine ⟨_, rfl, p, c, 4, rfl, dk, by decide, by decide, fun way H1 hway g1 => ?_⟩
    refine ⟨rfl, s2, fun t1 ht1 => ⟨t1, _, rfl, SqT.of upd_same, rfl, _, _, rfl, _, _, rfl, rfl, ?_⟩⟩
    have g2 := g1.trans (Gx.new (o := .tup [.int (way : Int), .str (S signs)]) g1.2 ht1)
    generalize upd H1 t1 _ = H2 at g2
    -- first, step
    refine ⟨_, rfl, p, c, 94, rfl, g2.2, by decide, by decide, fun first H3 hfirst g3 => ?_⟩
    refine ⟨_, rfl, p, c, 94, rfl, g3.2, by decide, by decide, fun step H4 hstep g4 => ?_⟩
    refine ⟨s2, fun t2 ht2 => ⟨t2, _, rfl, SqT.of upd_same, rfl, _, _, rfl, _, _, rfl, rfl, ?_⟩⟩
    have g5 := ((g2.trans g3).trans g4).trans (Gx.new (o := .tup [.int (first : Int), .int (step : Int)]) g4.2 ht2)
    generalize upd H4 t2 _ = H5 at g5
    -- way == 0
    refine ⟨_, rfl, rfl, _, rfl, ?_⟩
    refine ite2 (fun _ => ?_) (fun _ => ?_)
    · obtain ⟨d, hd, hp⟩ := signs_at (k := first) (by omega)
      refine ⟨_, rfl, _, rfl, S signs, _, d, rfl, rfl, sz (by rw [S_len, signs_len]; decide), atI_nat hd, ?_⟩
      refine ⟨_, rfl, [d], n, rfl, rfl, by simp; omega, by omega, by simp, ?_⟩
      refine q _ _ (plain_rep n (by simpa [plainL] using hp)) ?_ g5
      rw [List.length_flatten]
      simp
    refine ⟨_, rfl, rfl, _, rfl, ?_⟩
    refine ite2 (fun _ => ?_) (fun _ => ?_)
    · -- characters in steps
      refine ⟨⟨_, rfl⟩, _, rfl, _, rfl, by omega, by omega, fun D hD => ?_⟩
      have nD := g5.2.ne hD
      have hD0 := g5.free dk hD
      have hnn : ((n : Int)).toNat = n := by simp
      refine lc_all (walk_range (lo := 0) (n := ((n : Int)).toNat)) (fun H' => Gx p c H H') (fun _ y => ∃ z, (plainL z = true ∧ z.length ≤ 1) ∧ y = .str (S z)) (by rw [hnn]; omega) g5 (fun H' o g => g.put dk hD0 nD) (fun _ _ => trivial) ?_ ?_
      · rintro i x Ha Hb xs k hi g hxs ⟨rfl, rfl⟩ hk
        have hx : (first : Int) + (step : Int) * (0 + (i : Int)) = ((first + step * i : Nat) : Int) := by push_cast; rw [Int.zero_add]
        refine ⟨rfl, _, rfl, _, rfl, _, rfl, _, rfl, _, _, rfl, rfl, .inl ⟨by omega, by omega⟩, _, _, rfl, rfl, .inl ⟨_, rfl, _, _, rfl, rfl, (by show (0 : Int) < 94; decide), ?_⟩⟩
        obtain ⟨d, hd, hp⟩ := signs_at (k := (first + step * i) % 94) (Nat.mod_lt _ (by decide))
        refine ⟨S signs, _, d, rfl, ?_, sz (by rw [S_len, signs_len]; decide), atI_nat (j := (first + step * i) % 94) hd, ?_⟩
        · show V.int (((first : Int) + (step : Int) * (0 + (i : Int))) % 94) = _
          rw [hx]
          rfl
        · exact hk _ _ ⟨[d], ⟨by simpa [plainL] using hp, by simp⟩, rfl⟩ g hxs
      · intro H' xs hl hv g hxs
        obtain ⟨zs, rfl, hz⟩ := strs_of (P := fun z => plainL z = true ∧ z.length ≤ 1) (fun i y hy => hv i y hy)
        have hzl : zs.length = n := by rw [← hnn, ← hl]; simp
        have hfl : zs.flatten.length ≤ n := by
          have := flat_le (k := 1) fun z hz' => (hz z hz').2
          omega
        refine ⟨_, D, zs.map S, rfl, rfl, .inl (SqL.of hxs), ?_, ?_⟩
        · rw [len_sum, emptyS, S_len, List.length_nil, Nat.mul_zero]
          omega
        · rw [emptyS, SX.join_S, joinL_nil]
          exact q _ _ (plain_flat fun z hz' => (hz z hz').1) hfl g
    -- like frames and messages
    refine ⟨sz (by show 13 ≤ 16000000; decide), fun a ha => ?_⟩
    have na := g5.2.ne ha
    have ha0 := g5.free dk ha
    have g6 := g5.trans (Gx.new (o := .lst [.str (Str.ofString "4:look,"), .str (Str.ofString "0:,"), .str (Str.ofString "12:ab"), .str (Str.ofString "ask 1 x"), .str (Str.ofString ","), .str (Str.ofString ":"), .str (Str.ofString "7"), .str (Str.ofString " "), .str (Str.ofString "forgot 1"), .str (Str.ofString "5:well!,"), .str (Str.ofString "answer 2 "), .str (Str.ofString "2"), .str (Str.ofString "1")]) g5.2 ha)
    have ha6 := At.new (o := .lst [.str (Str.ofString "4:look,"), .str (Str.ofString "0:,"), .str (Str.ofString "12:ab"), .str (Str.ofString "ask 1 x"), .str (Str.ofString ","), .str (Str.ofString ":"), .str (Str.ofString "7"), .str (Str.ofString " "), .str (Str.ofString "forgot 1"), .str (Str.ofString "5:well!,"), .str (Str.ofString "answer 2 "), .str (Str.ofString "2"), .str (Str.ofString "1")]) g5.2 ha
    generalize upd H5 a _ = H6 at g6 ha6
    have menu : ∀ (r : Nat) x, ([.str (Str.ofString "4:look,"), .str (Str.ofString "0:,"), .str (Str.ofString "12:ab"), .str (Str.ofString "ask 1 x"), .str (Str.ofString ","), .str (Str.ofString ":"), .str (Str.ofString "7"), .str (Str.ofString " "), .str (Str.ofString "forgot 1"), .str (Str.ofString "5:well!,"), .str (Str.ofString "answer 2 "), .str (Str.ofString "2"), .str (Str.ofString "1")] : List V)[r]? = some x →
        ∃ z, (plainL z = true ∧ 1 ≤ z.length ∧ z.length ≤ 9) ∧ x = .str (S z) := by
      intro r x hx
      have mem := List.mem_of_getElem? hx
      have key : ∀ t : Str, (plainL t.cps.toList && decide (1 ≤ t.cps.toList.length) && decide (t.cps.toList.length ≤ 9)) = true → x = .str t → ∃ z, (plainL z = true ∧ 1 ≤ z.length ∧ z.length ≤ 9) ∧ x = .str (S z) := by
        intro t ht e
        rw [Bool.and_eq_true, Bool.and_eq_true, decide_eq_true_eq, decide_eq_true_eq] at ht
        exact ⟨t.cps.toList, ⟨ht.1.1, ht.1.2, ht.2⟩, by rw [e, SX.S_tl]⟩
      simp only [List.mem_cons, List.not_mem_nil, or_false] at mem
      rcases mem with h | h | h | h | h | h | h | h | h | h | h | h | h <;> exact key _ (by decide +kernel) h
    -- the joined text
    refine ⟨⟨_, rfl⟩, _, rfl, p, c, 4, rfl, g6.2, by decide, by decide, fun m H7 hm g7 => ⟨_, _, rfl, rfl, _, rfl, by omega, by omega, fun D hD => ?_⟩⟩
    have g67 := g6.trans g7
    have ha7 := ha6.gx g7
    have nD := g67.2.ne hD
    have hD0 := g67.free dk hD
    have hDa : a ≠ D := ne_of_none ha7.2.2 hD
    have hmm : ((1 : Int) + (m : Int)).toNat = 1 + m := by omega
    refine lc_all (walk_range (lo := 0) (n := ((1 : Int) + (m : Int)).toNat)) (fun H' => Gx p c H H' ∧ At p c H' a _) (fun _ y => ∃ z, (plainL z = true ∧ 1 ≤ z.length ∧ z.length ≤ 9) ∧ y = .str (S z)) (by rw [hmm]; omega) ⟨g67, ha7⟩ (fun H' o r => ⟨r.1.put dk hD0 nD, r.2.1, r.2.2.1, by rw [upd_ne hDa]; exact r.2.2.2⟩) (fun _ _ => trivial) ?_ ?_
    · rintro i x Ha Hb xs k hi ⟨g, hat⟩ hxs ⟨rfl, rfl⟩ hk
      refine ⟨rfl, _, rfl, _, rfl, p, c, .ref a, rfl, g.2, .inl ⟨a, _, rfl, hat, (by show 1 ≤ 13; decide), (by show 13 ≤ 100000; decide), fun r x H8 hx g8 => ?_⟩⟩
      exact hk _ _ (menu r x hx) ⟨g.trans g8, hat.gx g8⟩ (g8.1 D _ nD.1 nD.2 hxs)
    · rintro H' xs hl hv ⟨g, hat⟩ hxs
      obtain ⟨zs, rfl, hz⟩ := strs_of (P := fun z => plainL z = true ∧ 1 ≤ z.length ∧ z.length ≤ 9) (fun i y hy => hv i y hy)
      have hzl : zs.length = 1 + m := by rw [← hmm, ← hl]; simp
      have hfl : zs.flatten.length ≤ 36 := by
        have := flat_le (k := 9) fun z hz' => (hz z hz').2.2
        omega
      have hf1 : 1 ≤ zs.flatten.length := by
        cases zs with
        | nil => simp at hzl; omega
        | cons z zs =>
          have := (hz z List.mem_cons_self).2.1
          simp
          omega
      refine ⟨_, D, zs.map S, rfl, rfl, .inl (SqL.of hxs), ?_, ?_⟩
      · rw [len_sum, emptyS, S_len, List.length_nil, Nat.mul_zero]
        omega
      · rw [emptyS, SX.join_S, joinL_nil]
        have hpl := plain_flat fun z hz' => (hz z hz').1
        generalize zs.flatten = u at hfl hf1 hpl
        -- (text * (size // len(text) + 1))[:size]
        refine ⟨_, rfl, _, rfl, _, rfl, S u, rfl, sz (by rw [S_len]; omega), _, _, rfl, rfl, ⟨by rw [S_len]; omega, by rw [S_len]; omega⟩, _, _, rfl, rfl, ?_⟩
        rw [S_len]
        have e : (n : Int) / (u.length : Int) + 1 = ((n / u.length + 1 : Nat) : Int) := by push_cast; rfl
        have hle : n / u.length ≤ n := Nat.div_le_self _ _
        have hb : u.length * (n / u.length + 1) ≤ 36 * 201 := Nat.mul_le_mul hfl (by omega)
        refine ⟨u, n / u.length + 1, rfl, congrArg V.int e, by omega, by omega, by omega, ?_⟩
        have hr2 : (List.replicate (n / u.length + 1) u).flatten.length ≤ 36 * 201 := by
          rw [List.length_flatten]
          simp
          rw [Nat.mul_comm]
          exact hb
        refine ⟨_, rfl, (n : Int), rfl, S _, rfl, sz (by rw [S_len]; omega), ?_⟩
        rw [cut_to]
        refine q _ _ (plain_take n (plain_rep _ hpl)) ?_ g
        rw [List.length_take]
        omega
end
end Ag

end
/-! ## LH -/
section
set_option linter.all false
set_option maxRecDepth 100000
namespace Ag
open PySem PySem.Spec PyProof.Rows L2
open SX (S S_len S_cat S_inj)
def tV : Option (List Nat) → V
  | none => .non
  | some t => .str (S t)
theorem lt_sign {c d : Nat} : decide ([c] < [d]) = decide (c < d) := by
  rw [Bool.eq_iff_iff, decide_eq_true_eq, decide_eq_true_eq, List.cons_lt_cons_iff]
  simp
theorem digitsS : (Str.ofString "0123456789").cps.toList = [48, 49, 50, 51, 52, 53, 54, 55, 56, 57] := by decide +kernel
theorem mem_digits {c : Nat} : decide (c ∈ (Str.ofString "0123456789").cps.toList) = digC c := by
  rw [digitsS, Bool.eq_iff_iff, decide_eq_true_eq]
  unfold digC
  simp
  omega
theorem zeroS : Str.ofString "0" = S [48] := by decide +kernel
theorem blankS : Str.ofString " " = S [32] := by decide +kernel
theorem tildeS : Str.ofString "~" = S [126] := by decide +kernel
theorem str_ne {a b : List Nat} {x : Str} (e : x = S b) : (!decide (V.str (S a) = V.str x)) = decide (a ≠ b) := by
  subst e
  rw [Bool.eq_iff_iff, decide_eq_true_eq, Bool.not_eq_true', decide_eq_false_iff_not]
  constructor
  · intro z w
    subst w
    exact z rfl
  · intro z w
    injection w with w
    exact z (S_inj w)
theorem str_eq {a b : List Nat} {x : Str} (e : x = S b) : decide (V.str (S a) = V.str x) = decide (a = b) := by
  subst e
  rw [Bool.eq_iff_iff, decide_eq_true_eq, decide_eq_true_eq]
  constructor
  · intro w
    injection w with w
    exact S_inj w
  · rintro rfl
    rfl
theorem one_eq {c b : Nat} : decide (([c] : List Nat) = [b]) = decide (c = b) := by simp
theorem Vd.slen {s : List Nat} {t : Option (List Nat)} (v : Vd s t) : s.length ≤ 3 := by
  cases t with
  | none =>
    rcases v with rfl | ⟨k, hk, rfl⟩
    · decide
    · exact numL_len3 hk
  | some t =>
    obtain ⟨⟨k, hk, rfl, _⟩, _⟩ := v
    exact numL_len3 hk
theorem Vd.dig {s t : List Nat} (v : Vd s (some t)) : s.all digC = true ∧ s ≠ [] ∧ t.length ≤ 200 := by
  obtain ⟨⟨k, hk, rfl, ht⟩, _⟩ := v
  have h : isDec (numL k) 200 = true := isDec_iff.mpr ⟨k, hk, rfl⟩
  exact ⟨(isDec_digs h).1, (isDec_digs h).2, by omega⟩
theorem Vd.dig0 {s : List Nat} (v : Vd s none) : s.all digC = true := by
  rcases v with rfl | ⟨k, hk, rfl⟩
  · rfl
  · exact (isDec_digs (isDec_iff.mpr ⟨k, hk, rfl⟩)).1
theorem lr_step {s : List Nat} {t : Option (List Nat)} {c : Nat} {cs : List Nat} {o : Option (List Nat)} {s' : List Nat} {t' : Option (List Nat)} (h : stp s t c = some (o, s', t')) : lr s t (c :: cs) = (lr s' t' cs).pre o.toList 1 := by
  simp only [lr, h]
theorem lr_stop {s : List Nat} {t : Option (List Nat)} {c : Nat} {cs : List Nat} (h : stp s t c = none) : lr s t (c :: cs) = .wrong [] 0 := by
  simp only [lr, h]
theorem joinIf {c : Prop} [Decidable c] {F G : VK → Prop} {Q : VK} (I : V → Hp → Prop) (h1 : c → ∀ Q' : VK, (∀ v H, I v H → Q' v H) → F Q') (h2 : ¬ c → ∀ Q' : VK, (∀ v H, I v H → Q' v H) → G Q') (k : ∀ v H, I v H → Q v H) :
    if c then F Q else G Q := by
  by_cases h : c
  · rw [if_pos h]
    exact h1 h Q k
  · rw [if_neg h]
    exact h2 h Q k
theorem chars_txs (z : List Nat) : chars z = txs (z.map fun c => [c]) := by
  unfold chars txs
  rw [List.map_map]
  rfl
theorem flat_ones (z : List Nat) : (z.map fun c => [c]).flatten = z := by
  induction z with
  | nil => rfl
  | cons c z ih =>
    rw [List.map_cons, List.flatten_cons, ih]
    rfl
theorem take_cut {z : List Nat} {a b : Nat} (h : a ≤ b) : z.take a ++ (z.drop a).take (b - a) = z.take b := by
  conv => rhs; rw [show b = a + (b - a) by omega]
  rw [List.take_add]
theorem testIf {t : TT} {σ : L2.St} {H : Hp} {Q : Bool → Hp → Prop} (I : Bool → Hp → Prop) (h : ∀ Q' : Bool → Hp → Prop, (∀ b H', I b H' → Q' b H') → t σ H Q') (k : ∀ b H', I b H' → Q b H') : t σ H Q := h Q k
theorem ite3 {b : Bool} {A B : Prop} (h1 : A) (h2 : B) : if b = true then A else B := by
  cases b
  · exact iteF h2
  · exact iteT h1
end Ag

end
/-! ## L6 -/
section
set_option linter.all false
set_option maxRecDepth 100000
namespace Ag
open PySem PySem.Spec PyProof.Rows L2
open SX (S S_len S_cat S_inj)
/-- a comprehension with a test: R stays, each item is as v says -/
theorem lc_some {J : It} {n : Nat} {G : Hp → Prop} {Y : Nat → Hp → V → Hp → Prop} (w : Walk J n G Y) {g : TG} {tt : TT} {te : TE} {vs : List Nat} {σ : L2.St} {H1 : Hp} {D : Addr} {Qd : Hp → Prop} (R : Hp → Prop) (v : V → Prop) (hn : n ≤ 16000000) (r0 : R H1) (rD : ∀ H o, R H → R (upd H D o)) (hG : ∀ H, R H → G H)
    (hs : ∀ i x H H' xs (k : VK) (k0 : Hp → Prop), i < n → R H → H D = some (.lst xs) → Y i H x H' → (∀ y H4, v y → R H4 → H4 D = some (.lst xs) → k y H4) → (∀ H4, R H4 → H4 D = some (.lst xs) → k0 H4) →
      g x (wipe σ vs) H' fun σ2 H2 => wipe σ2 vs = wipe σ vs ∧ tt σ2 H2 fun b H3 => if b = true then te σ2 H3 k else k0 H3)
    (hd : ∀ H xs, xs.length ≤ n → (∀ y ∈ xs, v y) → R H → H D = some (.lst xs) → Qd H) :
    ∃ W : Nat → Nat → Hp → Prop, (∃ m, W 0 m (upd H1 D (.lst []))) ∧ ∀ i m H, W i m H →
      (J.stop i H ∧ Qd H) ∨ (J.go i H ∧ ∃ Nx : Hp → Prop, (∀ H', Nx H' → ∃ m', m' < m ∧ W (i + 1) m' H') ∧ ∀ x H', J.yld i H x H' → g x (wipe σ vs) H' fun σ2 H2 => wipe σ2 vs = wipe σ vs ∧ tt σ2 H2 fun b H3 =>
        if b = true then te σ2 H3 fun y H4 => ∃ acc, H4 D = some (.lst acc) ∧ acc.length < sizeLine ∧ Nx (upd H4 D (.lst (acc ++ [y]))) else Nx H3) := by
  refine lc_it (g := g) (tt := tt) (te := te) (vs := vs) (σ := σ) w (fun i H => ∃ xs : List V, xs.length ≤ i ∧ (∀ y ∈ xs, v y) ∧ R H ∧ H D = some (.lst xs)) ⟨[], Nat.le_refl _, fun y h => by simp at h, rD _ _ r0, upd_same⟩ (fun i H hi p => ?_) (fun i x H H' hi p hy => ?_) (fun H p => ?_)
  · obtain ⟨xs, _, _, r, _⟩ := p
    exact hG H r
  · obtain ⟨xs, hl, hv, r, hD⟩ := p
    refine hs i x H H' xs _ _ hi r hD hy ?_ ?_
    · rintro y H4 hvy r4 h4
      refine ⟨xs, h4, ?_, xs ++ [y], by simp; omega, fun z hz => ?_, rD _ _ r4, upd_same⟩
      · rw [sizeLine_eq]; omega
      · rcases List.mem_append.mp hz with hz | hz
        · exact hv z hz
        · rw [List.mem_singleton.mp hz]
          exact hvy
    · rintro H4 r4 h4
      exact ⟨xs, by omega, hv, r4, h4⟩
  · obtain ⟨xs, hl, hv, r, hD⟩ := p
    exact hd H xs hl hv r hD
theorem ints_mem : ∀ {xs : List V}, (∀ y ∈ xs, ∃ r : Nat, y = V.int (r : Int)) → ∃ rs : List Int, xs = rs.map V.int ∧ ∀ r ∈ rs, 0 ≤ r
  | [], _ => ⟨[], rfl, fun _ h => by cases h⟩
  | x :: xs, h => by
    obtain ⟨r, rfl⟩ := h x List.mem_cons_self
    obtain ⟨rs, rfl, hp⟩ := ints_mem (xs := xs) fun y hy => h y (List.mem_cons_of_mem _ hy)
    refine ⟨(r : Int) :: rs, rfl, fun u hu => ?_⟩
    rcases List.mem_cons.mp hu with rfl | hu
    · omega
    · exact hp u hu
theorem asc_app {a b : List Nat} (h : asc a) (k : asc b) : asc (a ++ b) := fun c hc => (List.mem_append.mp hc).elim (h c) (k c)
theorem asc_plain {l : List Nat} (h : plainL l = true) : asc l := fun c hc => by
  unfold plainL at h
  rw [List.all_eq_true] at h
  have := h c hc
  simp [plainC] at this
  omega
theorem cut_any {z : List Nat} (h : asc z) (lo hi : Option Int) : ∃ l, cutS (S z) lo hi = S l ∧ asc l ∧ l.length ≤ z.length := by
  refine ⟨_, rfl, fun c hc => h c (List.mem_of_mem_drop (List.mem_of_mem_take hc)), ?_⟩
  rw [List.length_take, List.length_drop]
  have : (S z).cps.toList.length = z.length := rfl
  omega
theorem lf10 : (Str.ofString "\n") = S [10] := by decide +kernel
section
variable {P : Program} {w : World} {K : PySem.W.Frag} {mg : Str → Option Value} {base : Heap} {tm tn tb : Tok}
def spSpoiled : Sp := fun vs H Q _ => ∃ (p c : Addr) (z : List Nat), vs = [.ref p, .str (S z)] ∧ Dk p c H ∧ asc z ∧ z.length ≤ 20000 ∧ ∀ (l : List Nat) H', asc l → l.length ≤ 4 * z.length + 1 → Gx p c H H' → Q (.str (S l)) H'
theorem ok_spoiled {f f1 f2 f3 : Addr} {fd fd1 fd2 fd3 : FuncData} (F : Fn K mg "_law_spoiled" s__law_spoiled ["_law_deck_here", "_law_stream"] f fd) (B : Blt mg) (F__law_draw : Fn K mg "_law_draw" s__law_draw ["_law_deck_here", "_law_below"] f1 fd1)
    (G__law_draw : FnOk P w K mg base CX0 1 f1 fd1 ["_law_deck_here", "_law_below"] spDraw) (F__law_pick : Fn K mg "_law_pick" s__law_pick ["_law_deck_here", "_law_some"] f2 fd2) (G__law_pick : FnOk P w K mg base CX0 2 f2 fd2 ["_law_deck_here", "_law_some"] spPick)
    (F__law_signs : Fn K mg "_law_signs" s__law_signs [] f3 fd3) : FnOk P w K mg base CX0 3 f fd ["_law_deck_here", "_law_stream"] spSpoiled := by
  have G__law_signs : FnOk P w K mg base CX0 1 f3 fd3 [] spSigns := ok_signs F__law_signs
  refine F.F.ok sc__law_spoiled (fun vs H Q E h => ?_) (fun cdv A outer s0 H vs Q E hr h => ?_)
  · obtain ⟨p, c, z, rfl, _⟩ := h
    rfl
  · obtain ⟨p, c, z, rfl, dk, hasc, hz, q⟩ := h
    refine ⟨_, (pss_cons (ps_par3 (i := 2) (j := 3) (l := 4) (by rfl) sc__law_spoiled.nd rfl rfl rfl (by decide) (by decide) (by decide) rfl rfl rfl (pa_cons (pe_call G__law_draw (hr.mono (by decide)) (by rfl) F__law_draw.g F__law_draw.F.kp F__law_draw.b .nil pass0 (pa_cons (pv 0) (pa_cons pe_int pa_nil))) (pa_cons (pe_call G__law_draw (hr.mono (by decide)) (by rfl) F__law_draw.g F__law_draw.F.kp F__law_draw.b .nil pass0 (pa_cons (pv 0) (pa_cons (pe_op op_add (pe_callB call_len_str (by rfl) B.n_len PySem.boot_len (pa_cons (pv 1) pa_nil)) pe_int) pa_nil))) (pa_cons (pe_call G__law_draw (hr.mono (by decide)) (by rfl) F__law_draw.g F__law_draw.F.kp F__law_draw.b .nil pass0 (pa_cons (pv 0) (pa_cons (pe_op op_add (pe_callB call_len_str (by rfl) B.n_len PySem.boot_len (pa_cons (pv 1) pa_nil)) pe_int) pa_nil))) pa_nil))) (by rfl))
      (pss_cons (ps_setLc (i := 5) (own := [("_law_spot", 7), ("_law_sign", 6)]) rfl sc__law_spoiled.nd rfl rfl (sw_true rfl rfl rfl (by decide +kernel)) (pi_enumS (by rfl) B.n_enumerate (pa_cons (pv 1) pa_nil)) (blkOk_by (N := N__law_spoiled) (sc := defScope s__law_spoiled) (by decide +kernel)) (fun _ _ _ _ _ => pg_two (i := 7) (j := 6) K rfl sc__law_spoiled.nd rfl rfl rfl rfl rfl) (fun _ _ _ _ _ => (pts_one (pt_cmpR op_in_sign (pv 6) pe_str rfl))) (fun _ _ _ _ _ => (pv 7)))
      (C8.pss_cut (ps_if (PW.pt (pw_and (pt_cmpR op_gt (pv 2) pe_int (nomark _)) (pw_and1 (pt_cmpR (op_neD hr.units) (pv 5) (pe_lst pa_nil) (nomark _)))))
      (pss_one (ps_set (i := 3) sc__law_spoiled.nd rfl (.inl rfl) (pe_callB (call_max2 rfl) (by rfl) B.n_max (by decide +kernel) (pa_cons pe_int (pa_cons (pe_op op_sub (pe_call G__law_pick (hr.mono (by decide)) (by rfl) F__law_pick.g F__law_pick.F.kp F__law_pick.b .nil pass0 (pa_cons (pv 0) (pa_cons (pv 5) pa_nil))) (pe_call G__law_draw (hr.mono (by decide)) (by rfl) F__law_draw.g F__law_draw.F.kp F__law_draw.b .nil pass0 (pa_cons (pv 0) (pa_cons pe_int pa_nil)))) pa_nil)))))
      pss_nil)
      (pss_cons (ps_set (i := 6) sc__law_spoiled.nd rfl (.inl rfl) (pe_call G__law_pick (hr.mono (by decide)) (by rfl) F__law_pick.g F__law_pick.F.kp F__law_pick.b .nil pass0 (pa_cons (pv 0) (pa_cons (pe_lst (pa_cons pe_str (pa_cons pe_str (pa_cons pe_str (pa_cons pe_str (pa_cons pe_str (pa_cons pe_str (pa_cons pe_str (pa_cons pe_str (pa_cons pe_str (pa_cons pe_str (pa_cons (pe_call G__law_pick (hr.mono (by decide)) (by rfl) F__law_pick.g F__law_pick.F.kp F__law_pick.b .nil pass0 (pa_cons (pv 0) (pa_cons (pe_call0 G__law_signs (hr.mono (by decide)) (by rfl) F__law_signs.g F__law_signs.F.kp F__law_signs.b .nil pass0) pa_nil))) pa_nil)))))))))))) pa_nil))))
      (pss_cons (ps_if (pt_cmpR op_in_seq (pv 2) (pe_tup (pa_cons pe_int (pa_cons pe_int pa_nil))) rfl)
      (pss_one (ps_ret (pe_op op_add_str (pe_op op_add_str (pe_slice sl_str (pv 1) po_none (po_some (pv 3))) (pv 6)) (pe_slice sl_str (pv 1) (po_some (pv 3)) po_none))))
      pss_nil)
      (pss_cons (ps_if (pt_cmpR op_in_seq (pv 2) (pe_tup (pa_cons pe_int (pa_cons pe_int pa_nil))) rfl)
      (pss_one (ps_ret (pe_op op_add_str (pe_slice sl_str (pv 1) po_none (po_some (pv 3))) (pe_slice sl_str (pv 1) (po_some (pe_op op_add (pv 3) pe_int)) po_none))))
      pss_nil)
      (pss_cons (ps_if (pt_cmpR op_in_seq (pv 2) (pe_tup (pa_cons pe_int (pa_cons pe_int pa_nil))) rfl)
      (pss_one (ps_ret (pe_op op_add_str (pe_op op_add_str (pe_slice sl_str (pv 1) po_none (po_some (pv 3))) (pv 6)) (pe_slice sl_str (pv 1) (po_some (pe_op op_add (pv 3) pe_int)) po_none))))
      pss_nil)
      (pss_cons (ps_if (pt_cmpR op_eq (pv 2) pe_int (nomark _))
      (pss_one (ps_ret (pe_op op_add_str (pe_op op_add_str (pe_slice sl_str (pv 1) po_none (po_some (pv 3))) (pe_slice sl_str (pe_slice sl_str (pv 1) (po_some (pe_callB (call_min2 rfl) (by rfl) B.n_min (by decide +kernel) (pa_cons (pv 3) (pa_cons (pv 4) pa_nil)))) (po_some (pe_callB (call_max2 rfl) (by rfl) B.n_max (by decide +kernel) (pa_cons (pv 3) (pa_cons (pv 4) pa_nil))))) po_none (po_some pe_int))) (pe_slice sl_str (pv 1) (po_some (pv 3)) po_none))))
      pss_nil)
      (pss_one (ps_ret (pe_op op_add_str (pe_op op_add_str (pe_op op_add_str (pe_slice sl_str (pv 1) po_none (po_some (pv 3))) (pe_slice sl_str (pv 1) (po_some (pe_op op_add (pv 3) pe_int)) (po_some (pe_op op_add (pv 3) pe_int)))) (pe_slice sl_str (pv 1) (po_some (pv 3)) (po_some (pe_op op_add (pv 3) pe_int)))) (pe_slice sl_str (pv 1) (po_some (pe_op op_add (pv 3) pe_int)) po_none)))))))))))), ?_⟩
    have zl : (S z).length = z.length := S_len z
    -- way, at, other
    refine ⟨_, rfl, p, c, 8, rfl, dk, by decide, by decide, fun way H1 hway g1 => ?_⟩
    refine ⟨_, rfl, _, rfl, S z, rfl, sz (by rw [zl]; omega), _, _, rfl, rfl, p, c, _, rfl, g1.2, by rw [zl]; omega, by rw [zl]; omega, fun at0 H2 hat g2 => ?_⟩
    refine ⟨_, rfl, _, rfl, S z, rfl, sz (by rw [zl]; omega), _, _, rfl, rfl, p, c, _, rfl, g2.2, by rw [zl]; omega, by rw [zl]; omega, fun oth H3 hoth g3 => ?_⟩
    have g := (g1.trans g2).trans g3
    refine ⟨_, _, _, rfl, ?_⟩
    -- spots
    refine ⟨_, rfl, S z, rfl, fun D hD => ?_⟩
    have nD := g.2.ne hD
    have hD0 := g.free dk hD
    have hzs : (S z).cps.size = z.length := by simp
    refine lc_some walk_enumS (fun H' => Gx p c H H') (fun y => ∃ r : Nat, y = .int (r : Int)) (by rw [hzs]; omega) g (fun H' o g => g.put dk hD0 nD) (fun _ _ => trivial) ?_ ?_
    · rintro i x Ha Hb xs k k0 hi g hxs ⟨T, d, rfl, hT, rfl, hd⟩ hk hk0
      have nT := g.2.ne hT
      have nDT : D ≠ T := ne_of_none hxs hT
      have gT := g.trans (Gx.new (o := .tup [.int (i : Nat), .str ⟨#[d]⟩]) g.2 hT)
      refine ⟨T, _, rfl, SqT.of upd_same, rfl, _, _, rfl, _, _, rfl, rfl, rfl, ?_⟩
      refine ⟨_, rfl, d, _, rfl, rfl, _, rfl, ?_⟩
      refine ite3 ?_ (hk0 _ gT (by rw [upd_ne nDT]; exact hxs))
      exact ⟨_, rfl, hk _ _ ⟨i, rfl⟩ gT (by rw [upd_ne nDT]; exact hxs)⟩
    · intro H4 spots hsl hsv g4 hspots
      have aspots : At p c H4 D (.lst spots) := ⟨nD.1, nD.2, hspots⟩
      -- at
      refine ⟨fun σ H' => ∃ a : Int, 0 ≤ a ∧ σ = [some (.ref p), some (.str (S z)), some (.int (way : Int)), some (.int a), some (.int (oth : Int)), some (.ref D), none, none] ∧ Gx p c H H', ?_, ?_⟩
      · show tAnd (tTest _) (tTest _) _ _ _
        refine testIf (fun b H5 => (b = true → spots ≠ []) ∧ Gx p c H H5 ∧ At p c H5 D (.lst spots)) (fun Q' k => ?_) (fun b H5 i5 => ?_)
        · refine ⟨_, rfl, _, _, rfl, rfl, _, rfl, ?_⟩
          refine ite3 ?_ (k _ _ ⟨(fun e => by cases e), g4, aspots⟩)
          refine ⟨_, rfl, Nat.zero_le _, fun t ht => ?_⟩
          have gt := g4.trans (Gx.new (o := .lst []) g4.2 ht)
          have at' := aspots.gx (Gx.new (o := .lst []) g4.2 ht)
          obtain ⟨rs, rfl, hrs⟩ := ints_mem hsv
          refine ⟨.list (rs.map .int), .list [], .lst (SqL.of at'.2.2) (dpInts rs), .lst (SqL.of upd_same) .nil, shaped_ints rs, shaped_ints [], _, rfl, ?_⟩
          rw [ne_nil_ints]
          refine k _ _ ⟨fun e => ?_, gt, at'⟩
          have := of_decide_eq_true e
          intro z
          exact this (List.map_eq_nil_iff.mp z)
        · obtain ⟨hne, g5, a5⟩ := i5
          cases b with
          | false => exact iteF ⟨(at0 : Int), by omega, rfl, g5⟩
          | true =>
            refine iteT ?_
            have hn1 : 1 ≤ spots.length := by
              cases spots with
              | nil => exact absurd rfl (hne rfl)
              | cons _ _ => simp
            refine ⟨_, rfl, _, rfl, p, c, .ref D, rfl, g5.2, .inl ⟨D, spots, rfl, a5, hn1, by rw [hzs] at hsl; omega, fun r x H6 hx g6 => ?_⟩⟩
            obtain ⟨v, rfl⟩ := hsv x (List.mem_of_getElem? hx)
            refine ⟨_, rfl, p, c, 3, rfl, g6.2, by decide, by decide, fun r2 H7 hr2 g7 => ?_⟩
            refine ⟨_, _, rfl, rfl, 0, _, rfl, ?_⟩
            refine ⟨if ((v : Int) - (r2 : Int)) > 0 then ((v : Int) - (r2 : Int)) else 0, by split <;> omega, rfl, (g5.trans g6).trans g7⟩
      · rintro σ H5 ⟨a, ha0, rfl, g5⟩
        -- the sign
        refine ⟨_, rfl, _, rfl, rfl, p, c, .str (S signs), rfl, g5.2, .inr ⟨signs, rfl, by rw [signs_len]; decide, by rw [signs_len]; decide, fun r d H6 hd g6 => ?_⟩⟩
        have dlt : d < 128 := asc_plain signs_plain d (List.mem_of_getElem? hd)
        refine ⟨sz (by show 11 ≤ 16000000; decide), fun b hb => ?_⟩
        have g56 := g5.trans g6
        refine ⟨p, c, .ref b, rfl, g56.2.same (same_new hb), .inl ⟨b, _, rfl, At.new g56.2 hb, (by show 1 ≤ 11; decide), (by show 11 ≤ 100000; decide), fun r2 x H7 hx g7 => ?_⟩⟩
        have g7' := (g56.trans (Gx.new (o := .lst [.str (Str.ofString "0"), .str (Str.ofString "1"), .str (Str.ofString "2"), .str (Str.ofString "9"), .str (Str.ofString ":"), .str (Str.ofString ","), .str (Str.ofString " "), .str (Str.ofString "-"), .str (Str.ofString "a"), .str (Str.ofString "\n"), .str (S [d])]) g56.2 hb)).trans g7
        obtain ⟨e, rfl, he⟩ : ∃ e, x = .str (S [e]) ∧ e < 128 := by
          have mem := List.mem_of_getElem? hx
          have key : ∀ t : Str, (match t.cps.toList with | [e] => decide (e < 128) | _ => false) = true → x = .str t → ∃ e, x = .str (S [e]) ∧ e < 128 := by
            intro t ht ex
            cases hq : t.cps.toList with
            | nil => rw [hq] at ht; cases ht
            | cons e r =>
              rw [hq] at ht
              cases r with
              | cons _ _ => cases ht
              | nil => exact ⟨e, by rw [ex, ← SX.S_tl t, hq], of_decide_eq_true ht⟩
          simp only [List.mem_cons, List.not_mem_nil, or_false] at mem
          rcases mem with h | h | h | h | h | h | h | h | h | h | h
          all_goals first
            | exact key _ (by decide +kernel) h
            | exact ⟨d, h, dlt⟩
        have ase : asc [e] := fun u hu => by rw [List.mem_singleton.mp hu]; exact he
        generalize H7 = H8 at g7'
        have ten : ∀ lo hi, ∃ l, cutS (S z) lo hi = S l ∧ asc l ∧ l.length ≤ z.length := cut_any hasc
        have fits : ∀ {l : List Nat} {m : Nat}, l.length ≤ m → m ≤ 4 * z.length + 1 → (S l).length ≤ 100000 := fun h1 h2 => by rw [S_len]; omega
        -- way in (0, 4)
        refine ⟨_, rfl, by show 2 ≤ sizeLine; decide, fun t ht => ⟨t, _, rfl, .inr (SqT.of upd_same), rfl, rfl, _, rfl, ?_⟩⟩
        have g9 := g7'.trans (Gx.new (o := .tup [.int 0, .int 4]) g7'.2 ht)
        generalize upd H8 t _ = H9 at g9
        refine ite3 ?_ ?_
        · obtain ⟨l1, e1, a1, n1⟩ := ten none (some a)
          obtain ⟨l2, e2, a2, n2⟩ := ten (some a) none
          refine ⟨_, rfl, _, rfl, a, rfl, S z, rfl, sz (by rw [zl]; omega), ?_⟩
          rw [e1]
          refine ⟨_, rfl, _, _, rfl, rfl, sz (by rw [S_len, S_len]; simp; omega), _, rfl, _, rfl, a, rfl, S z, rfl, sz (by rw [zl]; omega), ?_⟩
          rw [e2, S_cat]
          refine ⟨_, _, rfl, rfl, sz (by rw [S_len, S_len]; simp; omega), ?_⟩
          rw [S_cat]
          exact q _ _ (asc_app (asc_app a1 ase) a2) (by simp; omega) g9
        refine ⟨_, rfl, by show 2 ≤ sizeLine; decide, fun t ht => ⟨t, _, rfl, .inr (SqT.of upd_same), rfl, rfl, _, rfl, ?_⟩⟩
        have g10 := g9.trans (Gx.new (o := .tup [.int 1, .int 5]) g9.2 ht)
        generalize upd H9 t _ = H10 at g10
        refine ite3 ?_ ?_
        · obtain ⟨l1, e1, a1, n1⟩ := ten none (some a)
          obtain ⟨l2, e2, a2, n2⟩ := ten (some (a + 1)) none
          refine ⟨_, rfl, _, rfl, a, rfl, S z, rfl, sz (by rw [zl]; omega), ?_⟩
          rw [e1]
          refine ⟨_, rfl, _, rfl, _, _, rfl, rfl, a + 1, rfl, S z, rfl, sz (by rw [zl]; omega), ?_⟩
          rw [e2]
          refine ⟨_, _, rfl, rfl, sz (by rw [S_len, S_len]; omega), ?_⟩
          rw [S_cat]
          exact q _ _ (asc_app a1 a2) (by simp; omega) g10
        refine ⟨_, rfl, by show 2 ≤ sizeLine; decide, fun t ht => ⟨t, _, rfl, .inr (SqT.of upd_same), rfl, rfl, _, rfl, ?_⟩⟩
        have g11 := g10.trans (Gx.new (o := .tup [.int 2, .int 6]) g10.2 ht)
        generalize upd H10 t _ = H11 at g11
        refine ite3 ?_ ?_
        · obtain ⟨l1, e1, a1, n1⟩ := ten none (some a)
          obtain ⟨l2, e2, a2, n2⟩ := ten (some (a + 1)) none
          refine ⟨_, rfl, _, rfl, a, rfl, S z, rfl, sz (by rw [zl]; omega), ?_⟩
          rw [e1]
          refine ⟨_, rfl, _, _, rfl, rfl, sz (by rw [S_len, S_len]; simp; omega), _, rfl, _, rfl, _, _, rfl, rfl, a + 1, rfl, S z, rfl, sz (by rw [zl]; omega), ?_⟩
          rw [e2, S_cat]
          refine ⟨_, _, rfl, rfl, sz (by rw [S_len, S_len]; simp; omega), ?_⟩
          rw [S_cat]
          exact q _ _ (asc_app (asc_app a1 ase) a2) (by simp; omega) g11
        -- way == 3
        refine ⟨_, rfl, rfl, _, rfl, ?_⟩
        refine ite3 ?_ ?_
        · obtain ⟨l1, e1, a1, n1⟩ := ten none (some a)
          obtain ⟨l2, e2, a2, n2⟩ := ten (some (if (oth : Int) < a then (oth : Int) else a)) (some (if (oth : Int) > a then (oth : Int) else a))
          obtain ⟨l3, e3, a3, n3⟩ := cut_any a2 none (some 20)
          obtain ⟨l4, e4, a4, n4⟩ := ten (some a) none
          refine ⟨_, rfl, _, rfl, a, rfl, S z, rfl, sz (by rw [zl]; omega), ?_⟩
          rw [e1]
          refine ⟨_, rfl, _, rfl, _, rfl, a, (oth : Int), rfl, _, rfl, _, rfl, _, rfl, a, (oth : Int), rfl, _, rfl, S z, rfl, sz (by rw [zl]; omega), ?_⟩
          rw [e2]
          refine ⟨20, rfl, S l2, rfl, sz (by rw [S_len]; omega), ?_⟩
          rw [e3]
          refine ⟨_, _, rfl, rfl, sz (by rw [S_len, S_len]; omega), _, rfl, _, rfl, a, rfl, S z, rfl, sz (by rw [zl]; omega), ?_⟩
          rw [e4, S_cat]
          refine ⟨_, _, rfl, rfl, sz (by rw [S_len, S_len]; simp; omega), ?_⟩
          rw [S_cat]
          exact q _ _ (asc_app (asc_app a1 a3) a4) (by simp; omega) g11
        · obtain ⟨l1, e1, a1, n1⟩ := ten none (some a)
          obtain ⟨l2, e2, a2, n2⟩ := ten (some (a + 1)) (some (a + 2))
          obtain ⟨l3, e3, a3, n3⟩ := ten (some a) (some (a + 1))
          obtain ⟨l4, e4, a4, n4⟩ := ten (some (a + 2)) none
          refine ⟨_, rfl, _, rfl, a, rfl, S z, rfl, sz (by rw [zl]; omega), ?_⟩
          rw [e1]
          refine ⟨_, rfl, _, rfl, _, _, rfl, rfl, a + 1, rfl, _, rfl, _, _, rfl, rfl, a + 2, rfl, S z, rfl, sz (by rw [zl]; omega), ?_⟩
          rw [e2]
          refine ⟨_, _, rfl, rfl, sz (by rw [S_len, S_len]; omega), _, rfl, _, rfl, a, rfl, _, rfl, _, _, rfl, rfl, a + 1, rfl, S z, rfl, sz (by rw [zl]; omega), ?_⟩
          rw [e3, S_cat]
          refine ⟨_, _, rfl, rfl, sz (by rw [S_len, S_len]; simp; omega), _, rfl, _, rfl, _, _, rfl, rfl, a + 2, rfl, S z, rfl, sz (by rw [zl]; omega), ?_⟩
          rw [e4, S_cat]
          refine ⟨_, _, rfl, rfl, sz (by rw [S_len, S_len]; simp; omega), ?_⟩
          rw [S_cat]
          exact q _ _ (asc_app (asc_app (asc_app a1 a2) a3) a4) (by simp; omega) g11
end
end Ag

end
/-! ## N1 -/
section
set_option linter.all false
set_option maxRecDepth 100000
namespace Ag
open PySem PySem.Spec PyProof.Rows L2
open SX (S S_len S_cat S_inj)
/-! ### lists of signs -/
/-- a comprehension over a text's signs, with a pure test -/
theorem lc_flt {z : List Nat} (p : Nat → Bool) {g : TG} {tt : TT} {te : TE} {vs : List Nat} {σ : L2.St} {H1 : Hp} {D : Addr} {Qd : Hp → Prop} (hz : z.length ≤ 16000000)
    (hs : ∀ c H (k : VK) (k0 : Hp → Prop), (p c = true → k (.str (S [c])) H) → (p c = false → k0 H) →
      g (.str (S [c])) (wipe σ vs) H fun σ2 H2 => wipe σ2 vs = wipe σ vs ∧ tt σ2 H2 fun b H3 => if b = true then te σ2 H3 k else k0 H3)
    (hd : Qd (upd H1 D (.lst (chars (z.filter p))))) :
    ∃ W : Nat → Nat → Hp → Prop, (∃ m, W 0 m (upd H1 D (.lst []))) ∧ ∀ i m H, W i m H →
      ((Its (S z)).stop i H ∧ Qd H) ∨ ((Its (S z)).go i H ∧ ∃ Nx : Hp → Prop, (∀ H', Nx H' → ∃ m', m' < m ∧ W (i + 1) m' H') ∧ ∀ x H', (Its (S z)).yld i H x H' → g x (wipe σ vs) H' fun σ2 H2 => wipe σ2 vs = wipe σ vs ∧ tt σ2 H2 fun b H3 =>
        if b = true then te σ2 H3 fun y H4 => ∃ acc, H4 D = some (.lst acc) ∧ acc.length < sizeLine ∧ Nx (upd H4 D (.lst (acc ++ [y]))) else Nx H3) := by
  have hzs : (S z).cps.size = z.length := by simp
  refine lc_it (g := g) (tt := tt) (te := te) (vs := vs) (σ := σ) walk_str (fun i H => H = upd H1 D (.lst (chars ((z.take i).filter p)))) (by simp [chars]) (fun _ _ _ _ => trivial) (fun i x H H' hi h hy => ?_) (fun H h => ?_)
  · obtain ⟨rfl, c, hc, rfl⟩ := hy
    subst h
    have hc' : z[i]? = some c := by simpa using hc
    have hi' : i < z.length := by rw [← hzs]; exact hi
    have htk : z.take (i + 1) = z.take i ++ [c] := by
      rw [List.take_add_one, hc']
      rfl
    have hl : ((z.take i).filter p).length ≤ z.length := Nat.le_trans (List.length_filter_le _ _) (by rw [List.length_take]; omega)
    refine hs c _ _ _ (fun e => ?_) (fun e => ?_)
    · refine ⟨_, upd_same, ?_, ?_⟩
      · unfold chars
        rw [List.length_map, sizeLine_eq]
        omega
      · rw [upd_upd, htk, List.filter_append, List.filter_cons_of_pos e, List.filter_nil]
        unfold chars
        rw [List.map_append]
        rfl
    · rw [htk, List.filter_append, List.filter_cons_of_neg (by rw [e]; decide), List.filter_nil, List.append_nil]
  · subst h
    rw [hzs, List.take_length]
    exact hd
def dChars (l : List Nat) : List PyData := l.map fun c => PyData.str (S [c])
theorem dpChars {K : PySem.W.Frag} {H : Hp} : ∀ l : List Nat, DpAll K H (chars l) (dChars l)
  | [] => .nil
  | c :: l => .cons (.str (S [c])) (dpChars l)
theorem asc_ok : ∀ c : Nat, c < 128 → PyData.strOk (S [c]) = true := by decide +kernel
theorem lay_chars : ∀ l : List Nat, asc l → PyData.canLayAll0 (dChars l) = true
  | [], _ => by simp [dChars, PyData.canLayAll0]
  | c :: l, h => by
    have := lay_chars l fun d hd => h d (List.mem_cons_of_mem _ hd)
    have hc := asc_ok c (h c List.mem_cons_self)
    unfold dChars at this ⊢
    simp [PyData.canLayAll0, PyData.canLay0, this, hc]
theorem depth_chars : ∀ l : List Nat, PyData.depthAll (dChars l) = 0
  | [] => by simp [dChars, PyData.depthAll]
  | c :: l => by
    have := depth_chars l
    unfold dChars at this ⊢
    simp [PyData.depthAll, PyData.depth, this]
theorem shaped_chars {l : List Nat} (h : asc l) : SeqAt.shaped (.list (dChars l)) = true := by
  simp [SeqAt.shaped, PyData.canLay0, PyData.depth, lay_chars l h, depth_chars]
theorem eq_nil_chars (l : List Nat) : PyData.eqv (.list (dChars l)) (.list []) = decide (l = []) := by
  cases l <;> simp [dChars, PyData.eqv, PyData.eqvAll]
theorem plain_filt (l : List Nat) : decide ((l.filter fun c => !plainC c) = []) = plainL l := by
  rw [Bool.eq_iff_iff, decide_eq_true_eq, List.filter_eq_nil_iff]
  unfold plainL
  rw [List.all_eq_true]
  simp
/-! ### the parts of a kind -/
def mark : Nat → Nat
  | 0 => 98
  | 1 => 48
  | _ => 49
def mkV : Option (List Nat) → V
  | none => .non
  | some ks => .str (S (ks.map mark))
def kindsL : List (Key × V) := [(Sum.inr (Str.ofString "ask"), .str (Str.ofString "1b")), (Sum.inr (Str.ofString "past"), .str (Str.ofString "00")), (Sum.inr (Str.ofString "look"), .str (Str.ofString "")), (Sum.inr (Str.ofString "hello"), .str (Str.ofString "0")),
  (Sum.inr (Str.ofString "answer"), .str (Str.ofString "1b")), (Sum.inr (Str.ofString "upto"), .str (Str.ofString "00")), (Sum.inr (Str.ofString "forgot"), .str (Str.ofString "0")), (Sum.inr (Str.ofString "well"), .str (Str.ofString ""))]
theorem merge_nd : ∀ (more acc : List (Key × V)), ((acc ++ more).map (·.1)).Nodup → mergeK acc more = acc ++ more
  | [], acc, _ => by simp [mergeK]
  | (k, v) :: more, acc, h => by
    have hn : valV acc k = none := by
      cases e : valV acc k with
      | none => rfl
      | some u =>
        exfalso
        unfold valV at e
        obtain ⟨p, hp, _⟩ := Option.map_eq_some_iff.mp e
        have h1 := List.find?_some hp
        have h2 := List.mem_of_find?_eq_some hp
        rw [decide_eq_true_eq] at h1
        rw [List.map_append, List.nodup_append] at h
        exact h.2.2 p.1 (List.mem_map_of_mem h2) k (by simp) h1
    show mergeK (putK acc k v) more = _
    rw [putK_new v hn]
    have := merge_nd more (acc ++ [(k, v)]) (by rw [List.append_assoc]; exact h)
    rw [this, List.append_assoc]
    rfl
theorem merge_kinds : mergeK [] kindsL = kindsL := merge_nd kindsL [] (by decide +kernel)
theorem v_tab (wd : List Nat) : ∀ T : List (List Nat × List Nat), valV (T.map fun p => ((Sum.inr (S p.1) : Key), V.str (S (p.2.map mark)))) (Sum.inr (S wd)) = (T.lookup wd).map fun ks => V.str (S (ks.map mark))
  | [] => rfl
  | (k, ks) :: T => by
    rw [List.map_cons]
    by_cases h : k = wd
    · subst h
      rw [valV_pos rfl]
      simp [List.lookup]
    · rw [valV_neg (fun e => h (S_inj (Sum.inr.inj e))), v_tab wd T]
      have : (wd == k) = false := by
        rw [beq_eq_false_iff_ne]
        exact fun e => h e.symm
      simp [List.lookup, this]
theorem kinds_tab : kindsL = forms.dropLast.map fun p => ((Sum.inr (S p.1) : Key), V.str (S (p.2.map mark))) := by
  have e1 : Str.ofString "ask" = S [97,115,107] := by decide +kernel
  have e2 : Str.ofString "past" = S [112,97,115,116] := by decide +kernel
  have e3 : Str.ofString "look" = S [108,111,111,107] := by decide +kernel
  have e4 : Str.ofString "hello" = S [104,101,108,108,111] := by decide +kernel
  have e5 : Str.ofString "answer" = S [97,110,115,119,101,114] := by decide +kernel
  have e6 : Str.ofString "upto" = S [117,112,116,111] := by decide +kernel
  have e7 : Str.ofString "forgot" = S [102,111,114,103,111,116] := by decide +kernel
  have e8 : Str.ofString "well" = S [119,101,108,108] := by decide +kernel
  have e9 : Str.ofString "1b" = S [49,98] := by decide +kernel
  have e10 : Str.ofString "00" = S [48,48] := by decide +kernel
  have e11 : Str.ofString "0" = S [48] := by decide +kernel
  have e12 : Str.ofString "" = S [] := by decide +kernel
  unfold kindsL
  rw [e1, e2, e3, e4, e5, e6, e7, e8, e9, e10, e11, e12]
  rfl
theorem awayS : Str.ofString "away" = S [97,119,97,121] := by decide +kernel
theorem v_kinds (wd : List Nat) (h : wd ≠ [97,119,97,121]) : (valV kindsL (Sum.inr (S wd))).getD .non = mkV (formOf wd) := by
  rw [kinds_tab, v_tab]
  have e : formOf wd = forms.dropLast.lookup wd := by
    unfold formOf
    rw [show forms = forms.dropLast ++ [([97,119,97,121], [1])] from rfl, List.lookup_append]
    have : List.lookup wd [(([97,119,97,121] : List Nat), ([1] : List Nat))] = none := by
      have : (wd == [97,119,97,121]) = false := by
        rw [beq_eq_false_iff_ne]
        exact h
      simp [List.lookup, this]
    rw [this, Option.or_none]
    rfl
  rw [e]
  cases forms.dropLast.lookup wd <;> rfl
section
variable {P : Program} {w : World} {K : PySem.W.Frag} {mg : Str → Option Value} {base : Heap} {tm tn tb : Tok}
def spLBody : Sp := fun vs H Q _ => ∃ l : List Nat, vs = [.str (S l)] ∧ asc l ∧ l.length ≤ 100000 ∧ ∀ H', Same H H' → Q (.bl (bodyB (.s l))) H'
theorem ok_lbody {f : Addr} {fd : FuncData} (F : Fn K mg "_law_is_body" s__law_is_body ["_law_thing"] f fd) (B : Con mg tm tn tb) : FnOk P w K mg base CX0 1 f fd ["_law_thing"] spLBody := by
  refine F.F.ok sc__law_is_body (fun vs H Q E h => ?_) (fun cdv A outer s H vs Q E hr h => ?_)
  · obtain ⟨l, rfl, _⟩ := h
    rfl
  · obtain ⟨l, rfl, al, hl, q⟩ := h
    refine ⟨_, (pss_one (ps_ret (pe_and (pe_callB call_isi (by rfl) B.n_isinstance (by decide +kernel) (pa_cons (pv 0) (pa_cons (pe_bltn (v := .ty "str") (by rfl) B.n_str (by decide +kernel) rfl) pa_nil))) (pe_and (pe_cmpR op_le (pe_callB call_len (by rfl) B.n_len PySem.boot_len (pa_cons (pv 0) pa_nil)) pe_int (nomark _)) (pe_one (pe_cmpR (op_eqD hr.units) (pe_lc (own := [("_law_sign", 1)]) rfl sc__law_is_body.nd (pi_str (pv 0)) (blkOk_by (N := N__law_is_body) (sc := defScope s__law_is_body) (by decide +kernel)) (fun _ _ _ _ _ => (pg_name (i := 1) sc__law_is_body.nd rfl (Or.inl rfl))) (fun _ _ _ _ _ => (pts_one (pt_not (pt_chain op_le_str op_le_str pe_str (pv 1) pe_str)))) (fun _ _ _ _ _ => (pv 1))) (pe_lst pa_nil) (nomark _))))))), ?_⟩
    refine ⟨_, rfl, .str (S l), .ty "str", _, _, true, rfl, .ty "str", .base (.str _), kit_ty (by decide +kernel), _, rfl, iteT ?_⟩
    refine ⟨_, rfl, .str (S l), _, rfl, ⟨sz (by rw [S_len]; omega), rfl⟩, _, _, rfl, rfl, _, rfl, ?_⟩
    rw [S_len]
    have e : decide ((l.length : Int) ≤ 150) = decide (l.length ≤ 150) := by
      rw [Bool.eq_iff_iff, decide_eq_true_eq, decide_eq_true_eq]
      omega
    rw [e]
    simp only [bodyB] at q
    refine ite2 (fun h1 => ?_) (fun h1 => ?_)
    · rw [h1, Bool.true_and] at q
      refine ⟨_, rfl, S l, rfl, fun D hD => ?_⟩
      refine lc_flt (fun c => !plainC c) (by omega) (fun c H' k k0 h1 h2 => ?_) ?_
      · refine ⟨rfl, _, rfl, S [32], S [c], congrArg V.str blankS, rfl, _, rfl, ?_⟩
        rw [show (S [c]).cps.toList = [c] from rfl, show (S [32]).cps.toList = [32] from rfl, lt_sign]
        have hp : plainC c = (!decide (c < 32) && !decide (126 < c)) := by
          unfold plainC
          rw [Bool.eq_iff_iff]
          simp
        cases e1 : decide (c < 32) with
        | true =>
          exact iteF ⟨_, rfl, iteT ⟨_, rfl, h1 (by rw [hp, e1]; rfl)⟩⟩
        | false =>
          refine iteT ?_
          refine ⟨_, S [126], rfl, congrArg V.str tildeS, _, rfl, ?_⟩
          rw [show (S [c]).cps.toList = [c] from rfl, show (S [126]).cps.toList = [126] from rfl, lt_sign]
          cases e2 : decide (126 < c) with
          | true => exact iteT ⟨_, rfl, h1 (by rw [hp, e1, e2]; rfl)⟩
          | false => exact iteF (h2 (by rw [hp, e1, e2]; rfl))
      · refine ⟨Nat.zero_le _, fun t ht => ?_⟩
        have nD : D ≠ t := ne_of_none (H := upd H D (.lst (chars (l.filter fun c => !plainC c)))) upd_same ht
        have af : asc (l.filter fun c => !plainC c) := fun c hc => al c ((List.mem_filter.mp hc).1)
        refine ⟨.list (dChars (l.filter fun c => !plainC c)), .list [], .lst (SqL.of (by rw [upd_ne nD, upd_same])) (dpChars _), .lst (SqL.of upd_same) .nil, shaped_chars af, shaped_ints [], ?_⟩
        rw [eq_nil_chars, plain_filt]
        exact q _ ((same_new hD).trans (same_new ht))
    · rw [Bool.eq_false_iff.mpr h1, Bool.false_and] at q
      exact q H (Same.refl _)
def spParts : Sp := fun vs H Q _ => ∃ wd : List Nat, vs = [.str (S wd)] ∧ ∀ H', Same H H' → Q (mkV (formOf wd)) H'
theorem ok_parts {f : Addr} {fd : FuncData} (F : Fn K mg "_law_parts" s__law_parts ["_law_word"] f fd) : FnOk P w K mg base CX0 1 f fd ["_law_word"] spParts := by
  refine F.F.ok sc__law_parts (fun vs H Q E h => ?_) (fun cdv A outer s H vs Q E hr h => ?_)
  · obtain ⟨l, rfl, _⟩ := h
    rfl
  · obtain ⟨wd, rfl, q⟩ := h
    refine ⟨_, (pss_cons (ps_set (i := 1) sc__law_parts.nd rfl (.inl rfl) (pe_disp (pps_cons pe_str pe_str (pps_cons pe_str pe_str (pps_cons pe_str pe_str (pps_cons pe_str pe_str (pps_cons pe_str pe_str (pps_cons pe_str pe_str (pps_cons pe_str pe_str (pps_cons pe_str pe_str pps_nil)))))))) (by rfl) (by rfl) (fun z => by cases z) (by decide)))
      (pss_one (ps_ret (pe_ifExp (pt_cmpR op_eq (pv 0) pe_str (nomark _)) pe_str (pe_dget1 (Nat.lt_of_le_of_lt (Nat.add_le_add_left (by decide : 1 ≤ 64) _) hr.units) (pv 1) (pv 0) ⟨rfl, rfl, rfl, rfl⟩))))), ?_⟩
    intro D hD
    refine ⟨upd_same, kindsL, rfl, (by decide), ?_⟩
    rw [merge_kinds]
    have hD' : upd (upd H D (.dK [])) D (.dK kindsL) D = some (.dK kindsL) := upd_same
    have sm : Same H (upd (upd H D (.dK [])) D (.dK kindsL)) := by rw [upd_upd]; exact same_new hD
    refine ⟨_, rfl, rfl, _, rfl, ?_⟩
    rw [str_eq awayS]
    by_cases h : wd = [97,119,97,121]
    · rw [decide_eq_true h]
      refine iteT ?_
      have z := q _ sm
      rw [h] at z
      exact z
    · rw [decide_eq_false h]
      refine iteF ?_
      refine ⟨_, rfl, D, rfl, .inl ⟨_, .inl hD'⟩, _, rfl, _, .k (k := Sum.inr (S wd)) hD', ?_⟩
      rw [v_kinds wd h]
      exact q _ sm
end
end Ag

end
/-! ## N2 -/
section
set_option linter.all false
set_option maxRecDepth 100000
namespace Ag
open PySem PySem.Spec PyProof.Rows L2
open SX (S S_len S_cat S_inj)
/-- all of a list of ints that are small -/
theorem small_mem {lo hi : Nat} {xs : List V} {r : Nat} {x : V} (h : xs[r]? = some x) (hx : ∀ y ∈ xs, ∃ z : Nat, y = .int (z : Int) ∧ lo ≤ z ∧ z ≤ hi) : ∃ z : Nat, x = .int (z : Int) ∧ lo ≤ z ∧ z ≤ hi := hx x (List.mem_of_getElem? h)
section
variable {P : Program} {w : World} {K : PySem.W.Frag} {mg : Str → Option Value} {base : Heap} {tm tn tb : Tok}
def spMkBody : Sp := fun vs H Q _ => ∃ (p c : Addr), vs = [.ref p] ∧ Dk p c H ∧ ∀ (l : List Nat) H', bodyB (.s l) = true → Gx p c H H' → Q (.str (S l)) H'
theorem ok_mkbody {f f1 f2 f3 : Addr} {fd fd1 fd2 fd3 : FuncData} (F : Fn K mg "_law_body" s__law_body ["_law_deck_here"] f fd)
    (F__law_text : Fn K mg "_law_text" s__law_text ["_law_deck_here", "_law_size"] f1 fd1) (G__law_text : FnOk P w K mg base CX0 3 f1 fd1 ["_law_deck_here", "_law_size"] spText)
    (F__law_pick : Fn K mg "_law_pick" s__law_pick ["_law_deck_here", "_law_some"] f2 fd2) (G__law_pick : FnOk P w K mg base CX0 2 f2 fd2 ["_law_deck_here", "_law_some"] spPick)
    (F__law_draw : Fn K mg "_law_draw" s__law_draw ["_law_deck_here", "_law_below"] f3 fd3) (G__law_draw : FnOk P w K mg base CX0 1 f3 fd3 ["_law_deck_here", "_law_below"] spDraw) : FnOk P w K mg base CX0 4 f fd ["_law_deck_here"] spMkBody := by
  refine F.F.ok sc__law_body (fun vs H Q E h => ?_) (fun cdv A outer s H vs Q E hr h => ?_)
  · obtain ⟨p, c, rfl, _⟩ := h
    rfl
  · obtain ⟨p, c, rfl, dk, q⟩ := h
    refine ⟨_, (pss_one (ps_ret (pe_call G__law_text (hr.mono (by decide)) (by rfl) F__law_text.g F__law_text.F.kp F__law_text.b .nil pass0 (pa_cons (pv 0) (pa_cons (pe_call G__law_pick (hr.mono (by decide)) (by rfl) F__law_pick.g F__law_pick.F.kp F__law_pick.b .nil pass0 (pa_cons (pv 0) (pa_cons (pe_lst (pa_cons pe_int (pa_cons pe_int (pa_cons pe_int (pa_cons pe_int (pa_cons pe_int (pa_cons pe_int (pa_cons pe_int (pa_cons pe_int (pa_cons pe_int (pa_cons pe_int (pa_cons pe_int (pa_cons pe_int (pa_cons pe_int (pa_cons pe_int (pa_cons (pe_call G__law_draw (hr.mono (by decide)) (by rfl) F__law_draw.g F__law_draw.F.kp F__law_draw.b .nil pass0 (pa_cons (pv 0) (pa_cons pe_int pa_nil))) (pa_cons pe_int pa_nil))))))))))))))))) pa_nil))) pa_nil))))), ?_⟩
    refine ⟨_, rfl, _, rfl, _, rfl, p, c, _, rfl, dk, by decide, by decide, fun r H1 hr1 g1 => ?_⟩
    refine ⟨sz (by show 16 ≤ 16000000; decide), fun a ha => ?_⟩
    refine ⟨p, c, .ref a, rfl, g1.2.same (same_new ha), .inl ⟨a, _, rfl, At.new g1.2 ha, (by show 1 ≤ 16; decide), (by show 16 ≤ 100000; decide), fun k x H2 hx g2 => ?_⟩⟩
    obtain ⟨z, rfl, _, hz⟩ := small_mem (lo := 0) (hi := 150) hx (fun y hy => by
      simp only [List.mem_cons, List.not_mem_nil, or_false] at hy
      rcases hy with h | h | h | h | h | h | h | h | h | h | h | h | h | h | h | h
      · exact ⟨1, h, by decide, by decide⟩
      · exact ⟨0, h, by decide, by decide⟩
      · exact ⟨2, h, by decide, by decide⟩
      · exact ⟨3, h, by decide, by decide⟩
      · exact ⟨6, h, by decide, by decide⟩
      · exact ⟨5, h, by decide, by decide⟩
      · exact ⟨4, h, by decide, by decide⟩
      · exact ⟨2, h, by decide, by decide⟩
      · exact ⟨1, h, by decide, by decide⟩
      · exact ⟨150, h, by decide, by decide⟩
      · exact ⟨149, h, by decide, by decide⟩
      · exact ⟨10, h, by decide, by decide⟩
      · exact ⟨0, h, by decide, by decide⟩
      · exact ⟨1, h, by decide, by decide⟩
      · exact ⟨r, h, Nat.zero_le _, by omega⟩
      · exact ⟨2, h, by decide, by decide⟩)
    have g3 := (g1.trans (Gx.new g1.2 ha)).trans g2
    refine ⟨p, c, z, rfl, g3.2, by omega, fun l H3 hp hl g4 => q l H3 ?_ (g3.trans g4)⟩
    simp only [bodyB, Bool.and_eq_true, decide_eq_true_eq]
    exact ⟨by omega, hp⟩
def spMkNum : Sp := fun vs H Q _ => ∃ (p c : Addr) (low : Nat), vs = [.ref p, .int (low : Int)] ∧ low ≤ 1 ∧ Dk p c H ∧ ∀ (z : Nat) H', low ≤ z → z ≤ 1000000000 → Gx p c H H' → Q (.int (z : Int)) H'
theorem ok_mknum {f f2 f3 : Addr} {fd fd2 fd3 : FuncData} (F : Fn K mg "_law_number" s__law_number ["_law_deck_here", "_law_low"] f fd)
    (F__law_pick : Fn K mg "_law_pick" s__law_pick ["_law_deck_here", "_law_some"] f2 fd2) (G__law_pick : FnOk P w K mg base CX0 2 f2 fd2 ["_law_deck_here", "_law_some"] spPick)
    (F__law_draw : Fn K mg "_law_draw" s__law_draw ["_law_deck_here", "_law_below"] f3 fd3) (G__law_draw : FnOk P w K mg base CX0 1 f3 fd3 ["_law_deck_here", "_law_below"] spDraw) : FnOk P w K mg base CX0 3 f fd ["_law_deck_here", "_law_low"] spMkNum := by
  refine F.F.ok sc__law_number (fun vs H Q E h => ?_) (fun cdv A outer s H vs Q E hr h => ?_)
  · obtain ⟨p, c, low, rfl, _⟩ := h
    rfl
  · obtain ⟨p, c, low, rfl, hlow, dk, q⟩ := h
    refine ⟨_, (pss_cons (ps_set (i := 2) sc__law_number.nd rfl (.inl rfl) (pe_lst (pa_cons pe_int (pa_cons pe_int (pa_cons pe_int (pa_cons pe_int (pa_cons pe_int (pa_cons pe_int (pa_cons pe_int (pa_cons (pe_op op_pow pe_int pe_int) (pa_cons (pe_op op_sub (pe_op op_pow pe_int pe_int) pe_int) (pa_cons (pv 1) (pa_cons pe_int (pa_cons (pe_op op_add pe_int (pe_call G__law_draw (hr.mono (by decide)) (by rfl) F__law_draw.g F__law_draw.F.kp F__law_draw.b .nil pass0 (pa_cons (pv 0) (pa_cons pe_int pa_nil)))) (pa_cons (pe_op op_pow pe_int pe_int) (pa_cons (pv 1) (pa_cons pe_int pa_nil)))))))))))))))))
      (pss_one (ps_ret (pe_call G__law_pick (hr.mono (by decide)) (by rfl) F__law_pick.g F__law_pick.F.kp F__law_pick.b .nil pass0 (pa_cons (pv 0) (pa_cons (pv 2) pa_nil)))))), ?_⟩
    have c9 : CPow 10 9 := ⟨by decide, by decide, by decide⟩
    have c5 : CPow 10 5 := ⟨by decide, by decide, by decide⟩
    refine ⟨_, _, rfl, rfl, c9, _, _, rfl, rfl, c9, _, _, rfl, rfl, _, rfl, _, rfl, p, c, 40, rfl, dk, by decide, by decide, fun r H1 hr1 g1 => ?_⟩
    refine ⟨_, _, rfl, rfl, _, _, rfl, rfl, c5, _, rfl, sz (by show 15 ≤ 16000000; decide), fun a ha => ?_⟩
    refine ⟨_, rfl, _, rfl, p, c, .ref a, rfl, g1.2.same (same_new ha), .inl ⟨a, _, rfl, At.new g1.2 ha, (by show 1 ≤ 15; decide), (by show 15 ≤ 100000; decide), fun k x H2 hx g2 => ?_⟩⟩
    obtain ⟨z, rfl, hlo, hz⟩ := small_mem (lo := low) (hi := 1000000000) hx (fun y hy => by
      simp only [List.mem_cons, List.not_mem_nil, or_false] at hy
      rcases hy with h | h | h | h | h | h | h | h | h | h | h | h | h | h | h
      · exact ⟨1, h, hlow, by decide⟩
      · exact ⟨2, h, by omega, by decide⟩
      · exact ⟨3, h, by omega, by decide⟩
      · exact ⟨9, h, by omega, by decide⟩
      · exact ⟨10, h, by omega, by decide⟩
      · exact ⟨99, h, by omega, by decide⟩
      · exact ⟨100, h, by omega, by decide⟩
      · exact ⟨1000000000, h, by omega, by decide⟩
      · exact ⟨999999999, h, by omega, by decide⟩
      · exact ⟨low, h, Nat.le_refl _, by omega⟩
      · exact ⟨12, h, by omega, by decide⟩
      · exact ⟨1 + r, by rw [h]; push_cast; rfl, by omega, by omega⟩
      · exact ⟨100000, h, by omega, by decide⟩
      · exact ⟨low, h, Nat.le_refl _, by omega⟩
      · exact ⟨4096, h, by omega, by decide⟩)
    exact q z H2 hlo hz ((g1.trans (Gx.new g1.2 ha)).trans g2)
/-- a new tuple that the deck is not -/
def NewT (p c : Addr) (H H' : Hp) (a : Addr) (xs : List V) : Prop := H a = none ∧ At p c H' a (.tup xs)
theorem mark_body {k : Nat} (hk : k ≤ 2) : decide (V.str (S [mark k]) = V.str (Str.ofString "b")) = decide (k = 0) := by
  match k, hk with
  | 0, _ => decide +kernel
  | 1, _ => decide +kernel
  | 2, _ => decide +kernel
theorem mark_int {k : Nat} (hk : k ≤ 2) (h0 : k ≠ 0) : PySem.intText? (S [mark k]) = some ((k - 1 : Nat) : Int) := by
  match k, hk, h0 with
  | 1, _, _ => decide +kernel
  | 2, _, _ => decide +kernel
def spLMsg : Sp := fun vs H Q _ => ∃ (p c a : Addr) (wd ks : List Nat), vs = [.ref p, .ref a] ∧ Dk p c H ∧ At p c H a (.lst [.str (S wd)]) ∧ formOf wd = some ks ∧
  ∀ (t : Addr) (ms : List Itm) H', msgB ms = true → headW ms = wd → H t = none → At p c H' t (.tup (ms.map Itm.v)) → Gx p c H H' → Q (.ref t) H'
/-- while the items are drawn -/
def MsgI (p c a : Addr) (wd ks : List Nat) (H : Hp) (i : Nat) (σ : L2.St) (H' : Hp) : Prop := ∃ (e : Addr) (xs : List Itm) (x4 : Option V), σ = [some (.ref p), some (.ref a), some (.str (S wd)), some (.ref e), x4] ∧ xs.length = i ∧
  (List.zipWith itmB (ks.take i) xs).all id = true ∧ Gx p c H H' ∧ H e = none ∧ At p c H' e (.tup (xs.map Itm.v))
theorem MsgI.next {p c a : Addr} {wd ks : List Nat} {H H3 : Hp} {i k : Nat} {e t : Addr} {xs : List Itm} {y : Itm} {x4 : V} (dk : Dk p c H) (hl : xs.length = i) (hi : i ≤ 10) (hk : ks[i]? = some k) (hv : (List.zipWith itmB (ks.take i) xs).all id = true)
    (hy : itmB k y = true) (g : Gx p c H H3) (he : H e = none) (ae : At p c H3 e (.tup (xs.map Itm.v))) (ht : H3 t = none) :
    rCatA K (.ref e) (.ref t) (upd H3 t (.tup [y.v])) (fun v H4 => MsgI p c a wd ks H (i + 1) [some (.ref p), some (.ref a), some (.str (S wd)), some v, some x4] H4) := by
  have nt := g.2.ne ht
  have net : e ≠ t := ne_of_none ae.2.2 ht
  have g1 := g.trans (Gx.new (o := .tup [y.v]) g.2 ht)
  have hlt : i < ks.length := by
    rw [← Nat.not_le]
    intro h
    rw [List.getElem?_eq_none_iff.mpr h] at hk
    cases hk
  have hz : (List.zipWith itmB (ks.take (i + 1)) (xs ++ [y])).all id = true := by
    rw [List.take_add_one, hk, List.zipWith_append (by rw [List.length_take]; omega), List.all_append, hv]
    simpa using hy
  have ae1 : At p c (upd H3 t (.tup [y.v])) e (.tup (xs.map Itm.v)) := ae.gx (Gx.new g.2 ht)
  have at1 : At p c (upd H3 t (.tup [y.v])) t (.tup [y.v]) := At.new g.2 ht
  refine ⟨e, t, _, _, rfl, rfl, SqT.of ae1.2.2, SqT.of at1.2.2, sz (by rw [List.length_map, List.length_singleton]; omega), fun h => ?_, (fun _ h => by cases h), fun h _ u hu => ?_⟩
  · have hx : xs = [] := List.map_eq_nil_iff.mp h
    subst hx
    exact ⟨t, [y], _, rfl, by rw [List.length_singleton, ← hl]; rfl, by simpa using hz, g1, g.free dk ht, at1⟩
  · refine ⟨u, xs ++ [y], _, rfl, by rw [List.length_append, hl]; rfl, hz, g1.trans (Gx.new g1.2 hu), g1.free dk hu, ?_⟩
    rw [List.map_append]
    exact At.new g1.2 hu
theorem ok_lmsg {f f1 f2 f3 f4 : Addr} {fd fd1 fd2 fd3 fd4 : FuncData} (F : Fn K mg "_law_message" s__law_message ["_law_deck_here", "_law_words"] f fd) (B : Con mg tm tn tb)
    (F__law_pick : Fn K mg "_law_pick" s__law_pick ["_law_deck_here", "_law_some"] f1 fd1) (G__law_pick : FnOk P w K mg base CX0 2 f1 fd1 ["_law_deck_here", "_law_some"] spPick)
    (F__law_parts : Fn K mg "_law_parts" s__law_parts ["_law_word"] f2 fd2) (F__law_body : Fn K mg "_law_body" s__law_body ["_law_deck_here"] f3 fd3) (G__law_body : FnOk P w K mg base CX0 4 f3 fd3 ["_law_deck_here"] spMkBody)
    (F__law_number : Fn K mg "_law_number" s__law_number ["_law_deck_here", "_law_low"] f4 fd4) (G__law_number : FnOk P w K mg base CX0 3 f4 fd4 ["_law_deck_here", "_law_low"] spMkNum) :
    FnOk P w K mg base CX0 5 f fd ["_law_deck_here", "_law_words"] spLMsg := by
  have G__law_parts : FnOk P w K mg base CX0 1 f2 fd2 ["_law_word"] spParts := ok_parts F__law_parts
  refine F.F.ok sc__law_message (fun vs H Q E h => ?_) (fun cdv A outer s H vs Q E hr h => ?_)
  · obtain ⟨p, c, a, wd, ks, rfl, _⟩ := h
    rfl
  · obtain ⟨p, c, a, wd, ks, rfl, dk, ha, hks, q⟩ := h
    refine ⟨_, (pss_cons (ps_par (i := 2) (j := 3) (by rfl) sc__law_message.nd rfl rfl (by decide) rfl rfl (pa_cons (pe_call G__law_pick (hr.mono (by decide)) (by rfl) F__law_pick.g F__law_pick.F.kp F__law_pick.b .nil pass0 (pa_cons (pv 0) (pa_cons (pv 1) pa_nil))) (pa_cons (pe_tup pa_nil) pa_nil)) (by rfl))
      (pss_cons (ps_for PassesOwn.never rfl (pi_str (pe_call G__law_parts (hr.mono (by decide)) (by rfl) F__law_parts.g F__law_parts.F.kp F__law_parts.b .nil pass0 (pa_cons (pv 2) pa_nil))) (pg_name (i := 4) sc__law_message.nd rfl (Or.inl rfl))
      (pss_one (ps_set (i := 3) sc__law_message.nd rfl (.inl rfl) (pe_op op_catA (pv 3) (pe_tup (pa_cons (pe_ifExp (pt_cmpR op_eq (pv 4) pe_str (nomark _)) (pe_call G__law_body (hr.mono (by decide)) (by rfl) F__law_body.g F__law_body.F.kp F__law_body.b .nil pass0 (pa_cons (pv 0) pa_nil)) (pe_call G__law_number (hr.mono (by decide)) (by rfl) F__law_number.g F__law_number.F.kp F__law_number.b .nil pass0 (pa_cons (pv 0) (pa_cons (pe_callTy call_int_str (by rfl) B.n_int (by decide +kernel) (pa_cons (pv 4) pa_nil)) pa_nil)))) pa_nil))))))
      (pss_one (ps_ret (pe_op op_catA (pe_tup (pa_cons (pv 2) pa_nil)) (pv 3)))))), ?_⟩
    refine ⟨_, rfl, _, rfl, p, c, .ref a, rfl, dk, .inl ⟨a, _, rfl, ha, (by show 1 ≤ 1; decide), (by show 1 ≤ 100000; decide), fun r x H1 hx g1 => ?_⟩⟩
    obtain rfl : x = .str (S wd) := by
      have := List.mem_of_getElem? hx
      simpa using this
    refine ⟨Nat.zero_le _, fun e he => ⟨_, _, rfl, ?_⟩⟩
    have ge := g1.trans (Gx.new (o := .tup []) g1.2 he)
    have ae : At p c (upd H1 e (.tup [])) e (.tup (([] : List Itm).map Itm.v)) := At.new g1.2 he
    have he0 := g1.free dk he
    generalize upd H1 e (.tup []) = H2 at ge ae ⊢
    refine ⟨_, rfl, wd, rfl, fun H3 sm3 => ?_⟩
    have ge3 := ge.trans (Gx.same ge.2 sm3)
    have ae3 := ae.gx (Gx.same ge.2 sm3)
    rw [hks]
    have hk2 := form_le hks
    have hsz : (S (ks.map mark)).cps.size = ks.length := by simp
    refine ⟨S (ks.map mark), rfl, for_it walk_str (MsgI p c a wd ks H) ⟨e, [], none, rfl, rfl, rfl, ge3, he0, ae3⟩ (fun _ _ _ _ _ => trivial) ?_ ?_⟩
    · rintro i x σ H4 H5 hi ⟨e', xs, x4, rfl, hl, hv, g, he', ae'⟩ ⟨rfl, d, hd, rfl⟩
      rw [hsz] at hi
      obtain ⟨k, hk, rfl⟩ : ∃ k, ks[i]? = some k ∧ mark k = d := by
        have : (ks.map mark)[i]? = some d := by simpa using hd
        rw [List.getElem?_map] at this
        exact Option.map_eq_some_iff.mp this
      have hkk := hk2.2 k (List.mem_of_getElem? hk)
      refine ⟨_, rfl, _, rfl, rfl, _, rfl, ?_⟩
      rw [show V.str ⟨#[mark k]⟩ = V.str (S [mark k]) from rfl, mark_body hkk]
      refine ite2 (fun h => ?_) (fun h => ?_)
      · have h0 : k = 0 := of_decide_eq_true h
        subst h0
        refine ⟨_, rfl, p, c, rfl, g.2, fun l H6 hb g6 => ?_⟩
        refine ⟨sz (by show 1 ≤ 16000000; decide), fun t ht => ?_⟩
        exact MsgI.next (y := .s l) dk hl (by omega) hk hv (by simpa [itmB] using hb) (g.trans g6) he' (ae'.gx g6) ht
      · have h0 : k ≠ 0 := fun z => h (decide_eq_true z)
        refine ⟨_, rfl, _, rfl, S [mark k], _, rfl, mark_int hkk h0, by rw [S_len]; show 1 ≤ 640; decide, p, c, k - 1, rfl, by omega, g.2, fun z H6 hz1 hz2 g6 => ?_⟩
        refine ⟨sz (by show 1 ≤ 16000000; decide), fun t ht => ?_⟩
        refine MsgI.next (y := .i (z : Int)) dk hl (by omega) hk hv ?_ (g.trans g6) he' (ae'.gx g6) ht
        unfold itmB numB
        rw [if_neg h0]
        simp
        omega
    · rintro σ H4 ⟨e', xs, x4, rfl, hl, hv, g, he', ae'⟩
      rw [hsz] at hl hv
      rw [List.take_length] at hv
      have hm : msgB (.s wd :: xs) = true := by
        simp only [msgB, hks, hv, Bool.and_true, decide_eq_true_eq]
        exact hl
      refine ⟨_, rfl, sz (by show 1 ≤ 16000000; decide), fun t ht => ?_⟩
      have a1 : At p c (upd H4 t (.tup [V.str (S wd)])) t (.tup [V.str (S wd)]) := At.new g.2 ht
      have g1 := g.trans (Gx.new (o := .tup [V.str (S wd)]) g.2 ht)
      have ae1 := ae'.gx (Gx.new (o := .tup [V.str (S wd)]) g.2 ht)
      refine ⟨_, rfl, t, e', _, _, rfl, rfl, SqT.of a1.2.2, SqT.of ae1.2.2, sz (by rw [List.length_map, List.length_singleton]; omega), (fun h => by cases h), fun _ h => ?_, fun _ _ u hu => ?_⟩
      · have hx : xs = [] := List.map_eq_nil_iff.mp h
        subst hx
        exact q t _ _ hm rfl (g.free dk ht) a1 g1
      · exact q u (.s wd :: xs) _ hm rfl (g1.free dk hu) (At.new g1.2 hu) (g1.trans (Gx.new g1.2 hu))
end
end Ag

end
/-! ## N3 -/
section
set_option linter.all false
set_option maxRecDepth 100000
namespace Ag
open PySem PySem.Spec PyProof.Rows L2
open SX (S S_len S_cat S_inj)
section
variable {P : Program} {w : World} {K : PySem.W.Frag} {mg : Str → Option Value} {base : Heap} {tm tn tb : Tok}
def spWritten : Sp := fun vs H Q _ => ∃ (a : Addr) (ms : List Itm), vs = [.ref a] ∧ H a = some (.tup (ms.map Itm.v)) ∧ msgB ms = true ∧ ∀ H', Same H H' → Q (.str (S (wr ms))) H'
theorem ok_written {f : Addr} {fd : FuncData} (F : Fn K mg "_law_written" s__law_written ["_law_message_here"] f fd) (B : Con mg tm tn tb) : FnOk P w K mg base CX0 1 f fd ["_law_message_here"] spWritten := by
  refine F.F.ok sc__law_written (fun vs H Q E h => ?_) (fun cdv A outer s H vs Q E hr h => ?_)
  · obtain ⟨a, ms, rfl, _⟩ := h
    rfl
  · obtain ⟨a, ms, rfl, ha1, hm, q⟩ := h
    refine ⟨_, (pss_one (ps_ret (pe_join pe_str (pe_lc (own := [("_law_part", 1)]) rfl sc__law_written.nd (pi_tup (pv 0)) (blkOk_by (N := N__law_written) (sc := defScope s__law_written) (by decide +kernel)) (fun _ _ _ _ _ => (pg_name (i := 1) sc__law_written.nd rfl (Or.inl rfl))) (fun _ _ _ _ _ => pts_nil) (fun _ _ _ _ _ => (pe_callTy (CallR.or call_str_int SkE.call_str_str) (by rfl) B.n_str (by decide +kernel) (pa_cons (pv 1) pa_nil))))))), ?_⟩
    obtain ⟨h3, hi⟩ := msg_items hm
    refine ⟨⟨_, rfl⟩, _, rfl, a, rfl, ⟨_, SqT.of ha1⟩, fun D hD => ?_⟩
    have nD : a ≠ D := ne_of_none ha1 hD
    refine lc_all (walk_tup (K := K) (a := a) (xs := ms.map Itm.v)) (fun H' => Same H H' ∧ H' a = some (.tup (ms.map Itm.v))) (fun i y => ∃ x, ms[i]? = some x ∧ y = V.str (S (itT x))) (by rw [List.length_map]; omega) ⟨Same.refl _, ha1⟩ (fun H' o g => ⟨fun b o' e => by rw [upd_ne (ne_of_none e hD)]; exact g.1 b o' e, by rw [upd_ne nD]; exact g.2⟩) (fun _ g => SqT.of g.2) ?_ ?_
    · rintro i x Ha Hb xs k hi' g hxs ⟨rfl, hx⟩ hk
      obtain ⟨y, hy, rfl⟩ := its_at hx
      exact ⟨rfl, _, rfl, str_itm (hi y (List.mem_of_getElem? hy)) (hk _ _ ⟨y, hy, rfl⟩ g hxs)⟩
    · rintro H' xs hl hv ⟨g, _⟩ hxs
      have e := mtx_all (ms := ms) (by rw [hl, List.length_map]) hv
      subst e
      refine ⟨_, D, (ms.map itT).map S, rfl, rfl, .inl (SqL.of hxs), ?_, ?_⟩
      · rw [SX.lens, List.length_map, List.length_map]
        have : (Str.ofString " ").length = 1 := by decide +kernel
        rw [this]
        have := sum_le (l := ms.map itT) (m := 150) fun u hu => by
          obtain ⟨x, hx, rfl⟩ := List.mem_map.mp hu
          exact (itT_len (hi x hx)).1
        rw [List.length_map] at this
        omega
      · have eb : (Str.ofString " ") = S [32] := by decide +kernel
        rw [eb, SX.join_S]
        exact q _ g
theorem digs_filt (l : List Nat) : decide ((l.filter fun c => !digC c) ≠ []) = !l.all digC := by
  rw [Bool.eq_iff_iff, decide_eq_true_eq, ne_eq, List.filter_eq_nil_iff, Bool.not_eq_true', ← Bool.not_eq_true, List.all_eq_true]
  simp
theorem ne_nil_chars (l : List Nat) : (!PyData.eqv (.list (dChars l)) (.list [])) = decide (l ≠ []) := by
  rw [eq_nil_chars, decide_not]
def figV (l : List Nat) (low : Nat) : V := if figB l low = true then .int ((digitsVal l : Nat) : Int) else .non
def spFig : Sp := fun vs H Q _ => ∃ (l : List Nat) (low : Nat), vs = [.str (S l), .int (low : Int)] ∧ asc l ∧ l.length ≤ 100000 ∧ ∀ H', Same H H' → Q (figV l low) H'
theorem ok_figure {f : Addr} {fd : FuncData} (F : Fn K mg "_law_figure" s__law_figure ["_law_word", "_law_low"] f fd) (B : Con mg tm tn tb) : FnOk P w K mg base CX0 1 f fd ["_law_word", "_law_low"] spFig := by
  refine F.F.ok sc__law_figure (fun vs H Q E h => ?_) (fun cdv A outer s H vs Q E hr h => ?_)
  · obtain ⟨l, low, rfl, _⟩ := h
    rfl
  · obtain ⟨l, low, rfl, al, hl, q⟩ := h
    refine ⟨_, (pss_cons (ps_if (PW.pt (pw_or (pt_cmpR op_eq (pv 0) pe_str (nomark _)) (pw_or (pt_cmpR op_gt (pe_callB call_len_str (by rfl) B.n_len PySem.boot_len (pa_cons (pv 0) pa_nil)) pe_int (nomark _)) (pw_or1 (pt_cmpR (op_neD hr.units) (pe_lc (own := [("_law_sign", 2)]) rfl sc__law_figure.nd (pi_str (pv 0)) (blkOk_by (N := N__law_figure) (sc := defScope s__law_figure) (by decide +kernel)) (fun _ _ _ _ _ => (pg_name (i := 2) sc__law_figure.nd rfl (Or.inl rfl))) (fun _ _ _ _ _ => (pts_one (pt_cmpR op_notIn_sign (pv 2) pe_str rfl))) (fun _ _ _ _ _ => (pv 2))) (pe_lst pa_nil) (nomark _))))))
      (pss_one (ps_ret pe_non))
      pss_nil)
      (pss_cons (ps_if (PW.pt (pw_or (PW.pt (pw_and (pt_cmpR op_eq (pe_ix ix_str (pv 0) pe_int (fun _ _ => rfl)) pe_str (nomark _)) (pw_and1 (pt_cmpR op_ne (pv 0) pe_str (nomark _))))) (pw_or1 (pt_not (pt_chain op_le op_le (pv 1) (pe_callTy call_int_str (by rfl) B.n_int (by decide +kernel) (pa_cons (pv 0) pa_nil)) (pe_op op_pow pe_int pe_int))))))
      (pss_one (ps_ret pe_non))
      pss_nil)
      (pss_one (ps_ret (pe_callTy call_int_str (by rfl) B.n_int (by decide +kernel) (pa_cons (pv 0) pa_nil)))))), ?_⟩
    have non : ∀ H', Same H H' → figB l low = false → Q .non H' := fun H' sm e => by
      have z := q H' sm
      unfold figV at z
      rw [if_neg (by rw [e]; decide)] at z
      exact z
    have bad : isDec l 1000000000 = false → figB l low = false := fun h => by unfold figB; rw [h]; rfl
    refine ⟨_, rfl, rfl, _, rfl, ?_⟩
    rw [str_eq emptyS]
    by_cases h0 : l = []
    · rw [decide_eq_true h0]
      refine iteT (iteT (non H (Same.refl _) (bad ?_)))
      rw [h0]
      decide +kernel
    rw [decide_eq_false h0]
    refine iteF ?_
    refine ⟨_, rfl, S l, rfl, sz (by rw [S_len]; omega), _, _, rfl, rfl, _, rfl, ?_⟩
    rw [S_len]
    by_cases h1 : l.length > 10
    · refine ite2 (fun _ => ?_) (fun h => absurd (decide_eq_true (by omega)) h)
      refine iteT (non H (Same.refl _) (bad (Bool.eq_false_iff.mpr fun hd => ?_)))
      obtain ⟨k, hk, e⟩ := isDec_iff.mp hd
      have := numL_len10 hk
      rw [← e] at this
      omega
    refine ite2 (fun h => absurd (of_decide_eq_true h) (by omega)) (fun _ => ?_)
    refine ⟨_, rfl, S l, rfl, fun D hD => ?_⟩
    refine lc_flt (fun c => !digC c) (by omega) (fun c H' k k0 h1 h2 => ?_) ?_
    · refine ⟨rfl, _, rfl, c, _, rfl, rfl, _, rfl, ?_⟩
      rw [mem_digits]
      cases e : digC c with
      | true => exact iteF (h2 (by rw [e]; rfl))
      | false => exact iteT ⟨_, rfl, h1 (by rw [e]; rfl)⟩
    refine ⟨Nat.zero_le _, fun t ht => ?_⟩
    have nD : D ≠ t := ne_of_none (H := upd H D (.lst (chars (l.filter fun c => !digC c)))) upd_same ht
    have af : asc (l.filter fun c => !digC c) := fun c hc => al c (List.mem_filter.mp hc).1
    refine ⟨.list (dChars (l.filter fun c => !digC c)), .list [], .lst (SqL.of (by rw [upd_ne nD, upd_same])) (dpChars _), .lst (SqL.of upd_same) .nil, shaped_chars af, shaped_ints [], ?_⟩
    rw [ne_nil_chars, digs_filt]
    have sm : Same H (upd (upd H D (.lst (chars (l.filter fun c => !digC c)))) t (.lst [])) := (same_new hD).trans (same_new ht)
    generalize upd (upd H D (.lst (chars (l.filter fun c => !digC c)))) t (.lst []) = H2 at sm ⊢
    refine ⟨_, rfl, ?_⟩
    cases hd : l.all digC with
    | false =>
      refine iteT (non H2 sm (bad (Bool.eq_false_iff.mpr fun h => ?_)))
      rw [(isDec_digs h).1] at hd
      cases hd
    | true =>
      refine iteF ?_
      obtain ⟨c, r, rfl⟩ : ∃ c r, l = c :: r := by
        cases l with
        | nil => exact absurd rfl h0
        | cons c r => exact ⟨c, r, rfl⟩
      refine ⟨_, rfl, S (c :: r), 0, c, rfl, rfl, sz (by rw [S_len]; omega), atI_nat (j := 0) rfl, rfl, _, rfl, ?_⟩
      by_cases hz : c = 48 → r = []
      · obtain ⟨k, ek⟩ := digs_num (c :: r) h0 hd (fun e => by
          have : c = 48 := by simpa using e
          rw [this, hz this])
        have hk : digitsVal (c :: r) = k := by rw [ek, numL_val]
        have hI := int_S hd h0 (by omega)
        rw [hk] at hI
        have c9 : CPow 10 9 := ⟨by decide, by decide, by decide⟩
        have fb : figB (c :: r) low = (decide (k ≤ 1000000000) && decide (low ≤ k)) := by
          unfold figB isDec
          rw [hk, ← ek, decide_eq_true rfl, Bool.true_and]
        have hcz : decide (V.str (S [c]) = V.str (Str.ofString "0")) = true → c :: r = [48] := fun h => by
          rw [str_eq zeroS] at h
          have hc : c = 48 := by simpa using h
          rw [hc, hz hc]
        refine ite2 (fun h => ⟨_, rfl, rfl, _, rfl, ?_⟩) (fun h => ?_)
        all_goals first
          | (rw [str_ne zeroS, decide_eq_false (not_not_intro (hcz h))]
             refine iteF ?_)
          | skip
        all_goals
          refine ⟨_, rfl, _, rfl, S (c :: r), (k : Int), rfl, hI, by rw [S_len]; omega, _, _, rfl, rfl, _, rfl, ?_⟩
          have q2 := q H2 sm
          unfold figV at q2
          refine ite2 (fun h1 => ?_) (fun h1 => ?_)
          · have h1 : low ≤ k := by have := of_decide_eq_true h1; omega
            refine ⟨_, _, rfl, rfl, c9, _, _, rfl, rfl, _, rfl, ?_⟩
            by_cases h2 : k ≤ 1000000000
            · rw [show decide ((k : Int) ≤ (10 : Int) ^ (9 : Int).toNat) = true from decide_eq_true (by show (k : Int) ≤ 1000000000; omega)]
              refine iteF ⟨_, rfl, S (c :: r), (k : Int), rfl, hI, by rw [S_len]; omega, ?_⟩
              rw [if_pos (by rw [fb, decide_eq_true h2, decide_eq_true h1]; rfl), hk] at q2
              exact q2
            · rw [show decide ((k : Int) ≤ (10 : Int) ^ (9 : Int).toNat) = false from decide_eq_false (by show ¬ (k : Int) ≤ 1000000000; omega)]
              exact iteT (non H2 sm (by rw [fb, decide_eq_false h2]; rfl))
          · have h1 : ¬ low ≤ k := fun z => h1 (decide_eq_true (by omega))
            exact ⟨_, rfl, iteT (non H2 sm (by rw [fb, decide_eq_false h1, Bool.and_false]))⟩
      · have hb : isDec (c :: r) 1000000000 = false := Bool.eq_false_iff.mpr fun h => hz fun hc => by
          obtain ⟨k, hk, e⟩ := isDec_iff.mp h
          subst hc
          have := numL_zero_head k r e.symm
          subst this
          have e0 : numL 0 = [48] := by decide +kernel
          rw [e0] at e
          injection e
        have hc : c = 48 := Classical.byContradiction fun h => hz fun e => absurd e h
        have hr0 : r ≠ [] := fun e => hz fun _ => e
        subst hc
        refine ite2 (fun h => ?_) (fun h => absurd (show decide (V.str (S [48]) = V.str (Str.ofString "0")) = true by decide +kernel) h)
        refine ⟨_, rfl, rfl, _, rfl, ?_⟩
        rw [str_ne zeroS, decide_eq_true (by simpa using hr0)]
        exact iteT (iteT (non H2 sm (bad hb)))
end
end Ag

end
/-! ## N4 -/
section
set_option linter.all false
set_option maxRecDepth 100000
namespace Ag
open PySem PySem.Spec PyProof.Rows L2
open SX (S S_len S_cat S_inj)
/-- what is read of the rest, kind by kind -/
def tl : List Nat → Bool → List Nat → List Itm → Option (List Itm)
  | [], _, _, xs => some xs
  | k :: ks, g, r, xs =>
    if k = 0 then (if g = true ∧ bodyB (.s r) = true then some (xs ++ [.s r]) else none)
    else match pt r with
      | none => if figB r (k - 1) = true ∧ ks = [] then tl ks false [] (xs ++ [.i ((digitsVal r : Nat) : Int)]) else none
      | some (p, q) => if figB p (k - 1) = true ∧ ks ≠ [] then tl ks true q (xs ++ [.i ((digitsVal p : Nat) : Int)]) else none
theorem itm_fig {k : Nat} {f : List Nat} (h1 : 1 ≤ k) (h2 : k ≤ 2) : itmB k (rdI k f) = figB f (k - 1) ∧ (figB f (k - 1) = true → rdI k f = .i ((digitsVal f : Nat) : Int)) := by
  unfold rdI itmB figB
  rw [if_neg (by omega), if_neg (by omega)]
  cases h : isDec f 1000000000 with
  | false => exact ⟨rfl, fun z => by cases z⟩
  | true =>
    obtain ⟨n, hn, rfl⟩ := isDec_iff.mp h
    rw [numL_val, if_pos rfl]
    refine ⟨?_, fun _ => rfl⟩
    simp only [numB, Bool.true_and]
    rw [decide_eq_true (by omega : (0 : Int) ≤ (n : Int)), decide_eq_true (by omega : ((n : Nat) : Int) ≤ 1000000000)]
    rw [Bool.eq_iff_iff]
    simp
    omega
def toldP (z : List Nat) : Option (List Itm) := match pt z with
  | none => match formOf z with
    | some [] => some [.s z]
    | _ => none
  | some (a, b) => match formOf a with
    | none => none
    | some [] => none
    | some ks => tl ks true b [.s a]
theorem told_rd (z : List Nat) : rdP z = toldP z := by
  unfold rdP toldP
  cases hz : pt z with
  | none =>
    rw [spA_none 1 [] hz, List.nil_append]
    simp only
    cases hf : formOf z with
    | none => rfl
    | some ks =>
      cases ks with
      | nil => simp
      | cons k ks => simp
  | some ab =>
    obtain ⟨a, b⟩ := ab
    rw [spA_some 1 [] hz, List.nil_append]
    simp only
    cases hf : formOf a with
    | none => rfl
    | some ks =>
      simp only
      have hs : spA 1 [] b = match pt b with
          | none => [b]
          | some (p, q) => [p, q] := by
        cases hb : pt b with
        | none => rw [spA_none 0 [] hb]; rfl
        | some pq =>
          obtain ⟨p, q⟩ := pq
          rw [spA_some 0 [] hb, spA_zero]
          rfl
      rw [hs]
      rcases form_ks hf with rfl | rfl | rfl | rfl
      · cases hb : pt b with
        | none => simp
        | some pq => simp
      · cases hb : pt b with
        | none =>
          obtain ⟨e1, e2⟩ := itm_fig (k := 1) (f := b) (by omega) (by omega)
          simp [tl, hb, e1]
          by_cases h : figB b 0 = true
          · rw [if_pos h, if_pos h, e2 h]
          · rw [if_neg h, if_neg h]
        | some pq => simp [tl, hb]
      · cases hb : pt b with
        | none => simp [tl, hb]
        | some pq =>
          obtain ⟨p, q⟩ := pq
          obtain ⟨e1, e2⟩ := itm_fig (k := 1) (f := p) (by omega) (by omega)
          obtain ⟨e3, e4⟩ := itm_fig (k := 1) (f := q) (by omega) (by omega)
          have hq : figB q 0 = true → pt q = none := fun h => by
            unfold figB at h
            rw [Bool.and_eq_true] at h
            exact pt_free (dec_free h.1)
          simp [tl, hb, e1, e3]
          by_cases h : figB p 0 = true
          · by_cases h2 : figB q 0 = true
            · rw [if_pos ⟨h, h2⟩, if_pos h, hq h2, e2 h, e4 h2]
              simp [h2]
            · rw [if_neg fun z => h2 z.2, if_pos h]
              cases hqq : pt q with
              | none => simp [h2]
              | some ab => simp
          · rw [if_neg fun z => h z.1, if_neg h]
      · cases hb : pt b with
        | none => simp [tl, hb]
        | some pq =>
          obtain ⟨p, q⟩ := pq
          obtain ⟨e1, e2⟩ := itm_fig (k := 2) (f := p) (by omega) (by omega)
          have e5 : itmB 0 (rdI 0 q) = bodyB (.s q) := rfl
          have e6 : rdI 0 q = .s q := rfl
          simp [tl, hb, e1, e5, e6]
          by_cases h : figB p 1 = true
          · by_cases h2 : bodyB (.s q) = true
            · rw [if_pos ⟨h, h2⟩, if_pos h, if_pos h2, e2 h]
            · rw [if_neg fun z => h2 z.2, if_pos h, if_neg h2]
          · rw [if_neg fun z => h z.1, if_neg h]
end Ag

end
/-! ## N5 -/
section
set_option linter.all false
set_option maxRecDepth 100000
namespace Ag
open PySem PySem.Spec PyProof.Rows L2
open SX (S S_len S_cat S_inj)
def gp : Bool → List Nat
  | true => [32]
  | false => []
def pt3 (z : List Nat) : List Nat × Bool × List Nat := match pt z with
  | none => (z, false, [])
  | some (a, b) => (a, true, b)
theorem part3 (z : List Nat) : Txt.partition (S z) (Str.ofString " ") = (S (pt3 z).1, S (gp (pt3 z).2.1), S (pt3 z).2.2) := by
  rw [part32]
  unfold pt3
  cases pt z with
  | none => rfl
  | some ab => rfl
theorem pt3_sub (z : List Nat) : ((pt3 z).1.length ≤ z.length ∧ (∀ c ∈ (pt3 z).1, c ∈ z)) ∧ (pt3 z).2.2.length ≤ z.length ∧ ∀ c ∈ (pt3 z).2.2, c ∈ z := by
  unfold pt3
  cases h : pt z with
  | none => simp
  | some ab =>
    obtain ⟨a, b⟩ := ab
    obtain ⟨rfl, _⟩ := pt_some h
    simp
    refine ⟨fun c hc => .inl hc, by omega, fun c hc => .inr (.inr hc)⟩
theorem told3 (z : List Nat) : rdP z = match formOf (pt3 z).1 with
    | none => none
    | some ks => if decide (ks = []) = !(pt3 z).2.1 then tl ks (pt3 z).2.1 (pt3 z).2.2 [.s (pt3 z).1] else none := by
  rw [told_rd]
  unfold toldP pt3
  cases pt z with
  | none =>
    simp only
    cases formOf z with
    | none => rfl
    | some ks => cases ks <;> simp [tl]
  | some ab =>
    obtain ⟨a, b⟩ := ab
    simp only
    cases formOf a with
    | none => rfl
    | some ks => cases ks <;> simp
theorem gpS (g : Bool) : decide (gp g = []) = !g := by cases g <;> rfl
theorem mkS (ks : List Nat) : decide (ks.map mark = []) = decide (ks = []) := by cases ks <;> simp
theorem bl_ne (a b : Bool) : (!decide (V.bl a = V.bl b)) = (a != b) := by cases a <;> cases b <;> simp
theorem gp32 (g : Bool) : decide (gp g = [32]) = g := by cases g <;> rfl
theorem fig_non (l : List Nat) (low : Nat) : decide (figV l low = .non) = !figB l low := by
  unfold figV
  cases h : figB l low with
  | true => rw [if_pos rfl]; simp
  | false => rw [if_neg (by decide)]; simp
theorem tl3 {k : Nat} (hk : k ≠ 0) (ks : List Nat) (g : Bool) (r : List Nat) (xs : List Itm) : tl (k :: ks) g r xs = if figB (pt3 r).1 (k - 1) = true ∧ (decide (ks = []) = !(pt3 r).2.1) then tl ks (pt3 r).2.1 (pt3 r).2.2 (xs ++ [.i ((digitsVal (pt3 r).1 : Nat) : Int)]) else none := by
  unfold pt3
  rw [tl, if_neg hk]
  cases pt r with
  | none => simp
  | some ab => simp
theorem fig_int {l : List Nat} {low : Nat} (h : figB l low = true) : PySem.intText? (S l) = some ((digitsVal l : Nat) : Int) ∧ l.length ≤ 10 := by
  unfold figB at h
  rw [Bool.and_eq_true] at h
  obtain ⟨d1, d2⟩ := isDec_digs h.1
  obtain ⟨k, hk, e⟩ := isDec_iff.mp h.1
  have hl : l.length ≤ 10 := by rw [e]; exact numL_len10 hk
  exact ⟨int_S d1 d2 (by omega), hl⟩
def ToldI (z wd ks : List Nat) (H : Hp) (i : Nat) (σ : L2.St) (H' : Hp) : Prop := ∃ (e : Addr) (xs : List Itm) (g : Bool) (r : List Nat) (x6 x7 x8 : Option V),
  σ = [some (.str (S z)), some (.str (S wd)), some (.str (S (gp g))), some (.str (S r)), some (.str (S (ks.map mark))), some (.ref e), x6, x7, x8] ∧ H e = none ∧ H' e = some (.tup (xs.map Itm.v)) ∧ Same H H' ∧ xs ≠ [] ∧ xs.length ≤ i + 1 ∧
  asc r ∧ r.length ≤ 50000 ∧ rdP z = tl (ks.drop i) g r xs
section
variable {P : Program} {w : World} {K : PySem.W.Frag} {mg : Str → Option Value} {base : Heap} {tm tn tb : Tok}
def spTold : Sp := fun vs H Q _ => ∃ z : List Nat, vs = [.str (S z)] ∧ asc z ∧ z.length ≤ 50000 ∧ (rdP z = none → ∀ H', Same H H' → Q .non H') ∧
  ∀ ms, rdP z = some ms → ∀ t H', H t = none → Same H H' → H' t = some (.tup (ms.map Itm.v)) → Q (.ref t) H'
theorem ok_told {f f1 f2 f3 : Addr} {fd fd1 fd2 fd3 : FuncData} (F : Fn K mg "_law_told" s__law_told ["_law_text_here"] f fd) (B : Con mg tm tn tb)
    (F__law_parts : Fn K mg "_law_parts" s__law_parts ["_law_word"] f1 fd1) (F__law_is_body : Fn K mg "_law_is_body" s__law_is_body ["_law_thing"] f2 fd2)
    (F__law_figure : Fn K mg "_law_figure" s__law_figure ["_law_word", "_law_low"] f3 fd3) : FnOk P w K mg base CX0 2 f fd ["_law_text_here"] spTold := by
  have G__law_parts : FnOk P w K mg base CX0 1 f1 fd1 ["_law_word"] spParts := ok_parts F__law_parts
  have G__law_is_body : FnOk P w K mg base CX0 1 f2 fd2 ["_law_thing"] spLBody := ok_lbody F__law_is_body B
  have G__law_figure : FnOk P w K mg base CX0 1 f3 fd3 ["_law_word", "_law_low"] spFig := ok_figure F__law_figure B
  refine F.F.ok sc__law_told (fun vs H Q E h => ?_) (fun cdv A outer s H vs Q E hr h => ?_)
  · obtain ⟨z, rfl, _⟩ := h
    rfl
  · obtain ⟨z, rfl, az, lz, qn, qs⟩ := h
    refine ⟨_, (pss_cons (ps_asg (pe_partition (pv 0) pe_str) (pg_tup rfl (pgs_cons (pg_name (i := 1) sc__law_told.nd rfl (Or.inl rfl)) (pgs_cons (pg_name (i := 2) sc__law_told.nd rfl (Or.inl rfl)) (pgs_cons (pg_name (i := 3) sc__law_told.nd rfl (Or.inl rfl)) pgs_nil)))))
      (pss_cons (ps_par (i := 4) (j := 5) (by rfl) sc__law_told.nd rfl rfl (by decide) rfl rfl (pa_cons (pe_call G__law_parts (hr.mono (by decide)) (by rfl) F__law_parts.g F__law_parts.F.kp F__law_parts.b .nil pass0 (pa_cons (pv 1) pa_nil)) (pa_cons (pe_tup (pa_cons (pv 1) pa_nil)) pa_nil)) (by rfl))
      (pss_cons (ps_if (PW.pt (pw_or (pt_cmpR op_isN (pv 4) pe_non (nomark _)) (pw_or1 (pt_cmpR op_ne (pe_cmpR op_eq (pv 4) pe_str (nomark _)) (pe_cmpR op_eq (pv 2) pe_str (nomark _)) (nomark _)))))
      (pss_one (ps_ret pe_non))
      pss_nil)
      (pss_cons (ps_for PassesOwn.never rfl (pi_enumS (by rfl) B.n_enumerate (pa_cons (pv 4) pa_nil)) (pg_tup rfl (pgs_cons (pg_name (i := 6) sc__law_told.nd rfl (Or.inl rfl)) (pgs_cons (pg_name (i := 7) sc__law_told.nd rfl (Or.inl rfl)) pgs_nil)))
      (pss_cons (ps_if (pt_cmpR op_eq (pv 7) pe_str (nomark _))
        (pss_one (ps_ret (pe_ifExp (PW.pt (pw_and (pt_cmpR op_eq (pv 2) pe_str (nomark _)) (pw_and1 (pt_val (pe_call G__law_is_body (hr.mono (by decide)) (by rfl) F__law_is_body.g F__law_is_body.F.kp F__law_is_body.b .nil pass0 (pa_cons (pv 3) pa_nil)))))) (pe_op op_catA (pv 5) (pe_tup (pa_cons (pv 3) pa_nil))) pe_non)))
        pss_nil)
        (pss_cons (ps_asg (pe_partition (pv 3) pe_str) (pg_tup rfl (pgs_cons (pg_name (i := 8) sc__law_told.nd rfl (Or.inl rfl)) (pgs_cons (pg_name (i := 2) sc__law_told.nd rfl (Or.inl rfl)) (pgs_cons (pg_name (i := 3) sc__law_told.nd rfl (Or.inl rfl)) pgs_nil)))))
        (pss_cons (ps_if (PW.pt (pw_or (pt_cmpR op_isN (pe_call G__law_figure (hr.mono (by decide)) (by rfl) F__law_figure.g F__law_figure.F.kp F__law_figure.b .nil pass0 (pa_cons (pv 8) (pa_cons (pe_callTy call_int_str (by rfl) B.n_int (by decide +kernel) (pa_cons (pv 7) pa_nil)) pa_nil))) pe_non (nomark _)) (pw_or1 (pt_cmpR op_ne (pe_cmpR op_eq (pv 6) (pe_op op_sub (pe_callB call_len_str (by rfl) B.n_len PySem.boot_len (pa_cons (pv 4) pa_nil)) pe_int) (nomark _)) (pe_cmpR op_eq (pv 2) pe_str (nomark _)) (nomark _)))))
        (pss_one (ps_ret pe_non))
        pss_nil)
        (pss_one (ps_set (i := 5) sc__law_told.nd rfl (.inl rfl) (pe_op op_catA (pv 5) (pe_tup (pa_cons (pe_callTy call_int_str (by rfl) B.n_int (by decide +kernel) (pa_cons (pv 8) pa_nil)) pa_nil)))))))))
      (pss_one (ps_ret (pv 5))))))), ?_⟩
    refine ⟨_, rfl, ⟨_, rfl⟩, S z, Str.ofString " ", rfl, rfl, by decide +kernel, sz (by rw [S_len]; omega), fun p1 hp1 => ?_⟩
    rw [part3]
    refine ⟨p1, _, rfl, SqT.of upd_same, rfl, _, _, rfl, _, _, rfl, _, _, rfl, rfl, ?_⟩
    obtain ⟨⟨lw, aw⟩, lr, ar⟩ := pt3_sub z
    have h3 := told3 z
    generalize (pt3 z).1 = wd at lw aw h3 ⊢
    generalize (pt3 z).2.1 = g at h3 ⊢
    generalize (pt3 z).2.2 = r at lr ar h3 ⊢
    have sm1 := same_new (o := .tup [V.str (S wd), V.str (S (gp g)), V.str (S r)]) hp1
    generalize upd H p1 (.tup [V.str (S wd), V.str (S (gp g)), V.str (S r)]) = H1 at sm1 ⊢
    refine ⟨_, rfl, wd, rfl, fun H2 sm2 => ⟨_, rfl, sz (by show 1 ≤ 16000000; decide), fun e he => ⟨_, _, rfl, ?_⟩⟩⟩
    have sm3 := (sm1.trans sm2).trans (same_new (o := .tup [V.str (S wd)]) he)
    have he3 : upd H2 e (.tup [V.str (S wd)]) e = some (.tup (([.s wd] : List Itm).map Itm.v)) := upd_same
    have he0 : H e = none := (sm1.trans sm2).free he
    generalize upd H2 e (.tup [V.str (S wd)]) = H3 at sm3 he3 ⊢
    cases hf : formOf wd with
    | none =>
      rw [hf] at h3
      exact ⟨_, rfl, rfl, _, rfl, iteT (iteT (qn h3 H3 sm3))⟩
    | some ks =>
      rw [hf] at h3
      refine ⟨_, rfl, rfl, _, rfl, iteF ?_⟩
      refine ⟨_, rfl, rfl, _, rfl, rfl, rfl, _, rfl, ?_⟩
      rw [bl_ne, show mkV (some ks) = V.str (S (ks.map mark)) from rfl, str_eq emptyS, str_eq emptyS, gpS, mkS]
      by_cases hc : decide (ks = []) = !g
      · have h3 : rdP z = tl ks g r [.s wd] := by rw [h3]; exact if_pos hc
        rw [hc, bne_self_eq_false]
        refine iteF ?_
        have hk2 := form_le hf
        have hsz : (S (ks.map mark)).cps.size = ks.length := by simp
        refine ⟨_, rfl, S (ks.map mark), rfl, for_it walk_enumS (ToldI z wd ks H) ⟨e, [.s wd], g, r, none, none, none, rfl, he0, he3, sm3, by simp, by simp, fun c hc => az c (ar c hc), by omega, by simpa using h3⟩ (fun _ _ _ _ _ => trivial) ?_ ?_⟩
        · rintro i x σ H4 H5 hi ⟨e', xs, g', r', x6, x7, x8, rfl, he', hxs, sm, hne, hlx, ar', lr', hrd⟩ ⟨T, d, rfl, hT, rfl, hd⟩
          rw [hsz] at hi
          obtain ⟨k, hk, rfl⟩ : ∃ k, ks[i]? = some k ∧ mark k = d := by
            have : (ks.map mark)[i]? = some d := by simpa using hd
            rw [List.getElem?_map] at this
            exact Option.map_eq_some_iff.mp this
          have hkk := hk2.2 k (List.mem_of_getElem? hk)
          have hdr : ks.drop i = k :: ks.drop (i + 1) := by
            rw [List.drop_eq_getElem_cons hi]
            congr 1
            rw [List.getElem?_eq_getElem hi] at hk
            exact Option.some.inj hk
          rw [hdr] at hrd
          refine ⟨T, _, rfl, SqT.of upd_same, rfl, _, _, rfl, _, _, rfl, rfl, ?_⟩
          have smT := sm.trans (same_new (o := .tup [V.int (i : Nat), V.str ⟨#[mark k]⟩]) hT)
          have hxT : upd H4 T (.tup [V.int (i : Nat), V.str ⟨#[mark k]⟩]) e' = some (.tup (xs.map Itm.v)) := same_new hT _ _ hxs
          generalize upd H4 T (.tup [V.int (i : Nat), V.str ⟨#[mark k]⟩]) = H5 at smT hxT ⊢
          refine ⟨_, rfl, rfl, _, rfl, ?_⟩
          rw [show V.str ⟨#[mark k]⟩ = V.str (S [mark k]) from rfl, mark_body hkk]
          refine ite2 (fun h => ?_) (fun h => ?_)
          · have h0 : k = 0 := of_decide_eq_true h
            subst h0
            rw [tl, if_pos rfl] at hrd
            refine ⟨_, rfl, rfl, _, rfl, ?_⟩
            rw [str_eq blankS, gp32]
            cases g' with
            | false => exact iteF (iteF (qn hrd H5 smT))
            | true =>
              refine iteT ?_
              refine ⟨_, rfl, r', rfl, ar', by omega, fun H6 sm6 => ⟨_, rfl, ?_⟩⟩
              have sm6' := smT.trans sm6
              cases hb : bodyB (.s r') with
              | false => exact iteF (qn (by rw [hrd, hb]; simp) H6 sm6')
              | true =>
                refine iteT ?_
                refine ⟨_, rfl, _, rfl, sz (by show 1 ≤ 16000000; decide), fun t ht => ?_⟩
                have hx6 := sm6 _ _ hxT
                have smt := same_new (o := .tup [V.str (S r')]) ht
                refine ⟨e', t, _, _, rfl, rfl, SqT.of (smt _ _ hx6), SqT.of upd_same, sz (by rw [List.length_map, List.length_singleton]; omega), (fun h => absurd (List.map_eq_nil_iff.mp h) hne), (fun _ h => by cases h), fun _ _ u hu => ?_⟩
                refine qs (xs ++ [.s r']) (by rw [hrd, hb]; simp) u _ ((sm6'.trans smt).free hu) ((sm6'.trans smt).trans (same_new hu)) ?_
                rw [List.map_append]
                exact upd_same
          · have h0 : k ≠ 0 := fun z => h (decide_eq_true z)
            rw [tl3 h0] at hrd
            refine ⟨_, rfl, ⟨_, rfl⟩, S r', Str.ofString " ", rfl, rfl, by decide +kernel, sz (by rw [S_len]; omega), fun p2 hp2 => ?_⟩
            rw [part3]
            refine ⟨p2, _, rfl, SqT.of upd_same, rfl, _, _, rfl, _, _, rfl, _, _, rfl, rfl, ?_⟩
            obtain ⟨⟨lp, ap⟩, lq, aq⟩ := pt3_sub r'
            generalize (pt3 r').1 = p at lp ap hrd ⊢
            generalize (pt3 r').2.1 = g2 at hrd ⊢
            generalize (pt3 r').2.2 = r2 at lq aq hrd ⊢
            have sm6 := same_new (o := .tup [V.str (S p), V.str (S (gp g2)), V.str (S r2)]) hp2
            have hx6 := sm6 _ _ hxT
            have sm6 := smT.trans sm6
            generalize upd H5 p2 (.tup [V.str (S p), V.str (S (gp g2)), V.str (S r2)]) = H6 at sm6 hx6 ⊢
            have api : asc p := fun c hc => ar' c (ap c hc)
            refine ⟨_, rfl, _, rfl, S [mark k], _, rfl, mark_int hkk h0, by rw [S_len]; show 1 ≤ 640; decide, p, k - 1, rfl, api, by omega, fun H7 sm7 => ⟨rfl, _, rfl, ?_⟩⟩
            have hx7 := sm7 _ _ hx6
            have sm7 := sm6.trans sm7
            rw [fig_non]
            cases hfb : figB p (k - 1) with
            | false => exact iteT (iteT (qn (by rw [hrd, hfb]; simp) H7 sm7))
            | true =>
              refine iteF ?_
              obtain ⟨hpi, hpl⟩ := fig_int hfb
              rw [hfb] at hrd
              refine ⟨_, rfl, _, rfl, S (ks.map mark), rfl, sz (by rw [S_len, List.length_map]; omega), _, _, rfl, rfl, ?_⟩
              refine ⟨rfl, _, rfl, rfl, rfl, _, rfl, ?_⟩
              have hlast : decide (V.int ((i : Nat) : Int) = V.int (((S (ks.map mark)).length : Int) - 1)) = decide (ks.drop (i + 1) = []) := by
                rw [S_len, List.length_map, Bool.eq_iff_iff, decide_eq_true_eq, decide_eq_true_eq, List.drop_eq_nil_iff]
                constructor
                · intro e
                  injection e with e
                  omega
                · intro e
                  congr 1
                  omega
              rw [bl_ne, hlast, str_eq emptyS, gpS]
              by_cases hc2 : decide (ks.drop (i + 1) = []) = !g2
              · rw [if_pos ⟨rfl, hc2⟩] at hrd
                rw [hc2, bne_self_eq_false]
                refine iteF ?_
                refine ⟨_, rfl, _, rfl, S p, _, rfl, hpi, by rw [S_len]; omega, sz (by show 1 ≤ 16000000; decide), fun t ht => ?_⟩
                have smt := same_new (o := .tup [V.int ((digitsVal p : Nat) : Int)]) ht
                refine ⟨e', t, _, _, rfl, rfl, SqT.of (smt _ _ hx7), SqT.of upd_same, sz (by rw [List.length_map, List.length_singleton]; omega), (fun h => absurd (List.map_eq_nil_iff.mp h) hne), (fun _ h => by cases h), fun _ _ u hu => ?_⟩
                refine ⟨u, xs ++ [.i ((digitsVal p : Nat) : Int)], g2, r2, _, _, _, rfl, (sm7.trans smt).free hu, ?_, (sm7.trans smt).trans (same_new hu), by simp, by rw [List.length_append, List.length_singleton]; omega, fun c hc => ar' c (aq c hc), by omega, hrd⟩
                rw [List.map_append]
                exact upd_same
              · have hb : (decide (ks.drop (i + 1) = []) != !g2) = true := by
                  rw [bne_iff_ne]
                  exact hc2
                rw [hb]
                exact iteT (qn (by rw [hrd]; exact if_neg fun z => hc2 z.2) H7 sm7)
        · rintro σ H4 ⟨e', xs, g', r', x6, x7, x8, rfl, he', hxs, sm, hne, hlx, ar', lr', hrd⟩
          rw [hsz, List.drop_length] at hrd
          exact ⟨_, rfl, qs xs hrd e' H4 he' sm hxs⟩
      · have hb : (decide (ks = []) != !g) = true := by
          rw [bne_iff_ne]
          exact hc
        rw [hb]
        exact iteT (qn (by rw [h3]; exact if_neg hc) H3 sm3)
end
end Ag

end
/-! ## N6 -/
section
set_option linter.all false
set_option maxRecDepth 100000
namespace Ag
open PySem PySem.Spec PyProof.Rows L2
open SX (S S_len S_cat S_inj)
/-! ### words between blanks -/
def szL (ws : List (List Nat)) : Nat := (ws.map (·.length)).sum
theorem szL_app (a b : List (List Nat)) : szL (a ++ b) = szL a + szL b := by
  unfold szL
  rw [List.map_append, List.sum_append]
theorem spl_sz : ∀ (l acc : List Nat), szL (TL.spl [32] 0 acc l) + (TL.spl [32] 0 acc l).length = acc.length + l.length + 1 ∧ 1 ≤ (TL.spl [32] 0 acc l).length ∧ ∀ f ∈ TL.spl [32] 0 acc l, ∀ c ∈ f, c ∈ acc ++ l
  | [], acc => by
    rw [TL.spl_nil]
    simp [szL]
  | c :: r, acc => by
    by_cases h : c = 32
    · subst h
      have hp : TL.pre [32] (32 :: r) = true := by simp [TL.pre]
      rw [TL.spl_hit hp]
      obtain ⟨i1, i2, i3⟩ := spl_sz r []
      have e : szL (acc :: TL.spl [32] 0 [] r) = acc.length + szL (TL.spl [32] 0 [] r) := by simp [szL]
      refine ⟨?_, by simp, ?_⟩
      · show szL (acc :: TL.spl [32] 0 [] r) + (acc :: TL.spl [32] 0 [] r).length = _
        rw [e, List.length_cons, List.length_cons]
        simp only [List.length_nil] at i1
        omega
      · intro f hf d hd
        rcases List.mem_cons.mp hf with rfl | hf
        · exact List.mem_append_left _ hd
        · have := i3 f hf d hd
          rw [List.nil_append] at this
          exact List.mem_append_right _ (List.mem_cons_of_mem _ this)
    · have hp : TL.pre [32] (c :: r) = false := by
        simp [TL.pre]
        exact h
      rw [TL.spl_miss hp]
      obtain ⟨i1, i2, i3⟩ := spl_sz r (acc ++ [c])
      refine ⟨?_, i2, fun f hf d hd => ?_⟩
      · rw [List.length_append, List.length_singleton] at i1
        rw [List.length_cons]
        omega
      · simpa using i3 f hf d hd
theorem join_sz : ∀ ws : List (List Nat), (TL.joinL [32] ws).length ≤ szL ws + ws.length ∧ ((∀ f ∈ ws, asc f) → asc (TL.joinL [32] ws))
  | [] => ⟨Nat.zero_le _, fun _ c hc => by cases hc⟩
  | [p] => ⟨by simp [TL.joinL, szL], fun h => h p List.mem_cons_self⟩
  | p :: q :: r => by
    obtain ⟨i1, i2⟩ := join_sz (q :: r)
    have e : szL (p :: q :: r) = p.length + szL (q :: r) := by simp [szL]
    refine ⟨?_, fun h => ?_⟩
    · simp only [TL.joinL, List.length_append, List.length_singleton, List.length_cons, List.length_nil] at i1 ⊢
      rw [e]
      omega
    · simp only [TL.joinL]
      refine asc_app (h p List.mem_cons_self) (asc_app (fun c hc => ?_) (i2 fun f hf => h f (List.mem_cons_of_mem _ hf)))
      rw [List.mem_singleton.mp hc]
      decide
theorem szL_take (n : Nat) (ws : List (List Nat)) : szL (ws.take n) + szL (ws.drop n) = szL ws := by
  rw [← szL_app, List.take_append_drop]
theorem szL_drop1 (n : Nat) (ws : List (List Nat)) : szL (ws.drop (n + 1)) ≤ szL (ws.drop n) := by
  have : ws.drop (n + 1) = (ws.drop n).drop 1 := by rw [List.drop_drop]
  rw [this]
  have := szL_take 1 (ws.drop n)
  omega
theorem cutV_to {xs : List V} {b : Nat} : cutV xs none (some (b : Int)) = xs.take b := by
  unfold cutV
  rw [HT.sIx_none, HT.sIx_nat, List.drop_zero, Nat.sub_zero]
  by_cases hb : b ≤ xs.length
  · rw [Nat.min_eq_left hb]
  · rw [Nat.min_eq_right (by omega), List.take_of_length_le (Nat.le_refl _), List.take_of_length_le (by omega)]
theorem cutV_from {xs : List V} {a : Nat} (ha : a ≤ xs.length) : cutV xs (some (a : Int)) none = xs.drop a := by
  unfold cutV
  rw [sIx_at ha, HT.sIx_none]
  rw [List.take_of_length_le (by rw [List.length_drop]; exact Nat.le_refl _)]
theorem near_key {x : V} (t : Str) (ht : (t.cps.toList.all (· < 128) && decide (t.cps.toList.length ≤ 11)) = true) (e : x = .str t) : ∃ l, x = .str (S l) ∧ asc l ∧ l.length ≤ 11 := by
  rw [Bool.and_eq_true, decide_eq_true_eq] at ht
  refine ⟨t.cps.toList, by rw [e, SX.S_tl t], fun c hc => ?_, ht.2⟩
  have := List.all_eq_true.mp ht.1 c hc
  exact of_decide_eq_true this
def nearL : List V := [.str (Str.ofString "0"), .str (Str.ofString "00"), .str (Str.ofString "01"), .str (Str.ofString "+1"), .str (Str.ofString "-1"), .str (Str.ofString "1000000000"), .str (Str.ofString "1000000001"), .str (Str.ofString "1_0"), .str (Str.ofString ""), .str (Str.ofString "ask"), .str (Str.ofString "answer"), .str (Str.ofString "look"), .str (Str.ofString "well"), .str (S (List.replicate 11 [57]).flatten), .str (Str.ofString "upto"), .str (Str.ofString "Ask"), .str (Str.ofString "forgot"), .str (Str.ofString "away"), .str (Str.ofString "hello"), .str (Str.ofString "past"), .str (Str.ofString "1."), .str (Str.ofString "12"), .str (Str.ofString "0x1"), .str (Str.ofString "007"), .str (Str.ofString "10000000000")]
theorem near_all : ∀ y ∈ nearL, ∃ l, y = .str (S l) ∧ asc l ∧ l.length ≤ 11 := by
  intro y hy
  unfold nearL at hy
  simp only [List.mem_cons, List.not_mem_nil, or_false] at hy
  rcases hy with h | h | h | h | h | h | h | h | h | h | h | h | h | h | h | h | h | h | h | h | h | h | h | h | h
  all_goals exact near_key _ (by decide +kernel) h
section
variable {P : Program} {w : World} {K : PySem.W.Frag} {mg : Str → Option Value} {base : Heap} {tm tn tb : Tok}
def spNear : Sp := fun vs H Q _ => ∃ (p c : Addr) (z : List Nat), vs = [.ref p, .str (S z)] ∧ Dk p c H ∧ asc z ∧ z.length ≤ 10000 ∧ ∀ (l : List Nat) H', asc l → l.length ≤ 4 * z.length + 13 → Gx p c H H' → Q (.str (S l)) H'
theorem ok_near {f f1 f2 f3 : Addr} {fd fd1 fd2 fd3 : FuncData} (F : Fn K mg "_law_near" s__law_near ["_law_deck_here", "_law_text_here"] f fd) (B : Con mg tm tn tb) (F__law_draw : Fn K mg "_law_draw" s__law_draw ["_law_deck_here", "_law_below"] f1 fd1)
    (G__law_draw : FnOk P w K mg base CX0 1 f1 fd1 ["_law_deck_here", "_law_below"] spDraw) (F__law_pick : Fn K mg "_law_pick" s__law_pick ["_law_deck_here", "_law_some"] f2 fd2) (G__law_pick : FnOk P w K mg base CX0 2 f2 fd2 ["_law_deck_here", "_law_some"] spPick)
    (F__law_spoiled : Fn K mg "_law_spoiled" s__law_spoiled ["_law_deck_here", "_law_stream"] f3 fd3) (G__law_spoiled : FnOk P w K mg base CX0 3 f3 fd3 ["_law_deck_here", "_law_stream"] spSpoiled) : FnOk P w K mg base CX0 4 f fd ["_law_deck_here", "_law_text_here"] spNear := by
  refine F.F.ok sc__law_near (fun vs H Q E h => ?_) (fun cdv A outer s0 H vs Q E hr h => ?_)
  · obtain ⟨p, c, z, rfl, _⟩ := h
    rfl
  · obtain ⟨p, c, z, rfl, dk, az, lz, q⟩ := h
    refine ⟨_, (pss_cons (ps_par (i := 2) (j := 3) (by rfl) sc__law_near.nd rfl rfl (by decide) rfl rfl (pa_cons (pe_call G__law_draw (hr.mono (by decide)) (by rfl) F__law_draw.g F__law_draw.F.kp F__law_draw.b .nil pass0 (pa_cons (pv 0) (pa_cons pe_int pa_nil))) (pa_cons (pe_bm PySem.F.plainAttrs_str PySem.F.slot_str_split PySem.F.type_str_split mt_split (pv 1) (pa_cons pe_str pa_nil)) pa_nil)) (by rfl))
      (pss_cons (ps_if (pt_cmpR op_lt (pv 2) pe_int (nomark _))
      (pss_one (ps_ret (pe_call G__law_spoiled (hr.mono (by decide)) (by rfl) F__law_spoiled.g F__law_spoiled.F.kp F__law_spoiled.b .nil pass0 (pa_cons (pv 0) (pa_cons (pv 1) pa_nil)))))
      pss_nil)
      (pss_cons (ps_set (i := 4) sc__law_near.nd rfl (.inl rfl) (pe_call G__law_draw (hr.mono (by decide)) (by rfl) F__law_draw.g F__law_draw.F.kp F__law_draw.b .nil pass0 (pa_cons (pv 0) (pa_cons (pe_callB call_len_seq (by rfl) B.n_len PySem.boot_len (pa_cons (pv 3) pa_nil)) pa_nil))))
      (pss_cons (ps_set (i := 5) sc__law_near.nd rfl (.inl rfl) (pe_lst (pa_cons pe_str (pa_cons pe_str (pa_cons pe_str (pa_cons pe_str (pa_cons pe_str (pa_cons pe_str (pa_cons pe_str (pa_cons pe_str (pa_cons pe_str (pa_cons pe_str (pa_cons pe_str (pa_cons pe_str (pa_cons pe_str (pa_cons (pe_op op_rep_str pe_str pe_int) pa_nil))))))))))))))))
      (pss_cons (ps_set (i := 5) sc__law_near.nd rfl (.inl rfl) (pe_op op_cat (pv 5) (pe_lst (pa_cons pe_str (pa_cons pe_str (pa_cons pe_str (pa_cons pe_str (pa_cons pe_str (pa_cons pe_str (pa_cons pe_str (pa_cons pe_str (pa_cons pe_str (pa_cons pe_str (pa_cons pe_str pa_nil))))))))))))))
      (pss_cons (ps_if (pt_cmpR op_eq (pv 2) pe_int (nomark _))
      (pss_one (ps_ret (pe_join pe_str (pe_op op_cat (pe_op op_cat (pe_slice sl_list (pv 3) po_none (po_some (pv 4))) (pe_lst (pa_cons (pe_call G__law_pick (hr.mono (by decide)) (by rfl) F__law_pick.g F__law_pick.F.kp F__law_pick.b .nil pass0 (pa_cons (pv 0) (pa_cons (pv 5) pa_nil))) pa_nil))) (pe_slice sl_list (pv 3) (po_some (pv 4)) po_none)))))
      pss_nil)
      (pss_one (ps_ret (pe_join pe_str (pe_op op_cat (pe_op op_cat (pe_slice sl_list (pv 3) po_none (po_some (pv 4))) (pe_lst (pa_cons (pe_call G__law_pick (hr.mono (by decide)) (by rfl) F__law_pick.g F__law_pick.F.kp F__law_pick.b .nil pass0 (pa_cons (pv 0) (pa_cons (pv 5) pa_nil))) pa_nil))) (pe_slice sl_list (pv 3) (po_some (pe_op op_add (pv 4) pe_int)) po_none))))))))))), ?_⟩
    refine ⟨_, rfl, p, c, 6, rfl, dk, by decide, by decide, fun way H1 hway g1 => ?_⟩
    refine ⟨_, rfl, rfl, S z, _, rfl, rfl, by decide +kernel, sz (by rw [S_len]; omega), fun L hL => ⟨_, _, rfl, ?_⟩⟩
    rw [blankS, SX.split_S (by simp) (by decide)]
    obtain ⟨w1, w2, w3⟩ := spl_sz z []
    generalize TL.spl [32] 0 [] z = ws at w1 w2 w3 ⊢
    rw [List.length_nil, Nat.zero_add] at w1
    have aws : ∀ f ∈ ws, asc f := fun f hf c hc => az c (by simpa using w3 f hf c hc)
    have g2 := g1.trans (Gx.new (o := .lst ((ws.map S).map V.str)) g1.2 hL)
    have aL : At p c (upd H1 L (.lst ((ws.map S).map V.str))) L (.lst ((ws.map S).map V.str)) := At.new g1.2 hL
    generalize upd H1 L (.lst ((ws.map S).map V.str)) = H2 at g2 aL ⊢
    refine ⟨_, rfl, _, _, rfl, rfl, _, rfl, ?_⟩
    refine ite2 (fun _ => ?_) (fun _ => ?_)
    · exact ⟨_, rfl, _, rfl, p, c, z, rfl, g2.2, az, by omega, fun l H' al ll g => q l H' al (by omega) (g2.trans g)⟩
    have lws : ((ws.map S).map V.str).length = ws.length := by rw [List.length_map, List.length_map]
    refine ⟨_, rfl, _, rfl, L, _, rfl, .inl (SqL.of aL.2.2), p, c, _, rfl, g2.2, by rw [lws]; omega, by rw [lws]; omega, fun at0 H3 hat g3 => ?_⟩
    rw [lws] at hat
    have aL3 := aL.gx g3
    have g3 := g2.trans g3
    refine ⟨[57], 11, congrArg V.str (by decide +kernel), rfl, by decide, by decide, by decide, sz (by show 14 ≤ 16000000; decide), fun a ha => ?_⟩
    refine ⟨_, rfl, sz (by show 11 ≤ 16000000; decide), fun b hb => ?_⟩
    have nab : a ≠ b := ne_of_none (H := upd H3 a _) upd_same hb
    refine ⟨a, b, _, _, rfl, rfl, by rw [upd_ne nab, upd_same], upd_same, sz (by show 25 ≤ 16000000; decide), fun d hd => ?_⟩
    have ga := Gx.new g3.2 ha (o := .lst (nearL.take 14))
    have gb := Gx.new (ga.2) hb (o := .lst (nearL.drop 14))
    have gd := Gx.new (gb.2) hd (o := .lst nearL)
    have ad := At.new (gb.2) hd (o := .lst nearL)
    have aL4 := ((aL3.gx ga).gx gb).gx gd
    have g4 := ((g3.trans ga).trans gb).trans gd
    have fin : ∀ (k : Nat) (l : List Nat) (H' : Hp), at0 ≤ k → k ≤ at0 + 1 → asc l → l.length ≤ 11 → Gx p c H H' → Q (.str (S (TL.joinL [32] (ws.take at0 ++ [l] ++ ws.drop k)))) H' := by
      intro k l H' h1 h2 al ll g
      have hk : szL (ws.drop k) ≤ szL (ws.drop at0) := by
        rcases (by omega : k = at0 ∨ k = at0 + 1) with rfl | rfl
        · exact Nat.le_refl _
        · exact szL_drop1 _ _
      have ht := szL_take at0 ws
      have hs : szL (ws.take at0 ++ [l] ++ ws.drop k) = szL (ws.take at0) + l.length + szL (ws.drop k) := by
        rw [szL_app, szL_app]
        simp [szL]
      have hn : (ws.take at0 ++ [l] ++ ws.drop k).length ≤ ws.length + 1 := by
        rw [List.length_append, List.length_append, List.length_take, List.length_drop, List.length_singleton]
        omega
      obtain ⟨j1, j2⟩ := join_sz (ws.take at0 ++ [l] ++ ws.drop k)
      refine q _ H' (j2 fun f hf => ?_) (by omega) g
      rcases List.mem_append.mp hf with hf | hf
      · rcases List.mem_append.mp hf with hf | hf
        · exact aws f (List.mem_of_mem_take hf)
        · rw [List.mem_singleton.mp hf]
          exact al
      · exact aws f (List.mem_of_mem_drop hf)
    have fit : ∀ (k : Nat) (l : List Nat), l.length ≤ 11 → (((ws.take at0 ++ [l] ++ ws.drop k).map S).map (·.length)).sum + ((ws.take at0 ++ [l] ++ ws.drop k).map S).length * (S [32]).length ≤ 16777216 := by
      intro k l ll
      have e1 : szL (ws.take at0 ++ [l] ++ ws.drop k) = szL (ws.take at0) + l.length + szL (ws.drop k) := by
        rw [szL_app, szL_app]
        simp [szL]
      have e2 := szL_take at0 ws
      have e3 := szL_take k ws
      rw [SX.lens, S_len, List.length_map]
      have hn : (ws.take at0 ++ [l] ++ ws.drop k).length ≤ ws.length + 1 + ws.length := by
        rw [List.length_append, List.length_append, List.length_take, List.length_drop, List.length_singleton]
        omega
      show szL (ws.take at0 ++ [l] ++ ws.drop k) + _ ≤ _
      simp only [List.length_singleton]
      omega
    refine ⟨_, rfl, rfl, _, rfl, ?_⟩
    refine ite2 (fun _ => ?_) (fun _ => ?_)
    · refine ⟨⟨_, rfl⟩, _, rfl, _, rfl, _, rfl, L, _, rfl, SqL.of aL4.2.2, fun u hu => ?_⟩
      have gu := Gx.new g4.2 hu (o := .lst (cutV ((ws.map S).map V.str) none (some (at0 : Int))))
      have au := At.new g4.2 hu (o := .lst (cutV ((ws.map S).map V.str) none (some (at0 : Int))))
      refine ⟨_, rfl, _, rfl, p, c, .ref d, rfl, gu.2, .inl ⟨d, nearL, rfl, ad.gx gu, (by show 1 ≤ 25; decide), (by show 25 ≤ 100000; decide), fun r x H6 hx g6 => ?_⟩⟩
      obtain ⟨l, rfl, al, ll⟩ := near_all x (List.mem_of_getElem? hx)
      have au6 := au.gx g6
      have aL6 := (aL4.gx gu).gx g6
      have g6 := (g4.trans gu).trans g6
      refine ⟨sz (by show 1 ≤ 16000000; decide), fun e he => ?_⟩
      have ge := Gx.new g6.2 he (o := .lst [V.str (S l)])
      have ae := At.new g6.2 he (o := .lst [V.str (S l)])
      refine ⟨u, e, _, _, rfl, rfl, (au6.gx ge).2.2, ae.2.2, sz (by rw [cutV_to, List.length_take, List.length_map, List.length_map, List.length_singleton]; omega), fun v hv => ?_⟩
      have gv := Gx.new ge.2 hv (o := .lst (cutV ((ws.map S).map V.str) none (some (at0 : Int)) ++ [V.str (S l)]))
      have av := At.new ge.2 hv (o := .lst (cutV ((ws.map S).map V.str) none (some (at0 : Int)) ++ [V.str (S l)]))
      refine ⟨_, rfl, _, rfl, _, rfl, L, _, rfl, SqL.of ((aL6.gx ge).gx gv).2.2, fun u2 hu2 => ?_⟩
      have gu2 := Gx.new gv.2 hu2 (o := .lst (cutV ((ws.map S).map V.str) (some (at0 : Int)) none))
      have au2 := At.new gv.2 hu2 (o := .lst (cutV ((ws.map S).map V.str) (some (at0 : Int)) none))
      have ec : cutV ((ws.map S).map V.str) (some (at0 : Int)) none = ((ws.map S).map V.str).drop (at0) := cutV_from (by rw [List.length_map, List.length_map]; omega)
      refine ⟨v, u2, _, _, rfl, rfl, (av.gx gu2).2.2, au2.2.2, sz (by rw [ec, cutV_to, List.length_append, List.length_take, List.length_drop, List.length_map, List.length_map, List.length_singleton]; omega), fun o ho => ?_⟩
      have el : cutV ((ws.map S).map V.str) none (some (at0 : Int)) ++ [V.str (S l)] ++ cutV ((ws.map S).map V.str) (some (at0 : Int)) none = ((ws.take at0 ++ [l] ++ ws.drop (at0)).map S).map V.str := by
        rw [ec, cutV_to]
        simp [List.map_take, List.map_drop]
      refine ⟨_, o, (ws.take at0 ++ [l] ++ ws.drop (at0)).map S, rfl, rfl, .inl (SqL.of ?_), fit _ l ll, ?_⟩
      · rw [upd_same]
        exact congrArg (fun y => some (HO.lst y)) el
      · rw [SX.join_S]
        exact fin (at0) l _ (by omega) (by omega) al ll ((((g6.trans ge).trans gv).trans gu2).trans (Gx.new gu2.2 ho))
    · refine ⟨⟨_, rfl⟩, _, rfl, _, rfl, _, rfl, L, _, rfl, SqL.of aL4.2.2, fun u hu => ?_⟩
      have gu := Gx.new g4.2 hu (o := .lst (cutV ((ws.map S).map V.str) none (some (at0 : Int))))
      have au := At.new g4.2 hu (o := .lst (cutV ((ws.map S).map V.str) none (some (at0 : Int))))
      refine ⟨_, rfl, _, rfl, p, c, .ref d, rfl, gu.2, .inl ⟨d, nearL, rfl, ad.gx gu, (by show 1 ≤ 25; decide), (by show 25 ≤ 100000; decide), fun r x H6 hx g6 => ?_⟩⟩
      obtain ⟨l, rfl, al, ll⟩ := near_all x (List.mem_of_getElem? hx)
      have au6 := au.gx g6
      have aL6 := (aL4.gx gu).gx g6
      have g6 := (g4.trans gu).trans g6
      refine ⟨sz (by show 1 ≤ 16000000; decide), fun e he => ?_⟩
      have ge := Gx.new g6.2 he (o := .lst [V.str (S l)])
      have ae := At.new g6.2 he (o := .lst [V.str (S l)])
      refine ⟨u, e, _, _, rfl, rfl, (au6.gx ge).2.2, ae.2.2, sz (by rw [cutV_to, List.length_take, List.length_map, List.length_map, List.length_singleton]; omega), fun v hv => ?_⟩
      have gv := Gx.new ge.2 hv (o := .lst (cutV ((ws.map S).map V.str) none (some (at0 : Int)) ++ [V.str (S l)]))
      have av := At.new ge.2 hv (o := .lst (cutV ((ws.map S).map V.str) none (some (at0 : Int)) ++ [V.str (S l)]))
      refine ⟨_, rfl, _, rfl, _, _, rfl, rfl, _, rfl, L, _, rfl, SqL.of ((aL6.gx ge).gx gv).2.2, fun u2 hu2 => ?_⟩
      have gu2 := Gx.new gv.2 hu2 (o := .lst (cutV ((ws.map S).map V.str) (some ((at0 : Int) + 1)) none))
      have au2 := At.new gv.2 hu2 (o := .lst (cutV ((ws.map S).map V.str) (some ((at0 : Int) + 1)) none))
      have ec : cutV ((ws.map S).map V.str) (some ((at0 : Int) + 1)) none = ((ws.map S).map V.str).drop (at0 + 1) := cutV_from (a := at0 + 1) (by rw [List.length_map, List.length_map]; omega)
      refine ⟨v, u2, _, _, rfl, rfl, (av.gx gu2).2.2, au2.2.2, sz (by rw [ec, cutV_to, List.length_append, List.length_take, List.length_drop, List.length_map, List.length_map, List.length_singleton]; omega), fun o ho => ?_⟩
      have el : cutV ((ws.map S).map V.str) none (some (at0 : Int)) ++ [V.str (S l)] ++ cutV ((ws.map S).map V.str) (some ((at0 : Int) + 1)) none = ((ws.take at0 ++ [l] ++ ws.drop (at0 + 1)).map S).map V.str := by
        rw [ec, cutV_to]
        simp [List.map_take, List.map_drop]
      refine ⟨_, o, (ws.take at0 ++ [l] ++ ws.drop (at0 + 1)).map S, rfl, rfl, .inl (SqL.of ?_), fit _ l ll, ?_⟩
      · rw [upd_same]
        exact congrArg (fun y => some (HO.lst y)) el
      · rw [SX.join_S]
        exact fin (at0 + 1) l _ (by omega) (by omega) al ll ((((g6.trans ge).trans gv).trans gu2).trans (Gx.new gu2.2 ho))
end
end Ag

end
/-! ## G1 -/
section
set_option linter.all false
set_option maxRecDepth 100000
namespace Ag
open PySem PySem.Spec PyProof.Rows L2
/-! ### a deed is done: what it returns, or the thing of an own exception -/
abbrev N_got : List Str := ["_law_deed", "e"]
theorem sc_got : FnScope N_got ["_law_deed"] (defScope s__law_got) := ⟨rfl, rfl, rfl, by decide +kernel, rfl, by decide +kernel, by decide +kernel⟩
/-- where the slots' number is known, the wish may lean on it -/
theorem takes_len {X : Cx} {W : WX} (tk : Takes X W) : Takes X (fun cls d σ H => σ.length = X.N.length → W cls d σ H) := fun u s' xx => tk u s' (by
  obtain ⟨a, B, sI, pins', σ', H', cls, d, e, J, nb, up, sky, na, os, ag, z⟩ := xx
  exact ⟨a, B, sI, pins', σ', H', cls, d, e, J, nb, up, sky, na, os, ag, z J.len⟩)
def TGot (C : Addr) : (XK → Hp → VK → Prop) → Hp → VK → Prop := fun deed H Q =>
  deed (fun cls d H' => cls = .ref C ∧ ∃ (dd : Addr) (fs : List (Str × V)) (v : V), d = some dd ∧ H' dd = some (.xd fs) ∧ fs.lookup (Str.ofString "thing") = some v ∧ ∀ p, H' p = none → Q (.ref p) (upd H' p (.tup [.str (Str.ofString "text"), v]))) H
    (fun v H' => 2 ≤ sizeLine ∧ ∀ p, H' p = none → Q (.ref p) (upd H' p (.tup [.str (Str.ofString "told"), v])))
theorem got_gives {X : Cx} {x q : Str} {g C : Addr} {cdg : Value} (hme : X.mg "BadText" = some (.ref C)) (TX : XfC X.K C) (hno : PySem.W.findIn X.K (.ref C) "thing" = some none) (hex : PySem.W.exmOne X.K (.ref C) (.ref C) = some true) :
    LamX.GivesTo X N_got x (defScope s__law_got) g cdg (defBody s__law_got) "_law_deed" q (TGot C) := by
  intro f c' s H Q deed act hc h
  refine ⟨_, pss_one (ps_try_as (X := (cxOf C8.CX0 X.prog X.w X.K X.mg X.base N_got x (defScope s__law_got) g cdg X.A X.stack s H C8.E0).nox) (c := .ref C) (i := 1) (n := "e")
      (tb := fun W D σ H => ∃ Ex : XK, (∀ cls d σ' H', Ex cls d H' → σ'.length = 2 → W cls d σ' H') ∧ σ[0]? = some (some (.ref f)) ∧ H c' = some (LamX.CodeO c' q) ∧ deed Ex H (fun v H' => 2 ≤ sizeLine ∧ ∀ p, H' p = none → D.rt (.ref p) (upd H' p (.tup [.str (Str.ofString "told"), v]))))
      rfl rfl sc_got.nd rfl rfl ⟨rfl, by decide, .inl hme⟩ LamX.takes0 (fun W pn xe tk _ => ?_) (fun a oe cls d pn hz hf => pss_one (ps_ret (pe_tup (pa_cons pe_str (pa_cons (pe_xf TX hno hz hf (pv 1)) pa_nil)))))), ?_⟩
  · refine ⟨fun pins s' σ H' D I h' => ?_⟩
    obtain ⟨Ex, hW, h1, h2, h3⟩ := h'
    have hp := act _ pn xe Ex ⟨215, 24, 215, 33⟩ ⟨215, 24, 215, 35⟩ (takes_len tk) (fun cls d σ' H' e l => hW cls d σ' H' e l)
    exact (pss_one (ps_ret (pe_tup (pa_cons pe_str (pa_cons hp pa_nil))))).run pins s' σ H' D I ⟨h1, h2, h3⟩
  · refine ⟨_, ?_, rfl, hc, h⟩
    rintro cls d σ' H' ⟨rfl, dd, fs, v, rfl, e1, e2, e3⟩ hl
    refine ⟨true, hex, fun _ a ha => ?_, fun z => by cases z⟩
    refine ⟨.ref a, ?_, rfl, rfl, dd, fs, v, rfl, e1, e2, sz (by show 2 ≤ 16000000; decide), fun p hp => e3 p hp⟩
    rw [List.getElem?_set_self (by omega)]
end Ag

end
/-! ## D1 -/
section
set_option linter.all false
set_option maxRecDepth 100000
namespace Ag
open PySem PySem.Spec PyProof.Rows L2
open SX (S S_len S_cat S_inj)
theorem hu66 {k : Nat} {A : Around} (hr : Room k A) : A.units + 66 < cLine := by have := hr.un; omega
theorem tup_gx {p c a : Addr} {H H' : Hp} {xs : List V} (d : Dk p c H) (g : Gx p c H H') (h : H a = some (.tup xs)) : H' a = some (.tup xs) := by
  obtain ⟨m, t, cs, h1, h2, _⟩ := d
  exact g.1 a _ (ne_of h h1 (by intro z; cases z)) (ne_of h h2 (by intro z; cases z)) h
/-! data whose texts are ascii, and whose ints are small -/
mutual
def okD : PyData → Bool
  | .none => true
  | .bool _ => true
  | .int i => decide (0 ≤ i) && decide (i ≤ 1000000000)
  | .str x => x.cps.toList.all (· < 128)
  | .list xs => okAll xs
  | .tuple xs => okAll xs
  | .dict _ => false
def okAll : List PyData → Bool
  | [] => true
  | x :: xs => okD x && okAll xs
end
theorem shown_small {i : Int} (h0 : 0 ≤ i) (h1 : i ≤ 1000000000) : (PyData.int i).shown.length ≤ 12 := by
  rw [PyData.shown_int]
  obtain ⟨n, rfl⟩ := Int.eq_ofNat_of_zero_le h0
  rw [toStr, S_len]
  have : (numL n).length ≤ 10 := TL.numL_len (by decide) (by omega)
  omega
mutual
theorem ok_all4 : ∀ d : PyData, okD d = true → d.showable = true ∧ d.hasDict = false ∧ d.canLay0 = true ∧ d.leavesShort 12 = true
  | .none, _ => by simp [PyData.showable, PyData.hasDict, PyData.canLay0, PyData.leavesShort]
  | .bool _, _ => by simp [PyData.showable, PyData.hasDict, PyData.canLay0, PyData.leavesShort]
  | .int i, h => by
    simp only [okD, Bool.and_eq_true, decide_eq_true_eq] at h
    obtain ⟨n, rfl⟩ := Int.eq_ofNat_of_zero_le h.1
    have hs := shown_small h.1 h.2
    have hl : ((n : Int)).natAbs.log2 < 1920 := log_small (Nat.lt_of_le_of_lt (show n ≤ 1000000000 by omega) (by decide))
    simp only [PyData.showable, PyData.hasDict, PyData.canLay0, PyData.leavesShort, decide_eq_true_eq]
    exact ⟨hl, trivial, trivial, hs⟩
  | .str x, h => by
    simp only [okD, List.all_eq_true, decide_eq_true_eq] at h
    simp only [PyData.showable, PyData.hasDict, PyData.canLay0, PyData.leavesShort]
    refine ⟨trivial, trivial, ?_, ?_⟩
    · unfold PyData.strOk
      rw [← Array.all_toList, List.all_eq_true]
      intro c hc
      have := h c hc
      simp
      omega
    · rw [List.all_eq_true]
      intro c hc
      have := h c hc
      simp
      omega
  | .list xs, h => by
    have := ok_allA xs (by simpa only [okD] using h)
    simpa only [PyData.showable, PyData.hasDict, PyData.canLay0, PyData.leavesShort] using this
  | .tuple xs, h => by
    have := ok_allA xs (by simpa only [okD] using h)
    simpa only [PyData.showable, PyData.hasDict, PyData.canLay0, PyData.leavesShort] using this
  | .dict _, h => by simp [okD] at h
theorem ok_allA : ∀ xs : List PyData, okAll xs = true → PyData.showableAll xs = true ∧ PyData.hasDictAll xs = false ∧ PyData.canLayAll0 xs = true ∧ PyData.leavesShortAll 12 xs = true
  | [], _ => by simp [PyData.showableAll, PyData.hasDictAll, PyData.canLayAll0, PyData.leavesShortAll]
  | x :: xs, h => by
    simp only [okAll, Bool.and_eq_true] at h
    obtain ⟨a1, a2, a3, a4⟩ := ok_all4 x h.1
    obtain ⟨b1, b2, b3, b4⟩ := ok_allA xs h.2
    simp only [PyData.showableAll, PyData.hasDictAll, PyData.canLayAll0, PyData.leavesShortAll, a1, a2, a3, a4, b1, b2, b3, b4]
    exact ⟨rfl, rfl, rfl, rfl⟩
end
structure Fit (d : PyData) : Prop where
  ok : okD d = true
  dp : d.depth ≤ 60
  bk : d.bulk ≤ 1000000
theorem Fit.shown {d : PyData} (f : Fit d) : d.showable = true ∧ d.hasDict = false ∧ d.depth ≤ 64 ∧ d.shown.length ≤ sizeLine := by
  obtain ⟨a1, a2, a3, a4⟩ := ok_all4 d f.ok
  refine ⟨a1, a2, by have := f.dp; omega, ?_⟩
  have := PyData.shown_le_bulk 12 (by decide) d a4
  have := f.bk
  rw [sizeLine_eq]
  omega
theorem Fit.shaped {d : PyData} (f : Fit d) : SeqAt.shaped d = true := by
  obtain ⟨a1, a2, a3, a4⟩ := ok_all4 d f.ok
  unfold SeqAt.shaped
  rw [a3, decide_eq_true (by have := f.dp; omega)]
  rfl
theorem Fit.refl {d : PyData} (f : Fit d) : PyData.eqv d d = true := SeqAt.eqv_refl d (ok_all4 d f.ok).2.2.1
/-! ### messages as data -/
def miD : Itm → PyData
  | .s l => .str (S l)
  | .i k => .int k
  | .n => .none
def msD (ms : List Itm) : PyData := .tuple (ms.map miD)
theorem dp_it {K : PySem.W.Frag} {H : Hp} (x : Itm) : Dp K H x.v (miD x) := by
  cases x with
  | s l => exact .str _
  | i k => exact .int k
  | n => exact .non
theorem dp_its {K : PySem.W.Frag} {H : Hp} : ∀ ms : List Itm, DpAll K H (ms.map Itm.v) (ms.map miD)
  | [] => .nil
  | x :: ms => .cons (dp_it x) (dp_its ms)
theorem dp_ms {K : PySem.W.Frag} {H : Hp} {a : Addr} {ms : List Itm} (h : H a = some (.tup (ms.map Itm.v))) : Dp K H (.ref a) (msD ms) := .tup (SqT.of h) (dp_its ms)
theorem ok_str {l : List Nat} (h : asc l) : okD (.str (S l)) = true := by
  simp only [okD]
  rw [List.all_eq_true]
  intro c hc
  simpa using h c hc
/-- small data: how deep, how much -/
structure Sm (d : PyData) (n b : Nat) : Prop where
  ok : okD d = true
  dp : d.depth ≤ n
  bk : d.bulk ≤ b
structure SmA (ds : List PyData) (n b : Nat) : Prop where
  ok : okAll ds = true
  dp : PyData.depthAll ds ≤ n
  bk : PyData.bulkAll ds ≤ b
theorem Sm.fit {d : PyData} {n b : Nat} (h : Sm d n b) (hn : n ≤ 60) (hb : b ≤ 1000000) : Fit d := ⟨h.ok, by have := h.dp; omega, by have := h.bk; omega⟩
theorem SmA.nil {n b : Nat} : SmA [] n b := ⟨by simp [okAll], by simp [PyData.depthAll], by simp [PyData.bulkAll]⟩
theorem SmA.cons {d : PyData} {ds : List PyData} {n b b1 b2 : Nat} (h : Sm d n b1) (k : SmA ds n b2) (hb : b1 + b2 + 2 ≤ b) : SmA (d :: ds) n b := by
  refine ⟨?_, ?_, ?_⟩
  · simp only [okAll, h.ok, k.ok]
    rfl
  · simp only [PyData.depthAll]
    have := h.dp
    have := k.dp
    omega
  · simp only [PyData.bulkAll]
    have := h.bk
    have := k.bk
    omega
theorem Sm.tup {ds : List PyData} {n b : Nat} (h : SmA ds n b) : Sm (.tuple ds) (n + 1) (b + 2) := by
  refine ⟨?_, ?_, ?_⟩
  · simp only [okD]
    exact h.ok
  · simp only [PyData.depth]
    have := h.dp
    omega
  · simp only [PyData.bulk]
    have := h.bk
    omega
theorem Sm.lst {ds : List PyData} {n b : Nat} (h : SmA ds n b) : Sm (.list ds) (n + 1) (b + 2) := by
  refine ⟨?_, ?_, ?_⟩
  · simp only [okD]
    exact h.ok
  · simp only [PyData.depth]
    have := h.dp
    omega
  · simp only [PyData.bulk]
    have := h.bk
    omega
theorem Sm.str {l : List Nat} {n b : Nat} (h : asc l) (hb : l.length + 2 ≤ b) : Sm (.str (S l)) n b := by
  refine ⟨ok_str h, by simp [PyData.depth], ?_⟩
  simp only [PyData.bulk]
  rw [show (S l).cps.size = l.length from List.size_toArray ..]
  omega
theorem Sm.int {k n b : Nat} (h : k ≤ 1000000000) (hb : 2 ≤ b) : Sm (.int (k : Int)) n b := by
  refine ⟨?_, by simp [PyData.depth], ?_⟩
  · simp only [okD, Bool.and_eq_true, decide_eq_true_eq]
    omega
  · simp only [PyData.bulk]
    omega
theorem Sm.bool {c : Bool} {n b : Nat} (hb : 2 ≤ b) : Sm (.bool c) n b := by
  refine ⟨by simp [okD], by simp [PyData.depth], ?_⟩
  simp only [PyData.bulk]
  omega
theorem Sm.mono {d : PyData} {n m b c : Nat} (h : Sm d n b) (hn : n ≤ m) (hb : b ≤ c) : Sm d m c := ⟨h.ok, Nat.le_trans h.dp hn, Nat.le_trans h.bk hb⟩
theorem sm_ms {ms : List Itm} (h : msgB ms = true) : Sm (msD ms) 1 700 := by
  obtain ⟨hl, hi⟩ := msg_items h
  have key : ∀ xs : List Itm, xs.length ≤ 3 → (∀ x ∈ xs, (∃ l, x = .s l ∧ plainL l = true ∧ l.length ≤ 150) ∨ ∃ n : Nat, x = .i (n : Int) ∧ n ≤ 1000000000) → SmA (xs.map miD) 0 (xs.length * 200) := by
    intro xs
    induction xs with
    | nil => exact fun _ _ => .nil
    | cons x xs ih =>
      intro h1 h2
      have k := ih (by rw [List.length_cons] at h1; omega) fun y hy => h2 y (List.mem_cons_of_mem _ hy)
      have hx : Sm (miD x) 0 160 := by
        rcases h2 x List.mem_cons_self with ⟨l, rfl, hp, hll⟩ | ⟨n, rfl, hn⟩
        · exact .str (asc_plain hp) (by omega)
        · exact .int hn (by omega)
      exact .cons hx k (by rw [List.length_cons]; omega)
  exact (Sm.tup (key ms hl hi)).mono (Nat.le_refl _) (by omega)
end Ag

end
/-! ## G2 -/
section
set_option linter.all false
set_option maxRecDepth 100000
namespace Ag
open PySem PySem.Spec PyProof.Rows L2
open SX (S S_len S_cat S_inj)
section
variable {P : Program} {w : World} {K : PySem.W.Frag} {mg : Str → Option Value} {base : Heap}
/-- like okG, and the code object is told -/
theorem okGc {x qual : Str} {st : Stmt} {f : Addr} {fd : FuncData} {N ps : List Str} {k : Nat} {sp : Sp} (F : Fun K x qual st f fd) (S : FnScope N ps (defScope st))
    (len : ∀ vs H Q E, sp vs H Q E → vs.length = ps.length)
    (hbody : ∀ (A : Around) (outer : List Env) (s : Shared) (H : Hp) (vs : List V) (Q : VK) (E : XK), Room k (A.deeper (envOfC qual (defScope st) s.heap.objs.size f fd.code)) →
      (A.deeper (envOfC qual (defScope st) s.heap.objs.size f fd.code)).guards = some [] → sp vs H Q E →
      ∃ t, PSs (cxOf CX0 P w K mg base N qual (defScope st) f fd.code A outer s H E).nox (defBody st) t ∧ t { nx := fun _ H' => Q .non H', rt := Q } (start N vs) H) :
    FnG P w K mg base (k + 1) f fd ps sp := by
  obtain ⟨oc, od, kV, doc, pm, an, cdv, ct, osl, rfl, lk, hcd⟩ := F.ex
  refine ⟨len, ?_⟩
  intro A outer s H args us vs Q E hr hg env0 hb rel hsp
  have below : ∀ b o, base.get? b = some o → s.heap.get? b = some o := fun b o e => (env0.bs b o e).1
  have KX : K.In s.heap := env0.mod.kin.keeps below
  have lim : s.heap.NoLimit := env0.mod.nolimit.keeps below
  have kinds : ∀ y ∈ ps.zip us, (defScope st).names.lookup y.1 = some .local ∨ ((defScope st).names.lookup y.1 = some .cell ∧ ((cellsFrom (s.heap.objs.size + 1) (defScope st).names []).lookup y.1).isSome = true) := by
    rintro ⟨n, v⟩ hy
    exact (S.par n (List.of_mem_zip hy).1).imp id fun q => ⟨q, PySem.W.cellsFrom_some _ _ _ (.inl q)⟩
  refine codeAny_call_function hr.depth (KX f _ lk) rfl S.co S.gen rfl (PySem.W.codeRec_of KX hcd) (hb _ _ _ _ (wpAny_newFunctionEnv_cells S.kind kinds ?_))
  intro env he s1 z
  subst he
  refine ⟨lim.keeps z.toInCall.keep, codeAny_func ?_⟩
  obtain ⟨t, ht, hq⟩ := hbody A outer s H vs Q E (hr.deeper _) (g_deeper hg) hsp
  have I := inv_start (CX := CX0) (E := E) S hr.hd env0 (len vs H Q E hsp) rel z
  refine wpAny_mono (ht.nox.run [] s1 (start N vs) H _ I hq) (fun fl s' hs => ?_) (fun e s' hs => hs)
  cases fl with
  | brk => exact hs.elim fun _ z => z.elim fun _ z => z.2.elim
  | cont => exact hs.elim fun _ z => z.elim fun _ z => z.2.elim
  | next =>
    obtain ⟨σ', H', J, q⟩ := hs
    exact ⟨.non, H', J.os, J.bare, J.base, J.hok, rfl, q⟩
  | ret u =>
    obtain ⟨v, σ', H', J, rv, q⟩ := hs
    exact ⟨v, H', J.os, J.bare, J.base, J.hok, rv, q⟩
end
section
variable {X : Cx} {CX : CXT} {k : Nat} {f : Addr} {fd : FuncData} {ps ks : List Str} {sp : Sp} {E : XK} {x : Str} {p pos : Pos} {t : TA} {gv : List Value → List Value} {gV : List V → List V} {kws : List Keyword}
def tKwE (sp : Sp) (n : Nat) (gV : List V → List V) (E : XK) (t : TA) : TE := fun σ H Q => t σ H fun zs H2 => zs.length = n ∧ sp (gV zs) H2 Q E
/-- f(k = e, ..), keywords alone, and what it lets out is taken -/
theorem pe_callKwX (F : FnOk X.prog X.w X.K X.mg X.base CX k f fd ps sp) (hr : Room k X.A) (hg : Gl X x) (hm : X.mg x = some (.ref f)) (hk : PySem.W.keepIn X.K (.ref f) = true) (hb : KwB X.K fd ps ks gv gV) (hx : Passes CX X E)
    (ha : PK X kws t) (hall : (backToKw pos (keywordEach kws X.env)).all (·.1.isSome) = true := by rfl) (hks : (backToKw pos (keywordEach kws X.env)).filterMap (·.1) = ks := by rfl) (hdb : (x == ("__debug__" : Str)) = false := by decide)
    (hpl : ((backTo pos (starEach [] X.env)).any (·.1) || (backToKw pos (keywordEach kws X.env)).any (·.1.isNone)) = false := by rfl) : PE X (.Call (.Name x p) [] kws pos) (tKwE sp ks.length gV E t) := by
  constructor
  intro pins s σ H Q I h
  refine wpAny_Call_Name_kw (ld_glob I hg hm (PySem.W.callWith_KW0 (h₀ := X.base) I.ok.mod.kin hk hall (thn (ha.run pos pins s σ H _ I h) ?_) hpl) hdb)
  rintro ws s2 ⟨zs, H2, I2, rz, l, q⟩
  refine ⟨I2.kIn, ?_⟩
  rw [hks]
  refine wpAny_call (codeAny_mono (F.run X.A X.stack s2 H2 ⟨[], ks.zip ws⟩ _ _ Q E hr I2.env0 (hb.to s2 ws (by rw [← rz.length]; exact l)) (hb.rel l rz) q) fun r s' hq => ?_)
  cases r with
  | error e => exact hx pins σ H2 s2 e s' I2 hq
  | ok fl =>
    cases fl with
    | ret u => exact I2.after hq
    | next => exact False.elim hq
    | brk => exact False.elim hq
    | cont => exact False.elim hq
end
/-! ### tables stay where the deck alone changes -/
theorem tabs_ext {T : List (Addr × Str)} {H H' : Hp} (t : LamX.Tabs T H) (s : Same H H') : LamX.Tabs T H' := t.ext s
section
variable {P : Program} {w : World} {K : PySem.W.Frag} {mg : Str → Option Value} {base : Heap} {tm tn tb : Tok}
abbrev qLam : Str := (Str.ofString "_law_is_read" ++ Str.ofString ".<locals>.") ++ Str.ofString "<lambda>"
def spIsRead (Pt : Addr) : Sp := fun vs H Q _ => ∃ z : List Nat, vs = [.str (S z)] ∧ asc z ∧ z.length ≤ 48000 ∧ LamX.Tabs [(Pt, qLam)] H ∧ ∀ H', LamX.ExtN H H' → LamX.Tabs [(Pt, qLam)] H' → Q (.bl true) H'
/-- the value of the assignment at a place -/
def asgE (st : Stmt) (i : Nat) : Expr := match (defBody st)[i]? with
  | some (.Assign _ v _) => v
  | _ => .Constant .none 0 ⟨0, 0, 0, 0⟩
theorem pe_lam1 {f f2 fr C cA Pt fi : Addr} {fd2 fdr fdi : FuncData} (F__law_got : Fn K mg "_law_got" s__law_got ["_law_deed"] f2 fd2) (TE : ExcI K mg "BadText" "BadText.__init__" s_BT C fi fdi) (TB : LamX.TabB base mg cA Pt)
    (F_read_message : Fn K mg "read_message" s_read_message ["text"] fr fdr) (G_read_message : FnOk P w K mg base (L2.CX P w) 6 fr fdr ["text"] (spRd C)) {A : Around} {outer : List Env} {s : Shared} {H : Hp} {E : XK}
    (hr : Room 8 (A.deeper (envOfC "_law_is_read" (defScope s__law_is_read) s.heap.objs.size f (.ref cA)))) :
    PE (cxOf CX0 P w K mg base N__law_is_read "_law_is_read" (defScope s__law_is_read) f (.ref cA) A outer s H E).nox (asgE s__law_is_read 2) (LamX.tLam [(Pt, qLam)] (TGot C) fun E => tCall (spRd C) [] E (tCons (tVar 0) tNil)) := by
  obtain ⟨ocg, odg, kVg, docg, pmg, ang, cdg, ctg, oslg, rfl, lkg, hcg⟩ := F__law_got.F.ex
  refine LamX.pe_lamcall (k := 6) (by rfl) F__law_got.g F__law_got.F.kp lkg hcg F__law_got.b sc_got rfl (.inl rfl) (got_gives TE.g TE.X TE.no TE.ex) TB rfl ?_ ?_ hr (LamX.lamS_by (sc := defScope s__law_is_read) (by decide +kernel)) (by rfl) (fun _ _ _ _ _ => by rfl) ?_
  · have hq : (cxOf CX0 P w K mg base N__law_is_read "_law_is_read" (defScope s__law_is_read) f (.ref cA) A outer s H E).nox.env.qual = Str.ofString "_law_is_read" ++ Str.ofString ".<locals>." := rfl
    rw [hq]
    exact List.mem_singleton_self _
  · intro y hy _
    rw [List.mem_singleton.mp hy]
    have hq : (cxOf CX0 P w K mg base N__law_is_read "_law_is_read" (defScope s__law_is_read) f (.ref cA) A outer s H E).nox.env.qual = Str.ofString "_law_is_read" ++ Str.ofString ".<locals>." := rfl
    rw [hq]
  · intro A' outer' s' H' E' f' cc hr2
    exact pe_call G_read_message hr2 (by rfl) F_read_message.g F_read_message.F.kp F_read_message.b .nil (passes_call (takes_of rfl rfl rfl rfl) (fun _ _ _ _ h => h)) (pa_cons (pv 0) pa_nil)

theorem pe_lam2 {f f2 fr C cA Pt fi : Addr} {fd2 fdr fdi : FuncData} (F__law_got : Fn K mg "_law_got" s__law_got ["_law_deed"] f2 fd2) (TE : ExcI K mg "BadText" "BadText.__init__" s_BT C fi fdi) (TB : LamX.TabB base mg cA Pt)
    (F_read_message : Fn K mg "read_message" s_read_message ["text"] fr fdr) (G_read_message : FnOk P w K mg base (L2.CX P w) 6 fr fdr ["text"] (spRd C)) (Kw : KwB K fdr ["text"] ["text"] (fun x => x) (fun x => x)) {A : Around} {outer : List Env} {s : Shared} {H : Hp} {E : XK}
    (hr : Room 8 (A.deeper (envOfC "_law_is_read" (defScope s__law_is_read) s.heap.objs.size f (.ref cA)))) :
    PE (cxOf CX0 P w K mg base N__law_is_read "_law_is_read" (defScope s__law_is_read) f (.ref cA) A outer s H E).nox (asgE s__law_is_read 3) (LamX.tLam [(Pt, qLam)] (TGot C) fun E => tKwE (spRd C) (["text"] : List Str).length (fun x => x) E (tCons (tVar 0) tNil)) := by
  obtain ⟨ocg, odg, kVg, docg, pmg, ang, cdg, ctg, oslg, rfl, lkg, hcg⟩ := F__law_got.F.ex
  refine LamX.pe_lamcall (k := 6) (by rfl) F__law_got.g F__law_got.F.kp lkg hcg F__law_got.b sc_got rfl (.inl rfl) (got_gives TE.g TE.X TE.no TE.ex) TB rfl ?_ ?_ hr (LamX.lamS_by (sc := defScope s__law_is_read) (by decide +kernel)) (by rfl) (fun _ _ _ _ _ => by rfl) ?_
  · have hq : (cxOf CX0 P w K mg base N__law_is_read "_law_is_read" (defScope s__law_is_read) f (.ref cA) A outer s H E).nox.env.qual = Str.ofString "_law_is_read" ++ Str.ofString ".<locals>." := rfl
    rw [hq]
    exact List.mem_singleton_self _
  · intro y hy _
    rw [List.mem_singleton.mp hy]
    have hq : (cxOf CX0 P w K mg base N__law_is_read "_law_is_read" (defScope s__law_is_read) f (.ref cA) A outer s H E).nox.env.qual = Str.ofString "_law_is_read" ++ Str.ofString ".<locals>." := rfl
    rw [hq]
  · intro A' outer' s' H' E' f' cc hr2
    exact pe_callKwX (ks := ["text"]) G_read_message hr2 (by rfl) F_read_message.g F_read_message.F.kp Kw (passes_call (takes_of rfl rfl rfl rfl) (fun _ _ _ _ h => h)) (pk_cons (pv 0) pk_nil)

/-- what a deed's result is -/
def Res (z : List Nat) (H : Hp) (v : V) : Prop := ∃ p, v = .ref p ∧ match rdP z with
  | none => H p = some (.tup [.str (Str.ofString "text"), .str (S z)])
  | some ms => ∃ t, H p = some (.tup [.str (Str.ofString "told"), .ref t]) ∧ H t = some (.tup (ms.map Itm.v))
def resD (z : List Nat) : PyData := match rdP z with
  | none => .tuple [.str (Str.ofString "text"), .str (S z)]
  | some ms => .tuple [.str (Str.ofString "told"), msD ms]
theorem Res.ext {z : List Nat} {H H' : Hp} {v : V} (r : Res z H v) (g : LamX.ExtN H H') : Res z H' v := by
  obtain ⟨p, e, h⟩ := r
  refine ⟨p, e, ?_⟩
  cases hr : rdP z with
  | none =>
    rw [hr] at h
    exact g _ _ h (fun _ => by simp)
  | some ms =>
    rw [hr] at h
    obtain ⟨t, h1, h2⟩ := h
    exact ⟨t, g _ _ h1 (fun _ => by simp), g _ _ h2 (fun _ => by simp)⟩
theorem Res.dp {z : List Nat} {H : Hp} {v : V} (r : Res z H v) : Dp K H v (resD z) := by
  obtain ⟨p, rfl, h⟩ := r
  unfold resD
  cases hr : rdP z with
  | none =>
    rw [hr] at h
    exact .tup (SqT.of h) (.cons (.str _) (.cons (.str _) .nil))
  | some ms =>
    rw [hr] at h
    obtain ⟨t, h1, h2⟩ := h
    exact .tup (SqT.of h1) (.cons (.str _) (.cons (dp_ms h2) .nil))
theorem textS : Str.ofString "text" = S [116,101,120,116] := by decide +kernel
theorem toldS : Str.ofString "told" = S [116,111,108,100] := by decide +kernel
theorem sm_res {z : List Nat} (az : asc z) (lz : z.length ≤ 48000) : Sm (resD z) 2 50000 := by
  unfold resD
  cases hr : rdP z with
  | none =>
    rw [textS]
    exact (Sm.tup (n := 0) (.cons (b1 := 10) (.str (asc_plain (by decide)) (by decide)) (.cons (b1 := 48010) (.str az (by omega)) (.nil (b := 0)) (b := 48020) (by omega)) (b := 48040) (by omega))).mono (by omega) (by omega)
  | some ms =>
    rw [toldS]
    exact (Sm.tup (n := 1) (.cons (b1 := 10) (.str (asc_plain (by decide)) (by decide)) (.cons (b1 := 700) (sm_ms (rdP_msg hr).1) (.nil (b := 0)) (b := 720) (by omega)) (b := 740) (by omega))).mono (by omega) (by omega)
theorem got_res {C : Addr} {z : List Nat} {σ : L2.St} {H1 : Hp} {Q : VK} (h0 : σ[0]? = some (some (.str (S z)))) (az : asc z) (lz : z.length ≤ 50000) (k : ∀ v H2, Same H1 H2 → Res z H2 v → Q v H2) :
    TGot C (fun E H' Q' => tCall (spRd C) [] E (tCons (tVar 0) tNil) σ H' Q') H1 Q := by
  refine ⟨.str (S z), h0, z, rfl, az, lz, fun ms hms t H2 h1 sm ht => ⟨sz (by show 2 ≤ 16000000; decide), fun p hp => ?_⟩, fun hn d H2 h1 sm hd => ⟨rfl, d, _, .str (S z), rfl, hd, rfl, fun p hp => ?_⟩⟩
  · refine k _ _ (sm.trans (same_new hp)) ⟨p, rfl, ?_⟩
    rw [hms]
    exact ⟨t, upd_same, same_new hp _ _ ht⟩
  · refine k _ _ (sm.trans (same_new hp)) ⟨p, rfl, ?_⟩
    rw [hn]
    exact upd_same
theorem got_resK {C : Addr} {z : List Nat} {σ : L2.St} {H1 : Hp} {Q : VK} (h0 : σ[0]? = some (some (.str (S z)))) (az : asc z) (lz : z.length ≤ 50000) (k : ∀ v H2, Same H1 H2 → Res z H2 v → Q v H2) :
    TGot C (fun E H' Q' => tKwE (spRd C) (["text"] : List Str).length (fun x => x) E (tCons (tVar 0) tNil) σ H' Q') H1 Q := by
  refine ⟨.str (S z), h0, rfl, z, rfl, az, lz, fun ms hms t H2 h1 sm ht => ⟨sz (by show 2 ≤ 16000000; decide), fun p hp => ?_⟩, fun hn d H2 h1 sm hd => ⟨rfl, d, _, .str (S z), rfl, hd, rfl, fun p hp => ?_⟩⟩
  · refine k _ _ (sm.trans (same_new hp)) ⟨p, rfl, ?_⟩
    rw [hms]
    exact ⟨t, upd_same, same_new hp _ _ ht⟩
  · refine k _ _ (sm.trans (same_new hp)) ⟨p, rfl, ?_⟩
    rw [hn]
    exact upd_same
theorem ok_isread {f f1 f2 f3 fr C cA Pt fi : Addr} {fd fd1 fd2 fd3 fdr fdi : FuncData} (F : Fn K mg "_law_is_read" s__law_is_read ["_law_text_here"] f fd) (B : Con mg tm tn tb) (hcode : fd.code = .ref cA) (TB : LamX.TabB base mg cA Pt)
    (F__law_told : Fn K mg "_law_told" s__law_told ["_law_text_here"] f1 fd1) (G__law_told : FnOk P w K mg base CX0 2 f1 fd1 ["_law_text_here"] spTold)
    (F__law_got : Fn K mg "_law_got" s__law_got ["_law_deed"] f2 fd2) (TE : ExcI K mg "BadText" "BadText.__init__" s_BT C fi fdi)
    (F_message_text : Fn K mg "message_text" s_message_text ["message"] f3 fd3) (G_message_text : FnOk P w K mg base CX0 6 f3 fd3 ["message"] spMt)
    (F_read_message : Fn K mg "read_message" s_read_message ["text"] fr fdr) (G_read_message : FnOk P w K mg base (L2.CX P w) 6 fr fdr ["text"] (spRd C)) (Kw : KwB K fdr ["text"] ["text"] (fun x => x) (fun x => x)) : FnG P w K mg base 9 f fd ["_law_text_here"] (spIsRead Pt) := by
  refine okGc F.F sc__law_is_read (fun vs H Q E h => ?_) (fun A outer s H vs Q E hr hG h => ?_)
  · obtain ⟨z, rfl, _⟩ := h
    rfl
  · obtain ⟨z, rfl, az, lz, ht, q⟩ := h
    rw [hcode] at hr hG ⊢
    have L1 := pe_lam1 (f := f) F__law_got TE TB F_read_message G_read_message (A := A) (outer := outer) (s := s) (H := H) (E := E) hr
    have L2 := pe_lam2 (f := f) F__law_got TE TB F_read_message G_read_message Kw (A := A) (outer := outer) (s := s) (H := H) (E := E) hr
    refine ⟨_, (pss_cons (ps_set (i := 1) sc__law_is_read.nd rfl (.inl rfl) (pe_call G__law_told (hr.mono (by decide)) (by rfl) F__law_told.g F__law_told.F.kp F__law_told.b .nil pass0 (pa_cons (pv 0) pa_nil)))
      (pss_cons (ps_set (i := 2) sc__law_is_read.nd rfl (.inl rfl) (pe_ifExp (pt_cmpR op_notN (pv 1) pe_non (nomark _)) (pe_tup (pa_cons pe_str (pa_cons (pv 1) pa_nil))) (pe_tup (pa_cons pe_str (pa_cons (pv 0) pa_nil)))))
      (pss_cons (ps_set (i := 3) sc__law_is_read.nd rfl (.inl rfl) L1)
      (pss_cons (ps_set (i := 4) sc__law_is_read.nd rfl (.inl rfl) L2)
      (pss_cons (ps_if (pt_cmpR op_ne (pe_callB (call_repr_data (hu66 hr) hG) (by rfl) B.n_repr (by decide +kernel) (pa_cons (pe_tup (pa_cons (pv 3) (pa_cons (pv 4) pa_nil))) pa_nil)) (pe_callB (call_repr_data (hu66 hr) hG) (by rfl) B.n_repr (by decide +kernel) (pa_cons (pe_tup (pa_cons (pv 2) (pa_cons (pv 2) pa_nil))) pa_nil)) (nomark _))
      (pss_one (ps_ret pe_bl))
      pss_nil)
      (pss_one (ps_ret (pe_or (pe_cmpR op_isN (pv 1) pe_non (nomark _)) (pe_one (pe_cmpR op_eq (pe_call G_message_text (hr.mono (by decide)) (by rfl) F_message_text.g F_message_text.F.kp F_message_text.b .nil pass0 (pa_cons (pv 1) pa_nil)) (pv 0) (nomark _))))))))))), ?_⟩
    have fr : Fit (.tuple [resD z, resD z]) := (Sm.tup (.cons (sm_res az lz) (.cons (sm_res az lz) (.nil (b := 0)) (b := 51000) (by omega)) (b := 102000) (by omega))).fit (by omega) (by omega)
    cases hr0 : rdP z
    · refine ⟨_, rfl, z, rfl, az, by omega, fun _ H1 sm => ?_, fun ms h => by rw [hr0] at h; cases h⟩
      refine ⟨_, rfl, rfl, _, rfl, iteF ?_⟩
      refine ⟨_, rfl, sz (by show 2 ≤ 16000000; decide), fun d hd => ?_⟩
      have sm2 := sm.trans (same_new (o := .tup [V.str (Str.ofString "text"), V.str (S z)]) hd)
      have rD : Res z (upd H1 d (.tup [V.str (Str.ofString "text"), V.str (S z)])) (.ref d) := ⟨d, rfl, by rw [hr0]; exact upd_same⟩
      generalize upd H1 d (.tup [V.str (Str.ofString "text"), V.str (S z)]) = H2 at sm2 rD ⊢
      have g2 := LamX.ExtN.of sm2
      have t2 := ht.ext sm2
      refine ⟨t2, fun H3 g3 t3 => got_res rfl az (by omega) fun v3 H4 sm4 r3 => ?_⟩
      refine ⟨t3.ext sm4, fun H5 g5 t5 => got_resK rfl az (by omega) fun v4 H6 sm6 r4 => ?_⟩
      have t6 := t5.ext sm6
      have r3 := (r3.ext g5).ext (LamX.ExtN.of sm6)
      have rD := (((rD.ext g3).ext (LamX.ExtN.of sm4)).ext g5).ext (LamX.ExtN.of sm6)
      have g6 := (((g2.trans g3).trans (LamX.ExtN.of sm4)).trans g5).trans (LamX.ExtN.of sm6)
      obtain ⟨f1, f2, f3, f4⟩ := fr.shown
      refine ⟨_, rfl, _, rfl, sz (by show 2 ≤ 16000000; decide), fun p hp => ?_⟩
      have sp1 := same_new (o := .tup [v3, v4]) hp
      have e1 := LamX.ExtN.of sp1
      refine ⟨.ref p, .tuple [resD z, resD z], rfl, .tup (SqT.of upd_same) (.cons (r3.ext e1).dp (.cons (r4.ext e1).dp .nil)), f1, f2, f3, f4, ?_⟩
      refine ⟨_, rfl, _, rfl, sz (by show 2 ≤ 16000000; decide), fun p2 hp2 => ?_⟩
      have sp2 := same_new (o := .tup [V.ref d, V.ref d]) hp2
      have e2 := LamX.ExtN.of sp2
      refine ⟨.ref p2, .tuple [resD z, resD z], rfl, .tup (SqT.of upd_same) (.cons ((rD.ext e1).ext e2).dp (.cons ((rD.ext e1).ext e2).dp .nil)), f1, f2, f3, f4, ?_⟩
      refine ⟨rfl, _, rfl, ?_⟩
      rw [decide_eq_true rfl]
      refine iteF ?_
      exact ⟨_, rfl, rfl, _, rfl, iteT (q _ ((g6.trans e1).trans e2) ((t6.ext sp1).ext sp2))⟩
    · rename_i ms
      refine ⟨_, rfl, z, rfl, az, by omega, fun h => by rw [hr0] at h; (cases h), fun ms' h t0 H1 ht0 sm htm => ?_⟩
      have e := Option.some.inj (hr0.symm.trans h)
      subst e
      refine ⟨_, rfl, rfl, _, rfl, iteT ?_⟩
      refine ⟨_, rfl, sz (by show 2 ≤ 16000000; decide), fun d hd => ?_⟩
      have hm2 := same_new (o := .tup [V.str (Str.ofString "told"), V.ref t0]) hd _ _ htm
      have sm2 := sm.trans (same_new (o := .tup [V.str (Str.ofString "told"), V.ref t0]) hd)
      have rD : Res z (upd H1 d (.tup [V.str (Str.ofString "told"), V.ref t0])) (.ref d) := ⟨d, rfl, by rw [hr0]; exact ⟨t0, upd_same, hm2⟩⟩
      generalize upd H1 d (.tup [V.str (Str.ofString "told"), V.ref t0]) = H2 at sm2 rD hm2 ⊢
      have g2 := LamX.ExtN.of sm2
      have t2 := ht.ext sm2
      refine ⟨t2, fun H3 g3 t3 => got_res rfl az (by omega) fun v3 H4 sm4 r3 => ?_⟩
      refine ⟨t3.ext sm4, fun H5 g5 t5 => got_resK rfl az (by omega) fun v4 H6 sm6 r4 => ?_⟩
      have t6 := t5.ext sm6
      have r3 := (r3.ext g5).ext (LamX.ExtN.of sm6)
      have rD := (((rD.ext g3).ext (LamX.ExtN.of sm4)).ext g5).ext (LamX.ExtN.of sm6)
      have g6 := (((g2.trans g3).trans (LamX.ExtN.of sm4)).trans g5).trans (LamX.ExtN.of sm6)
      obtain ⟨f1, f2, f3, f4⟩ := fr.shown
      refine ⟨_, rfl, _, rfl, sz (by show 2 ≤ 16000000; decide), fun p hp => ?_⟩
      have sp1 := same_new (o := .tup [v3, v4]) hp
      have e1 := LamX.ExtN.of sp1
      refine ⟨.ref p, .tuple [resD z, resD z], rfl, .tup (SqT.of upd_same) (.cons (r3.ext e1).dp (.cons (r4.ext e1).dp .nil)), f1, f2, f3, f4, ?_⟩
      refine ⟨_, rfl, _, rfl, sz (by show 2 ≤ 16000000; decide), fun p2 hp2 => ?_⟩
      have sp2 := same_new (o := .tup [V.ref d, V.ref d]) hp2
      have e2 := LamX.ExtN.of sp2
      refine ⟨.ref p2, .tuple [resD z, resD z], rfl, .tup (SqT.of upd_same) (.cons ((rD.ext e1).ext e2).dp (.cons ((rD.ext e1).ext e2).dp .nil)), f1, f2, f3, f4, ?_⟩
      refine ⟨rfl, _, rfl, ?_⟩
      rw [decide_eq_true rfl]
      refine iteF ?_
      refine ⟨_, rfl, rfl, _, rfl, iteF ?_⟩
      obtain ⟨hmb, hwr⟩ := rdP_msg hr0
      have hm8 := e2 _ _ (e1 _ _ (LamX.ExtN.of sm6 _ _ (g5 _ _ (sm4 _ _ (g3 _ _ hm2 (fun _ => by simp))) (fun _ => by simp)) (fun _ => by simp)) (fun _ => by simp)) (fun _ => by simp)
      obtain ⟨hml, hmi⟩ := msg_items hmb
      refine ⟨_, rfl, t0, ms, rfl, hm8, hmb, fun l hl => ?_, fun H9 sm9 => ⟨_, rfl, rfl, ?_⟩⟩
      · rcases hmi _ hl with ⟨l', e, hp, hll⟩ | ⟨n, e, _⟩
        · cases e
          exact ⟨asc_plain hp, by omega⟩
        · cases e
      rw [hwr, decide_eq_true rfl]
      exact q _ (((g6.trans e1).trans e2).trans (LamX.ExtN.of sm9)) (((t6.ext sp1).ext sp2).ext sm9)
end
end Ag

end
/-! ## Math2 -/
section
set_option linter.all false
namespace Ag
open PySem
/-! ### what readings lead to -/
theorem lr_nil (s : List Nat) (t : Option (List Nat)) : lr s t [] = .read [] (glue s t) := rfl
theorem lr_cons (s : List Nat) (t : Option (List Nat)) (c : Nat) (cs : List Nat) : lr s t (c :: cs) = match stp s t c with
    | none => .wrong [] 0
    | some (o, s', t') => (lr s' t' cs).pre o.toList 1 := rfl
theorem stp_glue {s : List Nat} {t : Option (List Nat)} {c : Nat} {s' : List Nat} {t' : Option (List Nat)} (h : stp s t c = some (none, s', t')) : glue s' t' = glue s t ++ [c] := by
  cases t with
  | none =>
    simp only [stp] at h
    split at h
    · rename_i q
      cases h
      simp [glue, q.1]
    · split at h
      · cases h
        rfl
      · cases h
  | some t =>
    simp only [stp] at h
    split at h
    · split at h
      · cases h
        simp [glue]
      · cases h
    · split at h
      · cases h
      · cases h
theorem stp_done {s : List Nat} {t : Option (List Nat)} {c : Nat} {u : List Nat} {s' : List Nat} {t' : Option (List Nat)} (h : stp s t c = some (some u, s', t')) : t = some u ∧ s' = [] ∧ t' = none := by
  cases t with
  | none =>
    simp only [stp] at h
    split at h
    · cases h
    · split at h <;> cases h
  | some t =>
    simp only [stp] at h
    split at h
    · split at h <;> cases h
    · split at h
      · cases h
        exact ⟨rfl, rfl, rfl⟩
      · cases h
theorem lr_id : ∀ (l : List Nat) {s : List Nat} {t : Option (List Nat)} {r : List Nat}, lr s t l = .read [] r → r = glue s t ++ l
  | [], s, t, r, h => by
    rw [lr_nil] at h
    cases h
    simp
  | c :: cs, s, t, r, h => by
    rw [lr_cons] at h
    cases hs : stp s t c with
    | none => rw [hs] at h; cases h
    | some p =>
      obtain ⟨o, s', t'⟩ := p
      rw [hs] at h
      simp only at h
      cases hl : lr s' t' cs with
      | wrong us k => rw [hl] at h; cases h
      | read us r' =>
        rw [hl] at h
        simp only [Out.pre] at h
        injection h with h1 h2
        cases o with
        | some u => simp at h1
        | none =>
          simp at h1
          subst h1
          subst h2
          rw [lr_id cs hl, stp_glue hs]
          simp
/-- the texts that are told are texts; their signs, and those of the rest, are at most those that were there -/
def osz : Out → Nat
  | .read ts r => ts.flatten.length + ts.length + r.length
  | .wrong ts k => ts.flatten.length + ts.length
def Out.texts : Out → List (List Nat)
  | .read ts _ => ts
  | .wrong ts _ => ts
theorem lr_osz : ∀ (l : List Nat) (s : List Nat) (t : Option (List Nat)), osz (lr s t l) ≤ (glue s t).length + l.length
  | [], s, t => by simp [lr_nil, osz]
  | c :: cs, s, t => by
    rw [lr_cons]
    cases hs : stp s t c with
    | none => simp [osz]
    | some p =>
      obtain ⟨o, s', t'⟩ := p
      have ih := lr_osz cs s' t'
      cases o with
      | none =>
        have hg := congrArg List.length (stp_glue hs)
        rw [List.length_append, List.length_singleton] at hg
        show osz ((lr s' t' cs).pre [] 1) ≤ _
        cases hl : lr s' t' cs with
        | read us r => rw [hl] at ih; simp only [osz, Out.pre, List.nil_append, List.length_cons] at ih ⊢; omega
        | wrong us k => rw [hl] at ih; simp only [osz, Out.pre, List.nil_append, List.length_cons] at ih ⊢; omega
      | some u =>
        obtain ⟨rfl, rfl, rfl⟩ := stp_done hs
        show osz ((lr [] none cs).pre [u] 1) ≤ _
        cases hl : lr [] none cs with
        | read us r =>
          rw [hl] at ih
          simp only [osz, Out.pre, Option.toList, List.length_cons, List.singleton_append, List.flatten_cons, List.length_append, glue, List.length_nil] at ih ⊢
          omega
        | wrong us k =>
          rw [hl] at ih
          simp only [osz, Out.pre, Option.toList, List.length_cons, List.singleton_append, List.flatten_cons, List.length_append, glue, List.length_nil] at ih ⊢
          omega
theorem lr_at : ∀ (l : List Nat) (s : List Nat) (t : Option (List Nat)) (ts : List (List Nat)) (k : Nat), lr s t l = .wrong ts k → k ≤ l.length
  | [], s, t, ts, k, h => by rw [lr_nil] at h; cases h
  | c :: cs, s, t, ts, k, h => by
    rw [lr_cons] at h
    cases hs : stp s t c with
    | none => rw [hs] at h; cases h; exact Nat.zero_le _
    | some p =>
      obtain ⟨o, s', t'⟩ := p
      rw [hs] at h
      simp only at h
      cases hl : lr s' t' cs with
      | read us r => rw [hl] at h; cases h
      | wrong us j =>
        have := lr_at cs s' t' us j hl
        rw [hl] at h
        cases h
        simp
        omega
theorem lr_texts : ∀ (l : List Nat) {s : List Nat} {t : Option (List Nat)}, Vd s t → ∀ x ∈ (lr s t l).texts, plainL x = true
  | [], s, t, v, x, h => by simp [lr_nil, Out.texts] at h
  | c :: cs, s, t, v, x, h => by
    rw [lr_cons] at h
    cases hs : stp s t c with
    | none => rw [hs] at h; simp [Out.texts] at h
    | some p =>
      obtain ⟨o, s', t'⟩ := p
      rw [hs] at h
      simp only at h
      have ih := lr_texts cs (v.step hs)
      have hh : x ∈ o.toList ∨ x ∈ (lr s' t' cs).texts := by
        cases hl : lr s' t' cs with
        | read us r => rw [hl] at h; simpa [Out.pre, Out.texts] using h
        | wrong us r => rw [hl] at h; simpa [Out.pre, Out.texts] using h
      rcases hh with hh | hh
      · cases o with
        | none => simp at hh
        | some u =>
          simp at hh
          subst hh
          obtain ⟨rfl, _, _⟩ := stp_done hs
          exact v.2
      · exact ih x hh
/-! ### frames -/
theorem lr_numL : ∀ (k : Nat), k ≤ 200 → ∀ l, lr [] none (numL k ++ l) = (lr (numL k) none l).pre [] (numL k).length := by
  intro k
  induction k using Nat.strongRecOn with
  | ind k ih =>
    intro hk l
    have hdec : isDec (numL k) 200 = true := isDec_iff.mpr ⟨k, hk, rfl⟩
    by_cases h : k < 10
    · have e : numL k = [48 + k] := TL.numL_lt h
      have hs : stp [] none (48 + k) = some (none, numL k, none) := by
        show (if 48 + k = 58 ∧ ([] : List Nat) ≠ [] then _ else if isDec ([] ++ [48 + k]) 200 = true then _ else _) = _
        rw [if_neg (fun z => z.2 rfl), List.nil_append, ← e, if_pos hdec]
      conv => lhs; rw [e]
      rw [List.singleton_append, lr_cons, hs, e]
      rfl
    · have e : numL k = numL (k / 10) ++ [48 + k % 10] := TL.numL_step (by omega)
      have hs : stp (numL (k / 10)) none (48 + k % 10) = some (none, numL k, none) := by
        show (if 48 + k % 10 = 58 ∧ numL (k / 10) ≠ [] then _ else if isDec (numL (k / 10) ++ [48 + k % 10]) 200 = true then _ else _) = _
        rw [if_neg (fun z => by have := z.1; omega), ← e, if_pos hdec]
      conv => lhs; rw [e, List.append_assoc]
      rw [ih (k / 10) (by omega) (by omega), List.singleton_append, lr_cons, hs]
      simp only [Option.toList]
      rw [Out.pre_pre, e, List.length_append, List.length_singleton]
      rfl
theorem lr_frm {t : List Nat} (h : isTextB t = true) (l : List Nat) : lr [] none (frm t ++ l) = (lr [] none l).pre [t] (frm t).length := by
  unfold isTextB at h
  rw [Bool.and_eq_true, decide_eq_true_eq] at h
  have e : frm t ++ l = numL t.length ++ (58 :: (t ++ (44 :: l))) := by simp [frm]
  have hs1 : stp (numL t.length) none 58 = some (none, numL t.length, some []) := by
    show (if 58 = 58 ∧ numL t.length ≠ [] then _ else _) = _
    rw [if_pos ⟨rfl, numL_ne _⟩]
  have hs2 : stp (numL t.length) (some t) 44 = some (some t, [], none) := by
    show (if t.length < digitsVal (numL t.length) then _ else _) = _
    rw [numL_val, if_neg (Nat.lt_irrefl _)]
    rfl
  rw [e, lr_numL _ h.1, lr_cons, hs1]
  simp only [Option.toList]
  rw [lr_text t _ h.2 (by rw [numL_val]; simp), lr_cons, List.nil_append, hs2]
  simp only [Option.toList]
  rw [Out.pre_pre, Out.pre_pre, Out.pre_pre]
  congr 1
  simp [frm]
  omega
theorem lr_frms : ∀ (ts : List (List Nat)), (∀ t ∈ ts, isTextB t = true) → ∀ l, lr [] none ((ts.map frm).flatten ++ l) = (lr [] none l).pre ts (ts.map frm).flatten.length
  | [], _, l => by simp [Out.pre_nil]
  | t :: ts, h, l => by
    rw [List.map_cons, List.flatten_cons, List.append_assoc, lr_frm (h t List.mem_cons_self), lr_frms ts (fun u hu => h u (List.mem_cons_of_mem _ hu)), Out.pre_pre]
    simp
/-- a frame's proper prefix is a rest -/
theorem prefix_rest {t : List Nat} (h : isTextB t = true) {m : Nat} (hm : m < (frm t).length) : ∃ s' t', Vd s' t' ∧ (frm t).take m = glue s' t' := by
  have v0 : Vd [] none := .inl rfl
  have e := lr_frm h []
  rw [List.append_nil, lr_nil] at e
  have e2 := lr_app ((frm t).take m) ((frm t).drop m) v0
  rw [List.take_append_drop, e] at e2
  cases hl : lr [] none ((frm t).take m) with
  | wrong us k =>
    rw [hl] at e2
    cases e2
  | read us r =>
    rw [hl] at e2
    obtain ⟨s', t', v', hr⟩ := lr_rest _ v0 hl
    have hb : (frm t).drop m ≠ [] := by
      intro z
      have := congrArg List.length z
      rw [List.length_drop, List.length_nil] at this
      omega
    simp only [Out.thn, Out.pre] at e2
    cases hl2 : lr (spS r) (spT r) ((frm t).drop m) with
    | wrong ws k => rw [hl2] at e2; cases e2
    | read ws q =>
      rw [hl2] at e2
      injection e2 with e3 e4
      have hus : us = [] := by
        cases us with
        | nil => rfl
        | cons u us =>
          simp at e3
          obtain ⟨_, rfl, rfl⟩ := e3
          have := lr_id _ hl2
          rw [← e4] at this
          have := congrArg List.length this
          rw [List.length_append, List.length_drop] at this
          have e0 : (glue [] none).length = 0 := rfl
          omega
      subst hus
      have := lr_id _ hl
      simp [glue] at this
      exact ⟨s', t', v', by rw [← hr]; exact this.symm⟩
theorem isRestB_glue {s : List Nat} {t : Option (List Nat)} (v : Vd s t) : isRestB (glue s t) = true := by
  unfold isRestB
  rw [(sp_glue v).1, (sp_glue v).2]
  cases t with
  | none =>
    rcases v with rfl | ⟨k, hk, rfl⟩
    · rw [if_neg (by rw [isDec_nil]; decide)]
      rfl
    · rw [if_pos (isDec_iff.mpr ⟨k, hk, rfl⟩)]
      rfl
  | some t =>
    obtain ⟨⟨k, hk, rfl, ht⟩, hp⟩ := v
    rw [if_pos (isDec_iff.mpr ⟨k, hk, rfl⟩), numL_val]
    show (decide (t.length ≤ k) && plainL t) = true
    rw [hp, decide_eq_true ht]
    rfl
theorem lr_start {s : List Nat} {t : Option (List Nat)} (v : Vd s t) (z : List Nat) : lr [] none (glue s t ++ z) = (lr s t z).pre [] (glue s t).length := by
  have v0 : Vd [] none := .inl rfl
  have key : lr [] none (glue s t) = .read [] (glue s t) := by
    cases t with
    | none =>
      rcases v with rfl | ⟨k, hk, rfl⟩
      · rfl
      · have := lr_numL k hk []
        rw [List.append_nil, lr_nil] at this
        simpa [glue, Out.pre] using this
    | some t =>
      obtain ⟨⟨k, hk, rfl, ht⟩, hp⟩ := v
      have hs1 : stp (numL k) none 58 = some (none, numL k, some []) := by
        show (if 58 = 58 ∧ numL k ≠ [] then _ else _) = _
        rw [if_pos ⟨rfl, numL_ne _⟩]
      have e : lr [] none (numL k ++ 58 :: t) = .read [] (numL k ++ 58 :: t) := by
        rw [lr_numL _ hk, lr_cons, hs1]
        simp only [Option.toList]
        have := lr_text t [] (s := numL k) (t := []) hp (by rw [numL_val]; simp; exact ht)
        rw [List.append_nil, List.nil_append] at this
        rw [this, lr_nil]
        simp [Out.pre, glue]
      exact e
  rw [lr_app _ _ v0, key]
  simp only [Out.thn]
  rw [(sp_glue v).1, (sp_glue v).2]
end Ag

end
/-! ## W1 -/
section
set_option linter.all false
set_option maxRecDepth 100000
namespace Ag
open PySem PySem.Spec PyProof.Rows L2
open SX (S S_len S_cat S_inj)
/-! ### the text of a message is a text -/
theorem plain_join : ∀ ws : List (List Nat), (∀ f ∈ ws, plainL f = true) → plainL (TL.joinL [32] ws) = true
  | [], _ => rfl
  | [p], h => h p List.mem_cons_self
  | p :: q :: r, h => by
    have ih := plain_join (q :: r) fun f hf => h f (List.mem_cons_of_mem _ hf)
    have hp := h p List.mem_cons_self
    show plainL (p ++ ([32] ++ TL.joinL [32] (q :: r))) = true
    unfold plainL at ih hp ⊢
    rw [List.all_append, List.all_append, hp, ih]
    rfl
theorem text_wr {ms : List Itm} (h : msgB ms = true) : isTextB (wr ms) = true := by
  obtain ⟨_, hi⟩ := msg_items h
  unfold isTextB
  rw [Bool.and_eq_true, decide_eq_true_eq]
  refine ⟨?_, plain_join _ fun f hf => ?_⟩
  · obtain ⟨wd, xs, ks, rfl, hf, hl, hv⟩ := msg_head h
    have hw := (form_free hf).2.2.1
    have hj := (join_sz ((Itm.s wd :: xs).map itT)).1
    have hb : ∀ x ∈ xs, (itT x).length ≤ 150 := fun x hx => (itT_len (hi x (List.mem_cons_of_mem _ hx))).1
    have hn : ∀ (k : Nat) x, k ≠ 0 → itmB k x = true → (itT x).length ≤ 10 := fun k x h0 hx => by
      unfold itmB at hx
      rw [if_neg h0, Bool.and_eq_true] at hx
      cases x with
      | s l => cases hx.1
      | n => cases hx.1
      | i j =>
        have h1 := hx.1
        simp only [numB, Bool.and_eq_true, decide_eq_true_eq] at h1
        exact numL_len10 (by omega)
    have e0 : itT (.s wd) = wd := rfl
    unfold wr
    rcases form_ks hf with rfl | rfl | rfl | rfl
    · match xs, hl with
      | [], _ =>
        simp only [szL, e0, List.map_cons, List.map_nil, List.sum_cons, List.sum_nil, List.length_cons, List.length_nil] at hj ⊢
        omega
    · match xs, hl, hv with
      | [x], _, hv =>
        have h1 := hn 1 x (by decide) (by simpa using hv)
        simp only [szL, e0, List.map_cons, List.map_nil, List.sum_cons, List.sum_nil, List.length_cons, List.length_nil] at hj ⊢
        omega
    · match xs, hl, hv with
      | [x, y], _, hv =>
        have hv' : itmB 1 x = true ∧ itmB 1 y = true := by simpa using hv
        have h1 := hn 1 x (by decide) hv'.1
        have h2 := hn 1 y (by decide) hv'.2
        simp only [szL, e0, List.map_cons, List.map_nil, List.sum_cons, List.sum_nil, List.length_cons, List.length_nil] at hj ⊢
        omega
    · match xs, hl, hv with
      | [x, y], _, hv =>
        have hv' : itmB 2 x = true ∧ itmB 0 y = true := by simpa using hv
        have h1 := hn 2 x (by decide) hv'.1
        have h2 := hb y (by simp)
        simp only [szL, e0, List.map_cons, List.map_nil, List.sum_cons, List.sum_nil, List.length_cons, List.length_nil] at hj ⊢
        omega
  · obtain ⟨x, hx, rfl⟩ := List.mem_map.mp hf
    exact (itT_len (hi x hx)).2
theorem bnd_msg {ms : List Itm} (h : msgB ms = true) : bnd ms := by
  obtain ⟨_, hmi⟩ := msg_items h
  intro l hl
  rcases hmi _ hl with ⟨l', e, hp, hll⟩ | ⟨n, e, _⟩
  · cases e
    exact ⟨asc_plain hp, by omega⟩
  · cases e
/-- the frames of texts, read at once -/
theorem read_all {ts : List (List Nat)} (h : ∀ t ∈ ts, isTextB t = true) : lr [] none (ts.map frm).flatten = .read ts [] := by
  have := lr_frms ts h []
  rw [List.append_nil] at this
  rw [this, lr_nil]
  simp [Out.pre, glue]
/-! ### the deck and the tables -/
section
variable {p c Pt : Addr} {H H1 H2 : Hp}
/-- all but the deck and the tables stays -/
def Gt (p c Pt : Addr) (H H' : Hp) : Prop := (∀ b o, b ≠ p → b ≠ c → (∀ ps, o ≠ .tbl ps) → H b = some o → H' b = some o) ∧ Dk p c H' ∧ LamX.Tabs [(Pt, qLam)] H'
theorem Gt.refl (d : Dk p c H) (t : LamX.Tabs [(Pt, qLam)] H) : Gt p c Pt H H := ⟨fun _ _ _ _ _ e => e, d, t⟩
theorem Gt.trans (a : Gt p c Pt H H1) (b : Gt p c Pt H1 H2) : Gt p c Pt H H2 := ⟨fun x o h1 h2 n e => b.1 x o h1 h2 n (a.1 x o h1 h2 n e), b.2⟩
theorem tabs_gx (d : Dk p c H) (t : LamX.Tabs [(Pt, qLam)] H) (g : Gx p c H H1) : LamX.Tabs [(Pt, qLam)] H1 := by
  obtain ⟨m, n, cs, e1, e2, _⟩ := d
  intro y hy
  obtain ⟨ps, h1, h2, h3⟩ := t y hy
  have np : y.1 ≠ p := fun z => by rw [z, e1] at h1; cases h1
  have nc : y.1 ≠ c := fun z => by rw [z, e2] at h1; cases h1
  refine ⟨ps, g.1 _ _ np nc h1, h2, fun pos cv hc => ?_⟩
  obtain ⟨a, ea, ha⟩ := h3 pos cv hc
  refine ⟨a, ea, g.1 _ _ (fun z => ?_) (fun z => ?_) ha⟩
  · rw [z, e1] at ha
    unfold LamX.CodeO at ha
    cases ha
  · rw [z, e2] at ha
    unfold LamX.CodeO at ha
    cases ha
theorem Gt.gx (a : Gt p c Pt H H1) (g : Gx p c H1 H2) : Gt p c Pt H H2 := ⟨fun x o h1 h2 n e => g.1 x o h1 h2 (a.1 x o h1 h2 n e), g.2, tabs_gx a.2.1 a.2.2 g⟩
theorem Gt.same (a : Gt p c Pt H H1) (s : Same H1 H2) : Gt p c Pt H H2 := a.gx (Gx.same a.2.1 s)
theorem Gt.ext (a : Gt p c Pt H H1) (g : LamX.ExtN H1 H2) (t : LamX.Tabs [(Pt, qLam)] H2) : Gt p c Pt H H2 := by
  refine ⟨fun x o h1 h2 n e => g _ _ (a.1 x o h1 h2 n e) n, ?_, t⟩
  obtain ⟨m, n, cs, e1, e2, e3⟩ := a.2.1
  exact ⟨m, n, cs, g _ _ e1 (fun _ => by simp), g _ _ e2 (fun _ => by simp), e3⟩
theorem At.gt {a : Addr} {o : HO} (h : At p c H a o) (g : Gt p c Pt H H1) (n : ∀ ps, o ≠ .tbl ps) : At p c H1 a o := ⟨h.1, h.2.1, g.1 a o h.1 h.2.1 n h.2.2⟩
theorem At.gtT {a : Addr} {xs : List V} (h : At p c H a (.tup xs)) (g : Gt p c Pt H H1) : At p c H1 a (.tup xs) := h.gt g fun _ => by simp
theorem At.gtL {a : Addr} {xs : List V} (h : At p c H a (.lst xs)) (g : Gt p c Pt H H1) : At p c H1 a (.lst xs) := h.gt g fun _ => by simp
/-- messages at addresses -/
def MsA (p c : Addr) (H : Hp) : List (List Itm) → List Addr → Prop
  | [], [] => True
  | ms :: mss, t :: ts => (msgB ms = true ∧ At p c H t (.tup (ms.map Itm.v))) ∧ MsA p c H mss ts
  | _, _ => False
theorem MsA.len : ∀ {mss : List (List Itm)} {ts : List Addr}, MsA p c H mss ts → mss.length = ts.length
  | [], [], _ => rfl
  | _ :: _, _ :: _, h => by rw [List.length_cons, List.length_cons, MsA.len h.2]
theorem MsA.imp : ∀ {mss : List (List Itm)} {ts : List Addr}, MsA p c H mss ts → (∀ t xs, At p c H t (.tup xs) → At p c H1 t (.tup xs)) → MsA p c H1 mss ts
  | [], [], _, _ => trivial
  | _ :: _, _ :: _, h, k => ⟨⟨h.1.1, k _ _ h.1.2⟩, MsA.imp h.2 k⟩
theorem MsA.snoc : ∀ {mss : List (List Itm)} {ts : List Addr} {ms : List Itm} {t : Addr}, MsA p c H mss ts → msgB ms = true → At p c H t (.tup (ms.map Itm.v)) → MsA p c H (mss ++ [ms]) (ts ++ [t])
  | [], [], _, _, _, a, b => ⟨⟨a, b⟩, trivial⟩
  | _ :: _, _ :: _, _, _, h, a, b => ⟨h.1, MsA.snoc h.2 a b⟩
theorem MsA.at_ : ∀ {mss : List (List Itm)} {ts : List Addr} {i : Nat} {t : Addr}, MsA p c H mss ts → ts[i]? = some t → ∃ ms, mss[i]? = some ms ∧ msgB ms = true ∧ At p c H t (.tup (ms.map Itm.v))
  | _ :: _, _ :: _, 0, _, h, e => by
    simp at e
    subst e
    exact ⟨_, rfl, h.1.1, h.1.2⟩
  | _ :: _, _ :: _, i + 1, _, h, e => MsA.at_ (i := i) h.2 (by simpa using e)
  | [], [], _, _, _, e => by simp at e
theorem MsA.all : ∀ {mss : List (List Itm)} {ts : List Addr}, MsA p c H mss ts → ∀ ms ∈ mss, msgB ms = true
  | _ :: _, _ :: _, h, ms, hm => by
    rcases List.mem_cons.mp hm with rfl | hm
    · exact h.1.1
    · exact MsA.all h.2 ms hm
theorem MsA.dp {K : PySem.W.Frag} : ∀ {mss : List (List Itm)} {ts : List Addr}, MsA p c H mss ts → DpAll K H (ts.map V.ref) (mss.map msD)
  | [], [], _ => .nil
  | _ :: _, _ :: _, h => .cons (dp_ms h.1.2.2.2) (MsA.dp h.2)
theorem MsA.sm : ∀ {mss : List (List Itm)} {ts : List Addr}, MsA p c H mss ts → SmA (mss.map msD) 1 (mss.length * 800)
  | [], [], _ => .nil
  | _ :: mss, _ :: _, h => .cons (sm_ms h.1.1) (MsA.sm h.2) (by rw [List.length_cons]; omega)
end
end Ag

end
/-! ## W2 -/
section
set_option linter.all false
set_option maxRecDepth 100000
namespace Ag
open PySem PySem.Spec PyProof.Rows L2
open SX (S S_len S_cat S_inj)
/-- a value, by way of what is known of it -/
def tMid (t : TE) : TE := fun σ H Q => ∃ I : V → Hp → Prop, (∀ Q' : VK, (∀ v H', I v H' → Q' v H') → t σ H Q') ∧ ∀ v H', I v H' → Q v H'
theorem pe_ifMid {X : Cx} {c a b : Expr} {pos : Pos} {tA : TT} {ta tb : TE} (hc : PT X c tA) (ha : PE X a ta) (hb : PE X b tb) : PE X (.IfExp c a b pos) (tMid (tIf tA ta tb)) :=
  ⟨fun pins s σ H Q I hw => by
    obtain ⟨J, h1, h2⟩ := hw
    exact (pe_ifExp hc ha hb).run pins s σ H Q I (h1 Q h2)⟩
theorem txs_all {g : List Nat → List Nat} {ts : List (List Nat)} {xs : List V} (hl : xs.length = ts.length) (h : ∀ (i : Nat) (y : V), xs[i]? = some y → ∃ t, ts[i]? = some t ∧ y = V.str (S (g t))) : xs = txs (ts.map g) := by
  refine List.ext_getElem? fun i => ?_
  unfold txs
  rw [List.map_map, List.getElem?_map]
  cases e : xs[i]? with
  | none =>
    have h1 := List.getElem?_eq_none_iff.mp e
    rw [List.getElem?_eq_none_iff.mpr (by omega)]
    rfl
  | some y =>
    obtain ⟨t, ht, rfl⟩ := h i y e
    rw [ht]
    rfl
/-- a comprehension without tests, each item as v says of the heap and its place -/
theorem lc_allH {J : It} {n : Nat} {G : Hp → Prop} {Y : Nat → Hp → V → Hp → Prop} (w : Walk J n G Y) {g : TG} {te : TE} {vs : List Nat} {σ : L2.St} {H1 : Hp} {D : Addr} {Qd : Hp → Prop} (R : Hp → Prop) (v : Hp → Nat → V → Prop) (hn : n ≤ 16000000) (r0 : R H1) (rD : ∀ H o, R H → R (upd H D o))
    (vD : ∀ H o j y, v H j y → v (upd H D o) j y) (hG : ∀ H, R H → G H)
    (hs : ∀ i x H H' xs (k : VK), i < n → R H → H D = some (.lst xs) → Y i H x H' → (∀ y H4, (∀ j z, v H j z → v H4 j z) → v H4 i y → R H4 → H4 D = some (.lst xs) → k y H4) → g x (wipe σ vs) H' fun σ2 H2 => wipe σ2 vs = wipe σ vs ∧ te σ2 H2 k)
    (hd : ∀ H xs, xs.length = n → (∀ i y, xs[i]? = some y → v H i y) → R H → H D = some (.lst xs) → Qd H) :
    ∃ W : Nat → Nat → Hp → Prop, (∃ m, W 0 m (upd H1 D (.lst []))) ∧ ∀ i m H, W i m H →
      (J.stop i H ∧ Qd H) ∨ (J.go i H ∧ ∃ Nx : Hp → Prop, (∀ H', Nx H' → ∃ m', m' < m ∧ W (i + 1) m' H') ∧ ∀ x H', J.yld i H x H' → g x (wipe σ vs) H' fun σ2 H2 => wipe σ2 vs = wipe σ vs ∧ tYes σ2 H2 fun b H3 =>
        if b = true then te σ2 H3 fun y H4 => ∃ acc, H4 D = some (.lst acc) ∧ acc.length < sizeLine ∧ Nx (upd H4 D (.lst (acc ++ [y]))) else Nx H3) := by
  refine lc_it (g := g) (tt := tYes) (te := te) (vs := vs) (σ := σ) w (fun i H => ∃ xs : List V, xs.length = i ∧ (∀ j y, xs[j]? = some y → v H j y) ∧ R H ∧ H D = some (.lst xs)) ⟨[], rfl, fun j y h => by simp at h, rD _ _ r0, upd_same⟩ (fun i H hi p => ?_) (fun i x H H' hi p hy => ?_) (fun H p => ?_)
  · obtain ⟨xs, _, _, r, _⟩ := p
    exact hG H r
  · obtain ⟨xs, hl, hv, r, hD⟩ := p
    refine hs i x H H' xs _ hi r hD hy ?_
    rintro y H4 keep hvy r4 h4
    refine ⟨xs, h4, ?_, xs ++ [y], by simp [hl], fun j z hz => vD _ _ _ _ ?_, rD _ _ r4, upd_same⟩
    · rw [sizeLine_eq]; omega
    · rw [List.getElem?_append] at hz
      split at hz
      · exact keep j z (hv j z hz)
      · rename_i hj
        have e : j - xs.length = 0 := by
          cases hq : j - xs.length with
          | zero => rfl
          | succ k => rw [hq] at hz; simp at hz
        rw [e] at hz
        simp at hz
        subst hz
        have : j = i := by omega
        subst this
        exact hvy
  · obtain ⟨xs, hl, hv, r, hD⟩ := p
    exact hd H xs hl hv r hD
theorem dp_refs {K : PySem.W.Frag} {H : Hp} : ∀ {mss : List (List Itm)} {xs : List V}, xs.length = mss.length → (∀ (i : Nat) y, xs[i]? = some y → ∃ t ms, mss[i]? = some ms ∧ y = V.ref t ∧ H t = some (.tup (ms.map Itm.v))) → DpAll K H xs (mss.map msD)
  | [], [], _, _ => .nil
  | ms :: mss, x :: xs, hl, h => by
    obtain ⟨t, ms', e, rfl, ht⟩ := h 0 x rfl
    have e : ms = ms' := by simpa using e
    subst e
    exact .cons (dp_ms ht) (dp_refs (by simpa using hl) fun i y hy => by simpa using h (i + 1) y (by simpa using hy))
def kindsV : List V := [.str (Str.ofString "ask"), .str (Str.ofString "past"), .str (Str.ofString "look"), .str (Str.ofString "hello"), .str (Str.ofString "answer"), .str (Str.ofString "upto"), .str (Str.ofString "forgot"), .str (Str.ofString "well"), .str (Str.ofString "away")]
theorem kinds_at {i : Nat} {x : V} (h : kindsV[i]? = some x) : ∃ wd ks, x = .str (S wd) ∧ formOf wd = some ks := by
  have key : ∀ t : Str, (formOf t.cps.toList).isSome = true → ∃ wd ks, V.str t = .str (S wd) ∧ formOf wd = some ks := fun t ht => by
    obtain ⟨ks, hk⟩ := Option.isSome_iff_exists.mp ht
    exact ⟨t.cps.toList, ks, by rw [SX.S_tl t], hk⟩
  have mem := List.mem_of_getElem? h
  unfold kindsV at mem
  simp only [List.mem_cons, List.not_mem_nil, or_false] at mem
  rcases mem with rfl | rfl | rfl | rfl | rfl | rfl | rfl | rfl | rfl
  all_goals exact key _ (by decide +kernel)
theorem frm_le {t : List Nat} (h : t.length ≤ 200) : (frm t).length ≤ 205 := by
  have := numL_len3 h
  unfold frm
  simp only [List.length_append, List.length_cons, List.length_nil]
  omega
theorem tx_len {t : List Nat} (h : isTextB t = true) : t.length ≤ 200 := by
  unfold isTextB at h
  rw [Bool.and_eq_true, decide_eq_true_eq] at h
  exact h.1
theorem frms_le : ∀ (ts : List (List Nat)), (∀ t ∈ ts, isTextB t = true) → (ts.map frm).flatten.length ≤ 205 * ts.length
  | [], _ => Nat.zero_le _
  | t :: ts, h => by
    have h1 := frm_le (tx_len (h t (List.mem_cons_self ..)))
    have h2 := frms_le ts fun u hu => h u (List.mem_cons_of_mem _ hu)
    rw [List.map_cons, List.flatten_cons, List.length_append, List.length_cons]
    omega
/-! ### a list is put anew -/
theorem dk_putL {p c L : Addr} {H : Hp} {o : HO} (d : Dk p c H) (n : L ≠ p ∧ L ≠ c) : Dk p c (upd H L o) := by
  obtain ⟨m, t, cs, e1, e2, e3⟩ := d
  exact ⟨m, t, cs, by rw [upd_ne n.1.symm]; exact e1, by rw [upd_ne n.2.symm]; exact e2, e3⟩
theorem tabs_putL {T : List (Addr × Str)} {L : Addr} {H : Hp} {o : HO} {xs : List V} (t : LamX.Tabs T H) (h : H L = some (.lst xs)) : LamX.Tabs T (upd H L o) := by
  intro y hy
  obtain ⟨ps, h1, h2, h3⟩ := t y hy
  have ny : y.1 ≠ L := fun z => by rw [z, h] at h1; cases h1
  refine ⟨ps, by rw [upd_ne ny]; exact h1, h2, fun pos cv hc => ?_⟩
  obtain ⟨a, ea, ha⟩ := h3 pos cv hc
  have na : a ≠ L := fun z => by
    rw [z, h] at ha
    unfold LamX.CodeO at ha
    cases ha
  exact ⟨a, ea, by rw [upd_ne na]; exact ha⟩
theorem At.putL {p c L b : Addr} {H : Hp} {o u : HO} (a : At p c H b u) (n : b ≠ L) : At p c (upd H L o) b u := ⟨a.1, a.2.1, by rw [upd_ne n]; exact a.2.2⟩
theorem ne_tl {H : Hp} {a L : Addr} {xs ys : List V} (h : H a = some (.tup xs)) (k : H L = some (.lst ys)) : a ≠ L := fun z => by
  rw [z, k] at h
  cases h
/-- while a text is bent -/
def NearI (a0 p c Pt Kl L t tt : Addr) (wd w : List Nat) (sv : Str) (x11 : Option V) (H : Hp) (j : Nat) (σ : L2.St) (H' : Hp) : Prop := ∃ (z : List Nat) (x10 : Option V), σ = [some (.ref a0), some (.ref p), some (.ref Kl), some (.ref L), some (.str (S wd)), some (.ref t), some (.str (S w)), some (.ref tt), some (.str sv), some (.str (S z)), x10, x11] ∧
  asc z ∧ (j = 0 → z.length ≤ 200) ∧ (j = 1 → z.length ≤ 813) ∧ z.length ≤ 4000 ∧ Gt p c Pt H H'
/-- between two kinds -/
def LawI (a0 p c Pt Kl L : Addr) (i : Nat) (σ : L2.St) (H : Hp) : Prop := ∃ (mss : List (List Itm)) (ts : List Addr) (x4 x5 x6 x7 x8 x9 x10 x11 : Option V), σ = [some (.ref a0), some (.ref p), some (.ref Kl), some (.ref L), x4, x5, x6, x7, x8, x9, x10, x11] ∧
  Dk p c H ∧ LamX.Tabs [(Pt, qLam)] H ∧ At p c H Kl (.lst kindsV) ∧ At p c H L (.lst (ts.map V.ref)) ∧ Kl ≠ L ∧ MsA p c H mss ts ∧ mss.length = i
section
variable {P : Program} {w : World} {K : PySem.W.Frag} {mg : Str → Option Value} {base : Heap} {tm tn tb : Tok}
def spLaw (Pt : Addr) (K : PySem.W.Frag) : Sp := fun vs H Q _ => ∃ (a : Addr) (ns : List Int), vs = [.ref a] ∧ SqL K H a (ns.map V.int) ∧ ns.length ≤ 63 ∧ LamX.Tabs [(Pt, qLam)] H ∧ ∀ H', Q (.bl true) H'
theorem ok_law {f f1 f2 f3 f4 f5 f6 f7 f8 f9 fa fb fc C Pt : Addr} {fd fd1 fd2 fd3 fd4 fd5 fd6 fd7 fd8 fd9 fda fdb : FuncData} (F : Fn K mg "law" s_law ["_law_script"] f fd) (B : Con mg tm tn tb)
    (F__law_deck : Fn K mg "_law_deck" s__law_deck ["_law_script"] f1 fd1) (G__law_deck : FnOk P w K mg base CX0 1 f1 fd1 ["_law_script"] (spDeck K))
    (F__law_message : Fn K mg "_law_message" s__law_message ["_law_deck_here", "_law_words"] f2 fd2) (G__law_message : FnOk P w K mg base CX0 5 f2 fd2 ["_law_deck_here", "_law_words"] spLMsg)
    (F__law_written : Fn K mg "_law_written" s__law_written ["_law_message_here"] f3 fd3) (G__law_written : FnOk P w K mg base CX0 1 f3 fd3 ["_law_message_here"] spWritten)
    (F_message_text : Fn K mg "message_text" s_message_text ["message"] f4 fd4) (G_message_text : FnOk P w K mg base CX0 6 f4 fd4 ["message"] spMt) (K_message_text_message : KwB K fd4 ["message"] ["message"] (fun x => x) (fun x => x))
    (F_read_message : Fn K mg "read_message" s_read_message ["text"] f5 fd5) (G_read_message : FnOk P w K mg base (L2.CX P w) 6 f5 fd5 ["text"] (spRd C))
    (F_side : Fn K mg "side" s_side ["message"] f6 fd6) (G_side : FnOk P w K mg base CX0 6 f6 fd6 ["message"] spSide) (K_side_message : KwB K fd6 ["message"] ["message"] (fun x => x) (fun x => x))
    (F_is_message : Fn K mg "is_message" s_is_message ["thing"] f7 fd7) (G_is_message : FnOk P w K mg base CX0 5 f7 fd7 ["thing"] spMsg)
    (F_is_text : Fn K mg "is_text" s_is_text ["thing"] f8 fd8) (G_is_text : FnOk P w K mg base CX0 2 f8 fd8 ["thing"] spIsText)
    (F__law_near : Fn K mg "_law_near" s__law_near ["_law_deck_here", "_law_text_here"] f9 fd9) (G__law_near : FnOk P w K mg base CX0 4 f9 fd9 ["_law_deck_here", "_law_text_here"] spNear)
    (F__law_is_read : Fn K mg "_law_is_read" s__law_is_read ["_law_text_here"] fa fda) (G__law_is_read : FnG P w K mg base 9 fa fda ["_law_text_here"] (spIsRead Pt))
    (F_frame : Fn K mg "frame" s_frame ["text"] fb fdb) (G_frame : FnOk P w K mg base CX0 3 fb fdb ["text"] spFrame)
    {fdc : FuncData} (F_read : Fn K mg "read" s_read ["rest", "piece"] fc fdc) (G_read : FnOk P w K mg base CX0 4 fc fdc ["rest", "piece"] spRead) : FnG P w K mg base 10 f fd ["_law_script"] (spLaw Pt K) := by
  refine okG F.F sc_law (fun vs H Q E h => ?_) (fun cdv A outer s0 H vs Q E hr hG h => ?_)
  · obtain ⟨a, ns, rfl, _⟩ := h
    rfl
  · obtain ⟨a0, ns, rfl, hsc, hn, ht0, q⟩ := h
    refine ⟨_, (pss_cons (ps_set (i := 1) sc_law.nd rfl (.inl rfl) (pe_call G__law_deck (hr.mono (by decide)) (by rfl) F__law_deck.g F__law_deck.F.kp F__law_deck.b .nil pass0 (pa_cons (pv 0) pa_nil)))
      (pss_cons (ps_par (i := 2) (j := 3) (by rfl) sc_law.nd rfl rfl (by decide) rfl rfl (pa_cons (pe_lst (pa_cons pe_str (pa_cons pe_str (pa_cons pe_str (pa_cons pe_str (pa_cons pe_str (pa_cons pe_str (pa_cons pe_str (pa_cons pe_str (pa_cons pe_str pa_nil)))))))))) (pa_cons (pe_lst pa_nil) pa_nil)) (by rfl))
      (pss_cons (ps_for PassesOwn.never rfl (pi_list (pv 2)) (pg_name (i := 4) sc_law.nd rfl (Or.inl rfl))
      (pss_cons (ps_set (i := 5) sc_law.nd rfl (.inl rfl) (pe_call G__law_message (hr.mono (by decide)) (by rfl) F__law_message.g F__law_message.F.kp F__law_message.b .nil pass0 (pa_cons (pv 1) (pa_cons (pe_lst (pa_cons (pv 4) pa_nil)) pa_nil))))
        (pss_cons (ps_set (i := 6) sc_law.nd rfl (.inl rfl) (pe_call G__law_written (hr.mono (by decide)) (by rfl) F__law_written.g F__law_written.F.kp F__law_written.b .nil pass0 (pa_cons (pv 5) pa_nil)))
        (pss_cons (ps_set (i := 7) sc_law.nd rfl (.inl rfl) (pe_tup (pa_cons (pe_call G_message_text (hr.mono (by decide)) (by rfl) F_message_text.g F_message_text.F.kp F_message_text.b .nil pass0 (pa_cons (pv 5) pa_nil)) (pa_cons (pe_callKwG (FnG.of G_message_text) (hr.mono (by decide)) hG (by rfl) F_message_text.g F_message_text.F.kp K_message_text_message (pk_cons (pv 5) pk_nil)) (pa_cons (pe_call G_read_message (hr.mono (by decide)) (by rfl) F_read_message.g F_read_message.F.kp F_read_message.b .nil passL (pa_cons (pv 6) pa_nil)) (pa_cons (pe_call G_side (hr.mono (by decide)) (by rfl) F_side.g F_side.F.kp F_side.b .nil pass0 (pa_cons (pv 5) pa_nil)) (pa_cons (pe_call G_is_message (hr.mono (by decide)) (by rfl) F_is_message.g F_is_message.F.kp F_is_message.b .nil pass0 (pa_cons (pv 5) pa_nil)) pa_nil)))))))
        (pss_cons (ps_set (i := 8) sc_law.nd rfl (.inl rfl) (pe_ifMid (pt_cmpR op_in_seq (pv 4) (pe_tup (pa_cons pe_str (pa_cons pe_str (pa_cons pe_str pa_nil)))) rfl) pe_str pe_str))
        (pss_cons (ps_if (PW.pt (pw_or (pt_cmpR op_ne (pe_callB (call_repr_data (hu66 hr) hG) (by rfl) B.n_repr (by decide +kernel) (pa_cons (pv 7) pa_nil)) (pe_callB (call_repr_data (hu66 hr) hG) (by rfl) B.n_repr (by decide +kernel) (pa_cons (pe_tup (pa_cons (pv 6) (pa_cons (pv 6) (pa_cons (pv 5) (pa_cons (pv 8) (pa_cons pe_bl pa_nil)))))) pa_nil)) (nomark _)) (pw_or (pt_cmpR op_ne (pe_callKwG (FnG.of G_side) (hr.mono (by decide)) hG (by rfl) F_side.g F_side.F.kp K_side_message (pk_cons (pv 5) pk_nil)) (pv 8) (nomark _)) (pw_or1 (pt_cmpR op_notBl (pe_call G_is_text (hr.mono (by decide)) (by rfl) F_is_text.g F_is_text.F.kp F_is_text.b .nil pass0 (pa_cons (pv 6) pa_nil)) pe_bl (nomark _))))))
        (pss_one (ps_ret pe_bl))
        pss_nil)
        (pss_cons (ps_expr (pe_bm PySem.F.plainAttrs_list PySem.F.slot_list_append PySem.F.type_list_append mt_append (pv 3) (pa_cons (pv 5) pa_nil)))
        (pss_cons (ps_set (i := 9) sc_law.nd rfl (.inl rfl) (pv 6))
        (pss_one (ps_for PassesOwn.never rfl (pi_range1 (by rfl) B.n_range (pa_cons pe_int pa_nil)) (pg_name (i := 10) sc_law.nd rfl (Or.inl rfl))
        (pss_cons (ps_set (i := 9) sc_law.nd rfl (.inl rfl) (pe_call G__law_near (hr.mono (by decide)) (by rfl) F__law_near.g F__law_near.F.kp F__law_near.b .nil pass0 (pa_cons (pv 1) (pa_cons (pv 9) pa_nil))))
          (pss_one (ps_if (pt_not (pt_val (pe_callG G__law_is_read (hr.mono (by decide)) hG (by rfl) F__law_is_read.g F__law_is_read.F.kp F__law_is_read.b (pa_cons (pv 9) pa_nil))))
          (pss_one (ps_ret pe_bl))
          pss_nil)))))))))))))
      (pss_cons (ps_set (i := 11) sc_law.nd rfl (.inl rfl) (pe_join pe_str (pe_lc (own := [("_law_message_here", 5)]) rfl sc_law.nd (pi_list (pv 3)) (blkOk_by (N := N_law) (sc := defScope s_law) (by decide +kernel)) (fun _ _ _ _ _ => (pg_name (i := 5) sc_law.nd rfl (Or.inl rfl))) (fun _ _ _ _ _ => pts_nil) (fun _ _ _ _ _ => (pe_call G_frame (hr.mono (by decide)) (by rfl) F_frame.g F_frame.F.kp F_frame.b .nil pass0 (pa_cons (pe_call G_message_text (hr.mono (by decide)) (by rfl) F_message_text.g F_message_text.F.kp F_message_text.b .nil pass0 (pa_cons (pv 5) pa_nil)) pa_nil))))))
      (pss_cons (ps_set (i := 7) sc_law.nd rfl (.inl rfl) (pe_call G_read (hr.mono (by decide)) (by rfl) F_read.g F_read.F.kp F_read.b .nil pass0 (pa_cons pe_str (pa_cons (pv 11) pa_nil))))
      (pss_one (ps_ret (pe_and (pe_cmpR op_eq (pe_callB (call_repr_data (hu66 hr) hG) (by rfl) B.n_repr (by decide +kernel) (pa_cons (pe_lc (own := [("_law_text_here", 6)]) rfl sc_law.nd (pi_tup (pe_ix ix_tup (pv 7) pe_int (fun _ _ => rfl))) (blkOk_by (N := N_law) (sc := defScope s_law) (by decide +kernel)) (fun _ _ _ _ _ => (pg_name (i := 6) sc_law.nd rfl (Or.inl rfl))) (fun _ _ _ _ _ => pts_nil) (fun _ _ _ _ _ => (pe_call G_read_message (hr.mono (by decide)) (by rfl) F_read_message.g F_read_message.F.kp F_read_message.b .nil passL (pa_cons (pv 6) pa_nil)))) pa_nil)) (pe_callB (call_repr_data (hu66 hr) hG) (by rfl) B.n_repr (by decide +kernel) (pa_cons (pv 3) pa_nil)) (nomark _)) (pe_one (pe_cmpR op_eq (pe_ix ix_tup (pv 7) pe_int (fun _ _ => rfl)) pe_str (nomark _))))))))))), ?_⟩
    refine ⟨_, rfl, a0, ns, rfl, hsc, hn, fun p c H1 hp hc sm1 dk => ?_⟩
    have t1 := ht0.ext sm1
    refine ⟨sz (by show 9 ≤ 16000000; decide), fun Kl hKl => ⟨Nat.zero_le _, fun L hL => ⟨_, _, rfl, ?_⟩⟩⟩
    have gK := Gx.new dk hKl (o := .lst kindsV)
    have aK := At.new dk hKl (o := .lst kindsV)
    have gL := Gx.new gK.2 hL (o := .lst [])
    have aL := At.new gK.2 hL (o := .lst [])
    have nKL : Kl ≠ L := ne_of_none (H := upd H1 Kl (.lst kindsV)) upd_same hL
    refine ⟨_, rfl, Kl, rfl, ⟨_, SqL.of (aK.gx gL).2.2⟩, for_list (K := K) (a := Kl) (xs := kindsV) (LawI a0 p c Pt Kl L) ⟨[], [], none, none, none, none, none, none, none, none, rfl, gL.2, tabs_gx dk t1 (gK.trans gL), aK.gx gL, aL, nKL, trivial, rfl⟩ (fun i σ Hz hi h => ?_) ?_ ?_⟩
    · obtain ⟨mss, ts, x4, x5, x6, x7, x8, x9, x10, x11, rfl, dk, tb, aK, aL, nKL, hms, hl⟩ := h
      exact SqL.of aK.2.2
    · rintro i x σ Ha hx ⟨mss, ts, x4, x5, x6, x7, x8, x9, x10, x11, rfl, dk, tb, aK, aL, nKL, hms, hl⟩
      obtain ⟨wd, ks, rfl, hks⟩ := kinds_at hx
      have i9 : i < 9 := by
        rw [← Nat.not_le]
        intro z
        rw [List.getElem?_eq_none_iff.mpr (show kindsV.length ≤ i from z)] at hx
        cases hx
      refine ⟨_, rfl, _, rfl, sz (by show 1 ≤ 16000000; decide), fun b hb => ⟨p, c, b, wd, ks, rfl, dk.same (same_new hb), At.new dk hb, hks, fun t ms Hb hm hw htn at1 gx => ?_⟩⟩
      have g := ((Gt.refl dk tb).gx (Gx.new dk hb)).gx gx
      have bm := bnd_msg hm
      have hi3 := (msg_items hm).1
      -- the text
      refine ⟨_, rfl, t, ms, rfl, at1.2.2, hm, fun Hc sm => ?_⟩
      have at1 := at1.gx (Gx.same g.2.1 sm)
      have g := g.same sm
      have tw := text_wr hm
      have pw : plainL (wr ms) = true ∧ (wr ms).length ≤ 200 := by
        unfold isTextB at tw
        rw [Bool.and_eq_true, decide_eq_true_eq] at tw
        exact ⟨tw.2, tw.1⟩
      have aw := asc_plain pw.1
      -- what the program tells
      refine ⟨_, rfl, t, ms, rfl, at1.2.2, hm, bm, fun Hd sm => ?_⟩
      have at1 := at1.gx (Gx.same g.2.1 sm)
      have g := g.same sm
      refine ⟨_, rfl, rfl, t, ms, rfl, at1.2.2, hm, bm, fun He sm => ?_⟩
      have at1 := at1.gx (Gx.same g.2.1 sm)
      have g := g.same sm
      refine ⟨_, rfl, wr ms, rfl, aw, by omega, fun ms' hr2 t2 Hf ht2 sm at2 => ?_, fun hn => by rw [rdP_wr hm] at hn; (cases hn)⟩
      rw [rdP_wr hm] at hr2
      cases hr2
      have at1 := at1.gx (Gx.same g.2.1 sm)
      have at2 : At p c Hf t2 (.tup (ms.map Itm.v)) := ⟨(g.2.1.ne ht2).1, (g.2.1.ne ht2).2, at2⟩
      have g := g.same sm
      refine ⟨_, rfl, t, ms, rfl, at1.2.2, hm, bm, fun Hg sm => ?_⟩
      have at1 := at1.gx (Gx.same g.2.1 sm)
      have at2 := at2.gx (Gx.same g.2.1 sm)
      have g := g.same sm
      refine ⟨_, rfl, t, ms, rfl, at1.2.2, bm, by omega, fun Hh sm => ?_⟩
      have at1 := at1.gx (Gx.same g.2.1 sm)
      have at2 := at2.gx (Gx.same g.2.1 sm)
      have g := g.same sm
      rw [hw, hm]
      refine ⟨sz (by show 5 ≤ 16000000; decide), fun tt htt => ?_⟩
      have att := At.new g.2.1 htt (o := .tup [.str (S (wr ms)), .str (S (wr ms)), .ref t2, .str (sideS (twB wd)), .bl true])
      have sm := same_new htt (o := .tup [.str (S (wr ms)), .str (S (wr ms)), .ref t2, .str (sideS (twB wd)), .bl true])
      have at1 := at1.gx (Gx.same g.2.1 sm)
      have at2 := at2.gx (Gx.same g.2.1 sm)
      have g := g.same sm
      generalize upd Hh tt (.tup [.str (S (wr ms)), .str (S (wr ms)), .ref t2, .str (sideS (twB wd)), .bl true]) = Hi at att at1 at2 g ⊢
      -- the way
      refine ⟨fun v H' => v = .str (sideS (twB wd)) ∧ Same Hi H', fun Q' k => ?_, ?_⟩
      · refine ⟨_, rfl, sz (by show 3 ≤ 16000000; decide), fun u hu => ⟨u, _, rfl, .inr (SqT.of upd_same), rfl, rfl, _, rfl, ?_⟩⟩
        show if inV (.str (S wd)) _ = true then _ else _
        rw [tw_in]
        cases htw : twB wd with
        | true => exact iteT (k _ _ ⟨by rw [htw]; rfl, same_new hu⟩)
        | false => exact iteF (k _ _ ⟨by rw [htw]; rfl, same_new hu⟩)
      rintro _ Hj ⟨rfl, sm⟩
      have att := att.gx (Gx.same g.2.1 sm)
      have at1 := at1.gx (Gx.same g.2.1 sm)
      have at2 := at2.gx (Gx.same g.2.1 sm)
      have g := g.same sm
      have as : ∃ l, sideS (twB wd) = S l ∧ asc l ∧ l.length ≤ 6 := by
        cases twB wd with
        | true => exact ⟨[116,111,119,97,114,100], by decide +kernel, asc_plain (by decide), by decide⟩
        | false => exact ⟨[98,97,99,107], by decide +kernel, asc_plain (by decide), by decide⟩
      obtain ⟨sl, es, asl, lsl⟩ := as
      have fd : Fit (.tuple [.str (S (wr ms)), .str (S (wr ms)), msD ms, .str (sideS (twB wd)), .bool true]) := by
        rw [es]
        exact (Sm.tup (n := 1) (.cons (b1 := 210) (.str aw (by omega)) (.cons (b1 := 210) (.str aw (by omega)) (.cons (b1 := 700) (sm_ms hm) (.cons (b1 := 10) (.str asl (by omega)) (.cons (b1 := 2) (.bool (by omega)) (.nil (b := 0)) (b := 20) (by omega)) (b := 50) (by omega)) (b := 800) (by omega)) (b := 1100) (by omega)) (b := 1500) (by omega))).fit (by omega) (by omega)
      obtain ⟨d1, d2, d3, d4⟩ := fd.shown
      refine ⟨_, rfl, .ref tt, .tuple [.str (S (wr ms)), .str (S (wr ms)), msD ms, .str (sideS (twB wd)), .bool true], rfl, .tup (SqT.of att.2.2) (.cons (.str _) (.cons (.str _) (.cons (dp_ms at2.2.2) (.cons (.str _) (.cons (.bl true) .nil))))), d1, d2, d3, d4, ?_⟩
      refine ⟨_, rfl, _, rfl, _, rfl, _, rfl, sz (by show 5 ≤ 16000000; decide), fun u2 hu2 => ?_⟩
      have sm := same_new hu2 (o := .tup [.str (S (wr ms)), .str (S (wr ms)), .ref t, .str (sideS (twB wd)), .bl true])
      have at1 := at1.gx (Gx.same g.2.1 sm)
      have g := g.same sm
      refine ⟨.ref u2, .tuple [.str (S (wr ms)), .str (S (wr ms)), msD ms, .str (sideS (twB wd)), .bool true], rfl, .tup (SqT.of upd_same) (.cons (.str _) (.cons (.str _) (.cons (dp_ms at1.2.2) (.cons (.str _) (.cons (.bl true) .nil))))), d1, d2, d3, d4, ?_⟩
      refine ⟨rfl, _, rfl, ?_⟩
      rw [decide_eq_true rfl]
      refine iteF ?_
      refine ⟨_, rfl, rfl, t, ms, rfl, at1.2.2, hm, bm, fun Hk sm => ⟨_, rfl, rfl, _, rfl, ?_⟩⟩
      have at1 := at1.gx (Gx.same g.2.1 sm)
      have g := g.same sm
      rw [hw, decide_eq_true rfl]
      refine iteF ?_
      refine ⟨_, rfl, wr ms, rfl, by omega, _, _, rfl, rfl, _, rfl, ?_⟩
      rw [tw, decide_eq_true rfl]
      refine iteF ?_
      -- one row more
      have aL := aL.gtL g
      have aK := aK.gtL g
      have hms := hms.imp fun u xs au => au.gtT g
      refine ⟨_, rfl, .inl ⟨rfl, _, SqL.of aL.2.2⟩, _, rfl, L, _, .ref t, rfl, rfl, aL.2.2, sz (by show (ts.map V.ref).length + 1 ≤ 16000000; rw [List.length_map, ← hms.len]; omega), ?_⟩
      have dk := dk_putL (o := .lst (ts.map V.ref ++ [.ref t])) g.2.1 ⟨aL.1, aL.2.1⟩
      have tb := tabs_putL (o := .lst (ts.map V.ref ++ [.ref t])) g.2.2 aL.2.2
      have aK := aK.putL (o := .lst (ts.map V.ref ++ [.ref t])) nKL
      have at1 := at1.putL (o := .lst (ts.map V.ref ++ [.ref t])) (ne_tl at1.2.2 aL.2.2)
      have hms := (hms.imp fun u xs au => au.putL (o := .lst (ts.map V.ref ++ [.ref t])) (ne_tl au.2.2 aL.2.2)).snoc hm at1
      have aL : At p c (upd Hk L (.lst (ts.map V.ref ++ [.ref t]))) L (.lst ((ts ++ [t]).map V.ref)) := ⟨aL.1, aL.2.1, by rw [List.map_append]; exact upd_same⟩
      generalize upd Hk L (.lst (ts.map V.ref ++ [.ref t])) = Hm at dk tb aK hms aL ⊢
      clear at1 at2 att g
      -- its text, bent
      refine ⟨_, rfl, ?_⟩
      refine ⟨2, rfl, by decide, by decide, for_range (lo := 0) (n := (2 : Int).toNat) (NearI a0 p c Pt Kl L t tt wd (wr ms) (sideS (twB wd)) x11 Hm) ⟨wr ms, _, rfl, aw, fun _ => pw.2, (fun h => by cases h), by omega, Gt.refl dk tb⟩ ?_ ?_⟩
      · rintro j σ Hn hj ⟨z, y10, rfl, az, b0, b1, b2, g⟩
        have hj : j < 2 := hj
        refine ⟨_, rfl, _, rfl, p, c, z, rfl, g.2.1, az, by omega, fun l Ho al ll gx => ?_⟩
        have g := g.gx gx
        refine ⟨_, rfl, l, rfl, al, by omega, g.2.2, fun Hq ex tq => ⟨_, rfl, iteF ?_⟩⟩
        have g := g.ext ex tq
        refine ⟨l, _, rfl, al, fun h => by omega, fun h => ?_, ?_, g⟩
        · have : j = 0 := by omega
          have := b0 this
          omega
        · rcases (by omega : j = 0 ∨ j = 1) with h | h
          · have := b0 h
            omega
          · have := b1 h
            omega
      · rintro σ Hn ⟨z, y10, rfl, az, b0, b1, b2, g⟩
        exact ⟨mss ++ [ms], ts ++ [t], _, _, _, _, _, _, _, _, rfl, g.2.1, g.2.2, aK.gtL g, aL.gtL g, nKL, hms.imp fun u xs au => au.gtT g, by rw [List.length_append, hl]; rfl⟩
    · rintro σ Ha ⟨mss, ts, x4, x5, x6, x7, x8, x9, x10, x11, rfl, dk, tb, aK, aL, nKL, hms, hl⟩
      have hl9 : mss.length = 9 := hl
      have hall := hms.all
      have lts := hms.len
      refine ⟨⟨_, rfl⟩, _, rfl, L, rfl, ⟨_, SqL.of aL.2.2⟩, fun D hD => ?_⟩
      have nD : L ≠ D := ne_of_none aL.2.2 hD
      refine lc_all (walk_list (K := K) (a := L) (xs := ts.map V.ref)) (fun H' => Same Ha H' ∧ H' L = some (.lst (ts.map V.ref))) (fun i y => ∃ u, (mss.map wr)[i]? = some u ∧ y = .str (S (frm u))) (by rw [List.length_map]; omega) ⟨Same.refl _, aL.2.2⟩ (fun H' o g => ⟨fun b o' e => by rw [upd_ne (ne_of_none e hD)]; exact g.1 b o' e, by rw [upd_ne nD]; exact g.2⟩) (fun H' g => SqL.of g.2) ?_ ?_
      · rintro i x Hb Hb' xs k hi g hxs ⟨rfl, hx⟩ hk
        have hx : (ts.map V.ref)[i]? = some x := hx
        rw [List.getElem?_map] at hx
        obtain ⟨u, hu, rfl⟩ := Option.map_eq_some_iff.mp hx
        obtain ⟨ms, hms1, hm, at1⟩ := hms.at_ hu
        refine ⟨rfl, _, rfl, u, ms, rfl, g.1 _ _ at1.2.2, hm, bnd_msg hm, fun Hc sm => ⟨wr ms, rfl, text_wr hm, ?_⟩⟩
        exact hk _ _ ⟨wr ms, by rw [List.getElem?_map, hms1]; rfl, rfl⟩ ⟨g.1.trans sm, sm _ _ g.2⟩ (sm _ _ hxs)
      · rintro Hb xs hxl hxv ⟨g, gL⟩ hDl
        have e := txs_all (ts := mss.map wr) (g := frm) (by rw [hxl, List.length_map, List.length_map, lts]) hxv
        subst e
        have htx : ∀ u ∈ mss.map wr, isTextB u = true := fun u hu => by
          obtain ⟨ms, h1, rfl⟩ := List.mem_map.mp hu
          exact text_wr (hall ms h1)
        have hfl := frms_le _ htx
        rw [List.length_map, hl9] at hfl
        refine ⟨_, D, ((mss.map wr).map frm).map S, rfl, rfl, .inl (SqL.of (by rw [hDl]; unfold txs; simp [List.map_map, Function.comp_def])), ?_, ?_⟩
        · rw [len_sum, emptyS, S_len, List.length_nil, Nat.mul_zero]
          omega
        rw [emptyS, SX.join_S, joinL_nil]
        refine ⟨_, rfl, [], _, rfl, by decide +kernel, by simp, by omega, fun pr Hc hpr sm out => ?_⟩
        rw [List.nil_append, read_all htx] at out
        obtain ⟨tt, htt, hpr2⟩ := out
        have gc := g.trans sm
        have hLc := sm _ _ gL
        have hmc := hms.imp (H1 := Hc) fun u xs au => ⟨au.1, au.2.1, gc _ _ au.2.2⟩
        refine ⟨_, rfl, pr, _, _, _, rfl, rfl, SqT.of hpr2, atI_nat (j := 1) rfl, tt, rfl, ⟨_, SqT.of htt⟩, fun D2 hD2 => ?_⟩
        refine lc_allH (walk_tup (K := K) (a := tt) (xs := txs (mss.map wr))) (fun H' => Same Hc H') (fun H' i y => ∃ u ms, mss[i]? = some ms ∧ y = .ref u ∧ u ≠ D2 ∧ H' u = some (.tup (ms.map Itm.v))) (by unfold txs; rw [List.length_map, List.length_map]; omega) (Same.refl _)
          (fun H' o g b o' e => by rw [upd_ne (ne_of_none e hD2)]; exact g b o' e) (fun H' o j y ⟨u, ms, h1, h2, h3, h4⟩ => ⟨u, ms, h1, h2, h3, by rw [upd_ne h3]; exact h4⟩) (fun H' g => SqT.of (g _ _ htt)) ?_ ?_
        · rintro i x Hd Hd' xs k hi g1 hxs ⟨rfl, hx⟩ hk
          have hx : (txs (mss.map wr))[i]? = some x := hx
          unfold txs at hx
          rw [List.getElem?_map, List.getElem?_map] at hx
          obtain ⟨y1, hy1, rfl⟩ := Option.map_eq_some_iff.mp hx
          obtain ⟨ms, hms1, rfl⟩ := Option.map_eq_some_iff.mp hy1
          have hm := hall ms (List.mem_of_getElem? hms1)
          have tw := text_wr hm
          unfold isTextB at tw
          rw [Bool.and_eq_true, decide_eq_true_eq] at tw
          refine ⟨rfl, _, rfl, wr ms, rfl, asc_plain tw.2, by omega, fun ms' hr2 u He hu sm1 hm1 => ?_, fun hn => by rw [rdP_wr hm] at hn; (cases hn)⟩
          rw [rdP_wr hm] at hr2
          cases hr2
          have nu : u ≠ D2 := fun z => by rw [z, hxs] at hu; cases hu
          exact hk _ _ (fun j y ⟨u', ms', h1, h2, h3, h4⟩ => ⟨u', ms', h1, h2, h3, sm1 _ _ h4⟩) ⟨u, ms, hms1, rfl, nu, hm1⟩ (g1.trans sm1) (sm1 _ _ hxs)
        · rintro Hd xs hxl hxv g1 hD2l
          have hxl : xs.length = mss.length := by
            rw [hxl]
            unfold txs
            rw [List.length_map, List.length_map]
          have hmd := hmc.imp (H1 := Hd) fun u xs au => ⟨au.1, au.2.1, g1 _ _ au.2.2⟩
          have hsm : Sm (.list (mss.map msD)) 2 20000 := (Sm.lst hmc.sm).mono (Nat.le_refl _) (by rw [hl9]; omega)
          obtain ⟨d1, d2, d3, d4⟩ := (hsm.fit (by omega) (by omega)).shown
          refine ⟨.ref D2, .list (mss.map msD), rfl, .lst (SqL.of hD2l) (dp_refs hxl fun i y hy => ?_), d1, d2, d3, d4, ?_⟩
          · obtain ⟨u, ms, h1, h2, h3, h4⟩ := hxv i y hy
            exact ⟨u, ms, h1, h2, h4⟩
          refine ⟨_, rfl, .ref L, .list (mss.map msD), rfl, .lst (SqL.of (g1 _ _ hLc)) hmd.dp, d1, d2, d3, d4, ?_⟩
          refine ⟨rfl, _, rfl, ?_⟩
          rw [decide_eq_true rfl]
          refine iteT ?_
          refine ⟨_, rfl, pr, _, _, _, rfl, rfl, SqT.of (g1 _ _ hpr2), atI_nat (j := 2) rfl, rfl, ?_⟩
          rw [decide_eq_true rfl]
          exact q _
end
end Ag

end
/-! ## End1 -/
section
set_option linter.all false
set_option maxRecDepth 100000
namespace Ag
open PySem PySem.Spec PyProof.Rows L2
/-! ### the end of a law's row, over FnG, with a table of code objects -/
/-- the heap at the law's entry: the script and an empty table are known -/
def hScrT (K : PySem.W.Frag) (a Pt : Addr) (o : Obj) (xs : List V) : Hp := fun b => if b = Pt then some (.tbl #[]) else if b = a ∧ K.lookup a = none then some (.frz o (.lst xs)) else none
theorem hScrT_at {K : PySem.W.Frag} {a b Pt : Addr} {o : Obj} {xs : List V} {u : HO} (h : hScrT K a Pt o xs b = some u) : (b = Pt ∧ u = .tbl #[]) ∨ (b = a ∧ K.lookup a = none ∧ u = .frz o (.lst xs)) := by
  unfold hScrT at h
  split at h
  · rename_i z
    exact .inl ⟨z, (Option.some.inj h).symm⟩
  · split at h
    · rename_i z
      exact .inr ⟨z.1, z.2, (Option.some.inj h).symm⟩
    · cases h
theorem lawGT {P : Program} {w : World} {K : PySem.W.Frag} {mg mb : Str → Option Value} {k : Nat} {fa a cA Pt : Addr} {fd : FuncData} {x : Str} {sp : Sp} {s₁ : Shared} {vs : List Value} {ns : List Int}
    (KX : K.In s₁.heap) (hns : s₁.heap.Ns mainGlobals mg) (hb : s₁.heap.Ns builtinsNs mb) (hbb : ∀ x : Str, x ≠ "__name__" → mb x = bootBuiltins x) (hlim : s₁.heap.NoLimit) (gens : s₁.gens = #[])
    (hT : s₁.heap.get? Pt = some { cls := .none, data := .fields #[] }) (nT : K.lookup Pt = none) (hCd : PySem.W.codeHdIn K cA Pt = true)
    (hmod : ∃ (m : Addr) (u : Obj), mg "__builtins__" = some (.ref m) ∧ m ≠ builtinsNs ∧ s₁.heap.get? m = some u ∧ u.cls = .type "module" ∧ u.dict = some builtinsNs ∧ u.data = .plain)
    (ha : s₁.heap.get? a = some { cls := .type "list", data := .seq vs.toArray }) (hi : IntsAre vs ns) (hl : ns.length ≤ sizeLine) (hr : Room k callerA)
    (F : ∀ base : Heap, K.In base → base.Ns mainGlobals mg → LamX.TabB base mg cA Pt → FnG P w K mg base k fa fd [x] sp) (hbind : ∀ (s : Shared) (u : Value), BindsTo s fd ⟨[u], []⟩ [(x, u)])
    (hsp : ∀ H : Hp, H Pt = some (.tbl #[]) → SqL K H a (ns.map V.int) → sp [.ref a] H (fun v _ => v = .bl true) E0) :
    codeAny (model P w) callerA (.call (.ref fa) ⟨[.ref a], []⟩) (fun r s' => r = .ok (.ret (.bool true)) ∧ OldK s₁.heap s'.heap ∧ s'.os = s₁.os ∧ AllBare s'.gens) s₁ := by
  have nPa : a ≠ Pt := fun z => by rw [z, hT] at ha; cases ha
  generalize hH : hScrT K a Pt { cls := .type "list", data := .seq vs.toArray } (ns.map V.int) = H
  have at_ : ∀ {b u}, H b = some u → (b = Pt ∧ u = .tbl #[]) ∨ (b = a ∧ K.lookup a = none ∧ u = .frz { cls := .type "list", data := .seq vs.toArray } (.lst (ns.map V.int))) := fun h => hScrT_at (by rw [hH]; exact h)
  have hP : H Pt = some (.tbl #[]) := by rw [← hH]; exact if_pos rfl
  have rv : Vals (ns.map V.int) vs := vals_ints hi
  have hok : HOk P w H s₁.heap := fun b u e => by
    rcases at_ e with ⟨rfl, rfl⟩ | ⟨rfl, _, rfl⟩
    · exact hT
    · exact ⟨ha, by rw [List.length_map]; exact hl, vs, _, rv, ha⟩
  have sq : SqL K H a (ns.map V.int) := by
    cases hk : K.lookup a with
    | some o =>
      have e := KX a o hk
      rw [ha] at e
      cases e
      exact .inr ⟨_, vs.toArray, _, hk, rfl, rfl, rfl, by rw [List.size_toArray, hi.length]; exact hl, by simpa using rv⟩
    | none => exact .inl (.inr ⟨_, by rw [← hH]; exact (if_neg nPa).trans (if_pos ⟨rfl, hk⟩)⟩)
  have keepB : ∀ {b : Addr} {o : Obj}, s₁.heap.get? b = some o → H b = none → (hidT s₁.heap H).get? b = some o := fun e n => hidT_get e n
  have other : ∀ {b : Addr} {o : Obj}, s₁.heap.get? b = some o → (∀ ys n, o.data ≠ .seq ys n) → (∀ ys, o.data ≠ .fields ys) → H b = none := by
    intro b o e n1 n2
    cases q : H b with
    | none => rfl
    | some u =>
      rcases at_ q with ⟨rfl, _⟩ | ⟨rfl, _, _⟩
      · rw [hT] at e
        cases e
        exact absurd rfl (n2 _)
      · rw [ha] at e
        cases e
        exact absurd rfl (n1 _ _)
  have nsB : ∀ {b : Addr} {m : Str → Option Value}, s₁.heap.Ns b m → (hidT s₁.heap H).Ns b m := by
    rintro b m ⟨o, es, ep, e, d, r⟩
    exact ⟨o, es, ep, keepB e (other e (fun _ _ z => by rw [d] at z; cases z) fun _ z => by rw [d] at z; cases z), d, r⟩
  have kinB : K.In (hidT s₁.heap H) := by
    intro b o e
    refine keepB (KX b o e) ?_
    cases q : H b with
    | none => rfl
    | some u =>
      rcases at_ q with ⟨rfl, _⟩ | ⟨rfl, n, _⟩
      · rw [nT] at e
        cases e
      · rw [n] at e
        cases e
  have modB : Mod K mg (hidT s₁.heap H) := ⟨kinB, nsB hns, ⟨mb, nsB hb, hbb⟩, hlim.elim fun mc z => ⟨mc, nsB z.1, z.2⟩⟩
  have TB : LamX.TabB (hidT s₁.heap H) mg cA Pt := by
    obtain ⟨og, eg, pg, hog, hdg, _⟩ := hns
    refine ⟨PySem.W.codeHd_of_K kinB hCd, ?_, fun z => ?_⟩
    · obtain ⟨m, u, m1, m2, m3, m4, m5, m6⟩ := hmod
      refine ⟨m, u, m1, m2, fun z => ?_, fun z => ?_, keepB m3 (other m3 (fun _ _ z => by rw [m6] at z; cases z) fun _ z => by rw [m6] at z; cases z), m4, m5, m6⟩
      · rw [z, hog] at m3
        cases m3
        rw [hdg] at m6
        cases m6
      · rw [z, hT] at m3
        cases m3
        cases m6
    · rw [z, hT] at hog
      cases hog
      cases hdg
  have env : Env0 P w K mg (hidT s₁.heap H) callerA [] s₁ H :=
    ⟨rfl, modB, fun _ _ e => of_hidT e, Nat.le_of_eq (hidT_size s₁.heap H), trivial, (fun b z => by cases z), hok, .of_eq gens⟩
  refine codeAny_mono ((F _ kinB (nsB hns) TB).run callerA [] s₁ H ⟨[.ref a], []⟩ [.ref a] [.ref a] _ _ hr rfl env (hbind s₁ (.ref a)) (.cons rfl .nil) (hsp H hP sq)) ?_
  intro r s' h
  match r, h with
  | .error e, h => exact h.elim
  | .ok (.ret u), h =>
    obtain ⟨v, H', os, bare, un, hok', r', rfl⟩ := h
    obtain rfl : u = Value.bool true := r'
    have kept : ∀ b o, b ≠ Pt → s₁.heap.get? b = some o → s'.heap.get? b = some o := fun b o nb e => by
      cases q : H b with
      | none => exact un.keep b o e q (fun z => by cases z) (fun z => by cases z)
      | some u =>
        rcases at_ q with ⟨z, _⟩ | ⟨rfl, _, rfl⟩
        · exact absurd z nb
        · have e1 := (hok b _ q).1
          have e2 := (hok' b _ (un.frzs b _ _ q)).1
          rw [e] at e1
          rw [Option.some.inj e1]
          exact e2
    obtain ⟨more, hm⟩ : ∃ more : Array Value, s'.heap.get? Pt = some { cls := .none, data := .fields more } := by
      obtain ⟨more, z⟩ := un.tbls Pt #[] hP
      exact ⟨_, hok' Pt _ z⟩
    refine ⟨rfl, ⟨fun b o e => ?_, fun b o e => ?_⟩, os, bare⟩
    · by_cases nb : b = Pt
      · subst nb
        rw [hT] at e
        cases e
        exact .inr (.inl ⟨((PySem.W.codeHd_of_K KX hCd).tab hT).isCodeTable, rfl, #[], more, rfl, by rw [Array.empty_append]; exact hm⟩)
      · exact .inl (kept b o nb e)
    · by_cases nb : b = Pt
      · rw [nb]
        exact ⟨_, hm⟩
      · exact ⟨o, kept b o nb e⟩
/-- the def of the name x has an empty table -/
def TabOf (K : PySem.W.Frag) (mg : Str → Option Value) (x : Str) (h : Heap) : Prop := ∀ f, mg x = some (.ref f) → LamX.OwnTab K f h
theorem walkGT {l : PySem.W.OpenLaw} {n k : Nat} {q : Program} {loose : List Str} {XP : (Str → Option Value) → Heap → Prop} {YP : World → Heap → Prop} {d : DefRec} {K : Params → PySem.W.Frag} {sp : Addr → PySem.W.Frag → Sp} {x y : Str}
    (hn : l.most = some n) (hn2 : n ≤ sizeLine) (hdf : d.params.defaults = []) (hr : Room k callerA) (hrec : ((recsOf q).any fun e => e.name == y) = true) (hY : ∀ (w : World) (h : Heap), YP w h → (K w.params).In h)
    (F : ∀ (w : World) (mg : Str → Option Value) (fa : Addr) (h : Heap), (K w.params).In h → h.Ns mainGlobals mg → mg d.name = some (.ref fa) → TabOf (K w.params) mg y h →
      ∃ (fd : FuncData) (cA Pt : Addr), h.get? Pt = some { cls := .none, data := .fields #[] } ∧ (K w.params).lookup Pt = none ∧ PySem.W.codeHdIn (K w.params) cA Pt = true ∧ (∀ (s : Shared) (u : Value), BindsTo s fd ⟨[u], []⟩ [(x, u)]) ∧
        ∀ base : Heap, (K w.params).In base → base.Ns mainGlobals mg → LamX.TabB base mg cA Pt → FnG l.prog w (K w.params) mg base k fa fd [x] (sp Pt (K w.params)))
    (hsp : ∀ (Pt : Addr) (K : PySem.W.Frag) (H : Hp) (a : Addr) (ns : List Int), ns.length ≤ n → H Pt = some (.tbl #[]) → SqL K H a (ns.map V.int) → sp Pt K [.ref a] H (fun v _ => v = .bl true) E0) :
    PySem.W.WalkO q loose XP YP l.row.toRowW d [] (fun f vs => PySem.call f vs) := by
  refine Att.attach_call hn hdf ?_
  intro w s₀ s₁ mg mb fa o pm cd doc a vs ns G Y ho hd hcd hmg hobj hints hlen hg
  have KX := hY w _ Y
  have own : TabOf (K w.params) mg y s₁.heap := by
    intro f hf c1 P1 o1 fd1 e1 dd1 vs1 sl1 k1 k2 k3 k4 k5
    obtain ⟨r, hm, hn1⟩ := List.any_eq_true.mp hrec
    have hn2 : r.name = y := beq_iff_eq.mp hn1
    obtain ⟨a', o', fd', c', P', h1, h2, h3, h4, h5, h6⟩ := G.T.tab r hm
    rw [hn2, hf] at h1
    cases h1
    rw [KX _ _ k1] at h2
    cases h2
    rw [k2] at h3
    cases h3
    rw [k3] at h4
    cases h4
    obtain ⟨⟨oc, vc, z1, _, z3, z4⟩, hP⟩ := h6
    rw [KX _ _ k4] at z1
    cases z1
    cases z3
    rw [k5] at z4
    cases z4
    exact hP
  obtain ⟨fd, cA, Pt, hT, nT, hC, hb, hF⟩ := F w mg fa _ KX G.T.g hmg own
  exact lawGT KX G.T.g G.T.b G.T.builtins G.T.nolimit hg hT nT hC G.T.bmain hobj hints (Nat.le_trans hlen hn2) hr hF hb (fun H hH sq => hsp Pt _ H a ns hlen hH sq)
end Ag

end
/-! ## E2 -/
section
set_option linter.all false
set_option maxRecDepth 100000
namespace Ag
open PySem PySem.Spec PyProof.Rows L2
open SX (S S_len S_cat S_inj)
theorem kwt {K : PySem.W.Frag} {fd : FuncData} {x : Str} (h : ∀ (s : Shared) (a : Value), BindsTo s fd ⟨[], [(x, a)]⟩ [(x, a)]) : KwB K fd [x] [x] (fun u => u) (fun u => u) :=
  ⟨fun s ws hl => match ws, hl with | [a], _ => h s a, fun _ r => r⟩
/-- what a code object's fields must tell -/
def codeB (vs : Array Value) (c P : Addr) : Bool := (match (vs[11]? : Option Value) with | some (.ref P') => P' == P | _ => false) && ((match vs.getD 18 .none with | .str _ _ => true | _ => false) && ((match vs.getD 7 .none with | .int _ _ => true | _ => false) &&
  ((match vs.getD 9 .none with | .bool _ => true | _ => false) && ((match vs.getD 10 .none with | .int _ _ => true | _ => false) && c != P))))
theorem codeB_in {K : PySem.W.Frag} {c P : Addr} {d : Option Addr} {vs : Array Value} {sl : Array (Option Value)} (h : K.lookup c = some ⟨.type "code", d, .fields vs, sl⟩) (hb : codeB vs c P = true) : PySem.W.codeHdIn K c P = true := by
  unfold PySem.W.codeHdIn
  rw [h]
  unfold codeB at hb
  simp only [Bool.and_eq_true] at hb ⊢
  obtain ⟨b1, b2, b3, b4, b5, b6⟩ := hb
  exact ⟨⟨⟨⟨⟨b1, b2⟩, b3⟩, b4⟩, b5⟩, b6⟩
theorem exm_self {K : PySem.W.Frag} {C : Addr} {cd : ClassData} (h1 : PySem.W.subIn K (.ref C) (.type "BaseException") = some true) (h2 : PySem.W.clsIn K C = some cd) (h3 : PySem.W.typeIn K (.ref C) = some (.type "type")) (h4 : PySem.W.subIn K (.ref C) (.ref C) = some true) :
    PySem.W.exmOne K (.ref C) (.ref C) = some true := by
  simp [PySem.W.exmOne, PySem.W.kitCls, h1, h2, h3, h4]
theorem sqT_lit {K : PySem.W.Frag} {a n : Nat} {d : Option Addr} {its : Array Value} {sl : Array (Option Value)} {xs : List V} (h : K.lookup a = some ⟨.type "tuple", d, .seq its n, sl⟩) (hv : its.size ≤ sizeLine ∧ Vals xs its.toList) (H : Hp) : SqT K H a xs :=
  .inr ⟨_, its, n, h, rfl, rfl, hv.1, hv.2⟩
/-- a written dict's entries, text to place -/
def entS (e : DictEntry) : Option (Str × Addr) := match e.key, e.val with
  | .str x _, .ref a => some (x, a)
  | _, _ => none
theorem ent_find (z : Str) : ∀ (l : List DictEntry) (ps : List (Str × Addr)), l.map entS = ps.map some → (l.find? (·.key.isStr z)).map (·.val) = (ps.lookup z).map Value.ref ∧ l.any (·.refKey) = false
  | [], [], _ => ⟨rfl, rfl⟩
  | [], p :: ps, h => by simp at h
  | e :: l, [], h => by simp at h
  | e :: l, p :: ps, h => by
    rw [List.map_cons, List.map_cons, List.cons.injEq] at h
    obtain ⟨i1, i2⟩ := ent_find z l ps h.2
    obtain ⟨hs, k, v⟩ := e
    have h1 := h.1
    unfold entS at h1
    simp only at h1
    split at h1
    · rename_i x t a
      injection h1 with h1
      subst h1
      have hk : (DictEntry.key ⟨hs, .str x t, .ref a⟩).isStr z = (x == z) := by
        rw [PySem.W.isStr_of]
        rfl
      have hrk : DictEntry.refKey ⟨hs, .str x t, .ref a⟩ = false := rfl
      refine ⟨?_, by rw [List.any_cons, hrk, i2]; rfl⟩
      rw [List.find?_cons, hk]
      by_cases hx : x = z
      · subst hx
        simp [List.lookup]
      · have e1 : (x == z) = false := beq_eq_false_iff_ne.mpr hx
        have e2 : (z == x) = false := beq_eq_false_iff_ne.mpr fun y => hx y.symm
        rw [e1]
        simp only [List.lookup, e2]
        exact i1
    · cases h1
theorem ns_ent {K : PySem.W.Frag} {d : Addr} {es : Array DictEntry} {n : Nat} (h : K.lookup d = some ⟨.type "dict", none, .dict es n, #[]⟩) {ps : List (Str × Addr)} (he : es.toList.map entS = ps.map some) (z : Str) :
    PySem.W.nsIn K d z = some ((ps.lookup z).map Value.ref) := by
  obtain ⟨i1, i2⟩ := ent_find z _ _ he
  unfold PySem.W.nsIn
  rw [h]
  simp only
  cases hf : es.toList.find? (·.key.isStr z) with
  | none =>
    rw [hf] at i1
    simp only
    rw [i2, ← i1]
    rfl
  | some e =>
    rw [hf] at i1
    simp only
    rw [← i1]
    rfl
/-- the table of forms by its words -/
theorem look_key (wd : List Nat) (x : Str) (l : List Nat) (h : x = S l) : (S wd == x) = decide (wd = l) := by
  subst h
  rw [SX.S_beq_eq]
theorem look0 (t0 t1 t2 t3 t4 t5 t6 t7 t8 : Addr) : List.lookup (S [97, 115, 107]) ([("ask", t0), ("past", t1), ("look", t2), ("hello", t3), ("answer", t4), ("upto", t5), ("forgot", t6), ("well", t7), ("away", t8)] : List (Str × Addr)) = some t0 := by
  simp only [List.lookup, look_key _ _ [97, 115, 107] (show Str.ofString "ask" = S [97, 115, 107] from by decide +kernel), look_key _ _ [112, 97, 115, 116] (show Str.ofString "past" = S [112, 97, 115, 116] from by decide +kernel), look_key _ _ [108, 111, 111, 107] (show Str.ofString "look" = S [108, 111, 111, 107] from by decide +kernel), look_key _ _ [104, 101, 108, 108, 111] (show Str.ofString "hello" = S [104, 101, 108, 108, 111] from by decide +kernel), look_key _ _ [97, 110, 115, 119, 101, 114] (show Str.ofString "answer" = S [97, 110, 115, 119, 101, 114] from by decide +kernel), look_key _ _ [117, 112, 116, 111] (show Str.ofString "upto" = S [117, 112, 116, 111] from by decide +kernel), look_key _ _ [102, 111, 114, 103, 111, 116] (show Str.ofString "forgot" = S [102, 111, 114, 103, 111, 116] from by decide +kernel), look_key _ _ [119, 101, 108, 108] (show Str.ofString "well" = S [119, 101, 108, 108] from by decide +kernel), look_key _ _ [97, 119, 97, 121] (show Str.ofString "away" = S [97, 119, 97, 121] from by decide +kernel)]
  rfl
theorem look1 (t0 t1 t2 t3 t4 t5 t6 t7 t8 : Addr) : List.lookup (S [112, 97, 115, 116]) ([("ask", t0), ("past", t1), ("look", t2), ("hello", t3), ("answer", t4), ("upto", t5), ("forgot", t6), ("well", t7), ("away", t8)] : List (Str × Addr)) = some t1 := by
  simp only [List.lookup, look_key _ _ [97, 115, 107] (show Str.ofString "ask" = S [97, 115, 107] from by decide +kernel), look_key _ _ [112, 97, 115, 116] (show Str.ofString "past" = S [112, 97, 115, 116] from by decide +kernel), look_key _ _ [108, 111, 111, 107] (show Str.ofString "look" = S [108, 111, 111, 107] from by decide +kernel), look_key _ _ [104, 101, 108, 108, 111] (show Str.ofString "hello" = S [104, 101, 108, 108, 111] from by decide +kernel), look_key _ _ [97, 110, 115, 119, 101, 114] (show Str.ofString "answer" = S [97, 110, 115, 119, 101, 114] from by decide +kernel), look_key _ _ [117, 112, 116, 111] (show Str.ofString "upto" = S [117, 112, 116, 111] from by decide +kernel), look_key _ _ [102, 111, 114, 103, 111, 116] (show Str.ofString "forgot" = S [102, 111, 114, 103, 111, 116] from by decide +kernel), look_key _ _ [119, 101, 108, 108] (show Str.ofString "well" = S [119, 101, 108, 108] from by decide +kernel), look_key _ _ [97, 119, 97, 121] (show Str.ofString "away" = S [97, 119, 97, 121] from by decide +kernel)]
  rfl
theorem look2 (t0 t1 t2 t3 t4 t5 t6 t7 t8 : Addr) : List.lookup (S [108, 111, 111, 107]) ([("ask", t0), ("past", t1), ("look", t2), ("hello", t3), ("answer", t4), ("upto", t5), ("forgot", t6), ("well", t7), ("away", t8)] : List (Str × Addr)) = some t2 := by
  simp only [List.lookup, look_key _ _ [97, 115, 107] (show Str.ofString "ask" = S [97, 115, 107] from by decide +kernel), look_key _ _ [112, 97, 115, 116] (show Str.ofString "past" = S [112, 97, 115, 116] from by decide +kernel), look_key _ _ [108, 111, 111, 107] (show Str.ofString "look" = S [108, 111, 111, 107] from by decide +kernel), look_key _ _ [104, 101, 108, 108, 111] (show Str.ofString "hello" = S [104, 101, 108, 108, 111] from by decide +kernel), look_key _ _ [97, 110, 115, 119, 101, 114] (show Str.ofString "answer" = S [97, 110, 115, 119, 101, 114] from by decide +kernel), look_key _ _ [117, 112, 116, 111] (show Str.ofString "upto" = S [117, 112, 116, 111] from by decide +kernel), look_key _ _ [102, 111, 114, 103, 111, 116] (show Str.ofString "forgot" = S [102, 111, 114, 103, 111, 116] from by decide +kernel), look_key _ _ [119, 101, 108, 108] (show Str.ofString "well" = S [119, 101, 108, 108] from by decide +kernel), look_key _ _ [97, 119, 97, 121] (show Str.ofString "away" = S [97, 119, 97, 121] from by decide +kernel)]
  rfl
theorem look3 (t0 t1 t2 t3 t4 t5 t6 t7 t8 : Addr) : List.lookup (S [104, 101, 108, 108, 111]) ([("ask", t0), ("past", t1), ("look", t2), ("hello", t3), ("answer", t4), ("upto", t5), ("forgot", t6), ("well", t7), ("away", t8)] : List (Str × Addr)) = some t3 := by
  simp only [List.lookup, look_key _ _ [97, 115, 107] (show Str.ofString "ask" = S [97, 115, 107] from by decide +kernel), look_key _ _ [112, 97, 115, 116] (show Str.ofString "past" = S [112, 97, 115, 116] from by decide +kernel), look_key _ _ [108, 111, 111, 107] (show Str.ofString "look" = S [108, 111, 111, 107] from by decide +kernel), look_key _ _ [104, 101, 108, 108, 111] (show Str.ofString "hello" = S [104, 101, 108, 108, 111] from by decide +kernel), look_key _ _ [97, 110, 115, 119, 101, 114] (show Str.ofString "answer" = S [97, 110, 115, 119, 101, 114] from by decide +kernel), look_key _ _ [117, 112, 116, 111] (show Str.ofString "upto" = S [117, 112, 116, 111] from by decide +kernel), look_key _ _ [102, 111, 114, 103, 111, 116] (show Str.ofString "forgot" = S [102, 111, 114, 103, 111, 116] from by decide +kernel), look_key _ _ [119, 101, 108, 108] (show Str.ofString "well" = S [119, 101, 108, 108] from by decide +kernel), look_key _ _ [97, 119, 97, 121] (show Str.ofString "away" = S [97, 119, 97, 121] from by decide +kernel)]
  rfl
theorem look4 (t0 t1 t2 t3 t4 t5 t6 t7 t8 : Addr) : List.lookup (S [97, 110, 115, 119, 101, 114]) ([("ask", t0), ("past", t1), ("look", t2), ("hello", t3), ("answer", t4), ("upto", t5), ("forgot", t6), ("well", t7), ("away", t8)] : List (Str × Addr)) = some t4 := by
  simp only [List.lookup, look_key _ _ [97, 115, 107] (show Str.ofString "ask" = S [97, 115, 107] from by decide +kernel), look_key _ _ [112, 97, 115, 116] (show Str.ofString "past" = S [112, 97, 115, 116] from by decide +kernel), look_key _ _ [108, 111, 111, 107] (show Str.ofString "look" = S [108, 111, 111, 107] from by decide +kernel), look_key _ _ [104, 101, 108, 108, 111] (show Str.ofString "hello" = S [104, 101, 108, 108, 111] from by decide +kernel), look_key _ _ [97, 110, 115, 119, 101, 114] (show Str.ofString "answer" = S [97, 110, 115, 119, 101, 114] from by decide +kernel), look_key _ _ [117, 112, 116, 111] (show Str.ofString "upto" = S [117, 112, 116, 111] from by decide +kernel), look_key _ _ [102, 111, 114, 103, 111, 116] (show Str.ofString "forgot" = S [102, 111, 114, 103, 111, 116] from by decide +kernel), look_key _ _ [119, 101, 108, 108] (show Str.ofString "well" = S [119, 101, 108, 108] from by decide +kernel), look_key _ _ [97, 119, 97, 121] (show Str.ofString "away" = S [97, 119, 97, 121] from by decide +kernel)]
  rfl
theorem look5 (t0 t1 t2 t3 t4 t5 t6 t7 t8 : Addr) : List.lookup (S [117, 112, 116, 111]) ([("ask", t0), ("past", t1), ("look", t2), ("hello", t3), ("answer", t4), ("upto", t5), ("forgot", t6), ("well", t7), ("away", t8)] : List (Str × Addr)) = some t5 := by
  simp only [List.lookup, look_key _ _ [97, 115, 107] (show Str.ofString "ask" = S [97, 115, 107] from by decide +kernel), look_key _ _ [112, 97, 115, 116] (show Str.ofString "past" = S [112, 97, 115, 116] from by decide +kernel), look_key _ _ [108, 111, 111, 107] (show Str.ofString "look" = S [108, 111, 111, 107] from by decide +kernel), look_key _ _ [104, 101, 108, 108, 111] (show Str.ofString "hello" = S [104, 101, 108, 108, 111] from by decide +kernel), look_key _ _ [97, 110, 115, 119, 101, 114] (show Str.ofString "answer" = S [97, 110, 115, 119, 101, 114] from by decide +kernel), look_key _ _ [117, 112, 116, 111] (show Str.ofString "upto" = S [117, 112, 116, 111] from by decide +kernel), look_key _ _ [102, 111, 114, 103, 111, 116] (show Str.ofString "forgot" = S [102, 111, 114, 103, 111, 116] from by decide +kernel), look_key _ _ [119, 101, 108, 108] (show Str.ofString "well" = S [119, 101, 108, 108] from by decide +kernel), look_key _ _ [97, 119, 97, 121] (show Str.ofString "away" = S [97, 119, 97, 121] from by decide +kernel)]
  rfl
theorem look6 (t0 t1 t2 t3 t4 t5 t6 t7 t8 : Addr) : List.lookup (S [102, 111, 114, 103, 111, 116]) ([("ask", t0), ("past", t1), ("look", t2), ("hello", t3), ("answer", t4), ("upto", t5), ("forgot", t6), ("well", t7), ("away", t8)] : List (Str × Addr)) = some t6 := by
  simp only [List.lookup, look_key _ _ [97, 115, 107] (show Str.ofString "ask" = S [97, 115, 107] from by decide +kernel), look_key _ _ [112, 97, 115, 116] (show Str.ofString "past" = S [112, 97, 115, 116] from by decide +kernel), look_key _ _ [108, 111, 111, 107] (show Str.ofString "look" = S [108, 111, 111, 107] from by decide +kernel), look_key _ _ [104, 101, 108, 108, 111] (show Str.ofString "hello" = S [104, 101, 108, 108, 111] from by decide +kernel), look_key _ _ [97, 110, 115, 119, 101, 114] (show Str.ofString "answer" = S [97, 110, 115, 119, 101, 114] from by decide +kernel), look_key _ _ [117, 112, 116, 111] (show Str.ofString "upto" = S [117, 112, 116, 111] from by decide +kernel), look_key _ _ [102, 111, 114, 103, 111, 116] (show Str.ofString "forgot" = S [102, 111, 114, 103, 111, 116] from by decide +kernel), look_key _ _ [119, 101, 108, 108] (show Str.ofString "well" = S [119, 101, 108, 108] from by decide +kernel), look_key _ _ [97, 119, 97, 121] (show Str.ofString "away" = S [97, 119, 97, 121] from by decide +kernel)]
  rfl
theorem look7 (t0 t1 t2 t3 t4 t5 t6 t7 t8 : Addr) : List.lookup (S [119, 101, 108, 108]) ([("ask", t0), ("past", t1), ("look", t2), ("hello", t3), ("answer", t4), ("upto", t5), ("forgot", t6), ("well", t7), ("away", t8)] : List (Str × Addr)) = some t7 := by
  simp only [List.lookup, look_key _ _ [97, 115, 107] (show Str.ofString "ask" = S [97, 115, 107] from by decide +kernel), look_key _ _ [112, 97, 115, 116] (show Str.ofString "past" = S [112, 97, 115, 116] from by decide +kernel), look_key _ _ [108, 111, 111, 107] (show Str.ofString "look" = S [108, 111, 111, 107] from by decide +kernel), look_key _ _ [104, 101, 108, 108, 111] (show Str.ofString "hello" = S [104, 101, 108, 108, 111] from by decide +kernel), look_key _ _ [97, 110, 115, 119, 101, 114] (show Str.ofString "answer" = S [97, 110, 115, 119, 101, 114] from by decide +kernel), look_key _ _ [117, 112, 116, 111] (show Str.ofString "upto" = S [117, 112, 116, 111] from by decide +kernel), look_key _ _ [102, 111, 114, 103, 111, 116] (show Str.ofString "forgot" = S [102, 111, 114, 103, 111, 116] from by decide +kernel), look_key _ _ [119, 101, 108, 108] (show Str.ofString "well" = S [119, 101, 108, 108] from by decide +kernel), look_key _ _ [97, 119, 97, 121] (show Str.ofString "away" = S [97, 119, 97, 121] from by decide +kernel)]
  rfl
theorem look8 (t0 t1 t2 t3 t4 t5 t6 t7 t8 : Addr) : List.lookup (S [97, 119, 97, 121]) ([("ask", t0), ("past", t1), ("look", t2), ("hello", t3), ("answer", t4), ("upto", t5), ("forgot", t6), ("well", t7), ("away", t8)] : List (Str × Addr)) = some t8 := by
  simp only [List.lookup, look_key _ _ [97, 115, 107] (show Str.ofString "ask" = S [97, 115, 107] from by decide +kernel), look_key _ _ [112, 97, 115, 116] (show Str.ofString "past" = S [112, 97, 115, 116] from by decide +kernel), look_key _ _ [108, 111, 111, 107] (show Str.ofString "look" = S [108, 111, 111, 107] from by decide +kernel), look_key _ _ [104, 101, 108, 108, 111] (show Str.ofString "hello" = S [104, 101, 108, 108, 111] from by decide +kernel), look_key _ _ [97, 110, 115, 119, 101, 114] (show Str.ofString "answer" = S [97, 110, 115, 119, 101, 114] from by decide +kernel), look_key _ _ [117, 112, 116, 111] (show Str.ofString "upto" = S [117, 112, 116, 111] from by decide +kernel), look_key _ _ [102, 111, 114, 103, 111, 116] (show Str.ofString "forgot" = S [102, 111, 114, 103, 111, 116] from by decide +kernel), look_key _ _ [119, 101, 108, 108] (show Str.ofString "well" = S [119, 101, 108, 108] from by decide +kernel), look_key _ _ [97, 119, 97, 121] (show Str.ofString "away" = S [97, 119, 97, 121] from by decide +kernel)]
  rfl
theorem look_no {t0 t1 t2 t3 t4 t5 t6 t7 t8 : Addr} {wd : List Nat} (h : formOf wd = none) : List.lookup (S wd) ([("ask", t0), ("past", t1), ("look", t2), ("hello", t3), ("answer", t4), ("upto", t5), ("forgot", t6), ("well", t7), ("away", t8)] : List (Str × Addr)) = none := by
  have n0 : wd ≠ [97, 115, 107] := fun z => by rw [z] at h; exact absurd h (by decide)
  have n1 : wd ≠ [112, 97, 115, 116] := fun z => by rw [z] at h; exact absurd h (by decide)
  have n2 : wd ≠ [108, 111, 111, 107] := fun z => by rw [z] at h; exact absurd h (by decide)
  have n3 : wd ≠ [104, 101, 108, 108, 111] := fun z => by rw [z] at h; exact absurd h (by decide)
  have n4 : wd ≠ [97, 110, 115, 119, 101, 114] := fun z => by rw [z] at h; exact absurd h (by decide)
  have n5 : wd ≠ [117, 112, 116, 111] := fun z => by rw [z] at h; exact absurd h (by decide)
  have n6 : wd ≠ [102, 111, 114, 103, 111, 116] := fun z => by rw [z] at h; exact absurd h (by decide)
  have n7 : wd ≠ [119, 101, 108, 108] := fun z => by rw [z] at h; exact absurd h (by decide)
  have n8 : wd ≠ [97, 119, 97, 121] := fun z => by rw [z] at h; exact absurd h (by decide)
  simp only [List.lookup, look_key _ _ [97, 115, 107] (show Str.ofString "ask" = S [97, 115, 107] from by decide +kernel), look_key _ _ [112, 97, 115, 116] (show Str.ofString "past" = S [112, 97, 115, 116] from by decide +kernel), look_key _ _ [108, 111, 111, 107] (show Str.ofString "look" = S [108, 111, 111, 107] from by decide +kernel), look_key _ _ [104, 101, 108, 108, 111] (show Str.ofString "hello" = S [104, 101, 108, 108, 111] from by decide +kernel), look_key _ _ [97, 110, 115, 119, 101, 114] (show Str.ofString "answer" = S [97, 110, 115, 119, 101, 114] from by decide +kernel), look_key _ _ [117, 112, 116, 111] (show Str.ofString "upto" = S [117, 112, 116, 111] from by decide +kernel), look_key _ _ [102, 111, 114, 103, 111, 116] (show Str.ofString "forgot" = S [102, 111, 114, 103, 111, 116] from by decide +kernel), look_key _ _ [119, 101, 108, 108] (show Str.ofString "well" = S [119, 101, 108, 108] from by decide +kernel), look_key _ _ [97, 119, 97, 121] (show Str.ofString "away" = S [97, 119, 97, 121] from by decide +kernel), decide_eq_false n0, decide_eq_false n1, decide_eq_false n2, decide_eq_false n3, decide_eq_false n4, decide_eq_false n5, decide_eq_false n6, decide_eq_false n7, decide_eq_false n8]
set_option maxHeartbeats 4000000 in
theorem all_mk {l : PySem.W.OpenLaw} {w : World} {K : PySem.W.Frag} {h : Heap} {mg : Str → Option Value} {fa f0 f1 f2 f3 f4 f5 f6 f7 f8 f9 f10 f11 f12 f13 f14 f15 f16 f17 f18 f19 f20 f21 f22 f23 f24 f25 f26 f27 f28 f29 f30 f31 f32 f33 f34 f35 f36 : Addr} (X : K.In h) (G : h.Ns mainGlobals mg) (hfa : mg "law" = some (.ref fa)) (own : TabOf K mg "_law_is_read" h)
    {od0 an0 od1 an1 od2 an2 od3 an3 od4 an4 od5 an5 od6 an6 od7 an7 od8 an8 od9 an9 od10 an10 od11 an11 od12 an12 od13 an13 od14 an14 od15 an15 od16 an16 od17 an17 od18 an18 od19 an19 od20 an20 od21 an21 od22 an22 od23 an23 od24 an24 od25 an25 od26 an26 od27 an27 od28 an28 od29 an29 od30 an30 od31 an31 od32 an32 od33 an33 od34 an34 od35 an35 od36 an36 odT dB : Option Addr} {sl0 sl1 sl2 sl3 sl4 sl5 sl6 sl7 sl8 sl9 sl10 sl11 sl12 sl13 sl14 sl15 sl16 sl17 sl18 sl19 sl20 sl21 sl22 sl23 sl24 sl25 sl26 sl27 sl28 sl29 sl30 sl31 sl32 sl33 sl34 sl35 sl36 slT slA : Array (Option Value)} {oc0 kV0 dc0 pm0 ct0 cd0 oc1 kV1 dc1 pm1 ct1 cd1 oc2 kV2 dc2 pm2 ct2 cd2 oc3 kV3 dc3 pm3 ct3 cd3 oc4 kV4 dc4 pm4 ct4 cd4 oc5 kV5 dc5 pm5 ct5 cd5 oc6 kV6 dc6 pm6 ct6 cd6 oc7 kV7 dc7 pm7 ct7 cd7 oc8 kV8 dc8 pm8 ct8 cd8 oc9 kV9 dc9 pm9 ct9 cd9 oc10 kV10 dc10 pm10 ct10 cd10 oc11 kV11 dc11 pm11 ct11 cd11 oc12 kV12 dc12 pm12 ct12 cd12 oc13 kV13 dc13 pm13 ct13 cd13 oc14 kV14 dc14 pm14 ct14 cd14 oc15 kV15 dc15 pm15 ct15 cd15 oc16 kV16 dc16 pm16 ct16 cd16 oc17 kV17 dc17 pm17 ct17 cd17 oc18 kV18 dc18 pm18 ct18 cd18 oc19 kV19 dc19 pm19 ct19 cd19 oc20 kV20 dc20 pm20 ct20 cd20 oc21 kV21 dc21 pm21 ct21 cd21 oc22 kV22 dc22 pm22 ct22 cd22 oc23 kV23 dc23 pm23 ct23 cd23 oc24 kV24 dc24 pm24 ct24 cd24 oc25 kV25 dc25 pm25 ct25 cd25 oc26 kV26 dc26 pm26 ct26 cd26 oc27 kV27 dc27 pm27 ct27 cd27 oc28 kV28 dc28 pm28 ct28 cd28 oc29 kV29 dc29 pm29 ct29 cd29 oc30 kV30 dc30 pm30 ct30 cd30 oc31 kV31 dc31 pm31 ct31 cd31 oc32 kV32 dc32 pm32 ct32 cd32 oc33 kV33 dc33 pm33 ct33 cd33 oc34 kV34 dc34 pm34 ct34 oc35 kV35 dc35 pm35 ct35 cd35 oc36 kV36 dc36 pm36 ct36 cd36 : Value} {tm tn tb : Tok} {itT vsA : Array Value} {Tw Fm cA Pt C fI : Addr} {nT nF : Nat} {es : Array DictEntry}
    (a0 : PySem.W.nsIn K mainGlobals "is_integer" = some (some (.ref f0))) (l0 : K.lookup f0 = some ⟨oc0, od0, .func (PySem.W.fnOf "is_integer" "is_integer" (defArgs s_is_integer) (defBody s_is_integer) (defScope s_is_integer) .none kV0 dc0 pm0 an0 cd0 ct0), sl0⟩) (c0 : PySem.W.codeIn K cd0 "is_integer" = true) (k0 : PySem.W.keepIn K (.ref f0) = true)
    (a1 : PySem.W.nsIn K mainGlobals "is_between" = some (some (.ref f1))) (l1 : K.lookup f1 = some ⟨oc1, od1, .func (PySem.W.fnOf "is_between" "is_between" (defArgs s_is_between) (defBody s_is_between) (defScope s_is_between) .none kV1 dc1 pm1 an1 cd1 ct1), sl1⟩) (c1 : PySem.W.codeIn K cd1 "is_between" = true) (k1 : PySem.W.keepIn K (.ref f1) = true)
    (a2 : PySem.W.nsIn K mainGlobals "is_number" = some (some (.ref f2))) (l2 : K.lookup f2 = some ⟨oc2, od2, .func (PySem.W.fnOf "is_number" "is_number" (defArgs s_is_number) (defBody s_is_number) (defScope s_is_number) .none kV2 dc2 pm2 an2 cd2 ct2), sl2⟩) (c2 : PySem.W.codeIn K cd2 "is_number" = true) (k2 : PySem.W.keepIn K (.ref f2) = true)
    (a3 : PySem.W.nsIn K mainGlobals "is_plain" = some (some (.ref f3))) (l3 : K.lookup f3 = some ⟨oc3, od3, .func (PySem.W.fnOf "is_plain" "is_plain" (defArgs s_is_plain) (defBody s_is_plain) (defScope s_is_plain) .none kV3 dc3 pm3 an3 cd3 ct3), sl3⟩) (c3 : PySem.W.codeIn K cd3 "is_plain" = true) (k3 : PySem.W.keepIn K (.ref f3) = true)
    (a4 : PySem.W.nsIn K mainGlobals "is_decimal" = some (some (.ref f4))) (l4 : K.lookup f4 = some ⟨oc4, od4, .func (PySem.W.fnOf "is_decimal" "is_decimal" (defArgs s_is_decimal) (defBody s_is_decimal) (defScope s_is_decimal) .none kV4 dc4 pm4 an4 cd4 ct4), sl4⟩) (c4 : PySem.W.codeIn K cd4 "is_decimal" = true) (k4 : PySem.W.keepIn K (.ref f4) = true)
    (a5 : PySem.W.nsIn K mainGlobals "is_body" = some (some (.ref f5))) (l5 : K.lookup f5 = some ⟨oc5, od5, .func (PySem.W.fnOf "is_body" "is_body" (defArgs s_is_body) (defBody s_is_body) (defScope s_is_body) .none kV5 dc5 pm5 an5 cd5 ct5), sl5⟩) (c5 : PySem.W.codeIn K cd5 "is_body" = true) (k5 : PySem.W.keepIn K (.ref f5) = true)
    (a6 : PySem.W.nsIn K mainGlobals "is_item" = some (some (.ref f6))) (l6 : K.lookup f6 = some ⟨oc6, od6, .func (PySem.W.fnOf "is_item" "is_item" (defArgs s_is_item) (defBody s_is_item) (defScope s_is_item) .none kV6 dc6 pm6 an6 cd6 ct6), sl6⟩) (c6 : PySem.W.codeIn K cd6 "is_item" = true) (k6 : PySem.W.keepIn K (.ref f6) = true)
    (a7 : PySem.W.nsIn K mainGlobals "is_message" = some (some (.ref f7))) (l7 : K.lookup f7 = some ⟨oc7, od7, .func (PySem.W.fnOf "is_message" "is_message" (defArgs s_is_message) (defBody s_is_message) (defScope s_is_message) .none kV7 dc7 pm7 an7 cd7 ct7), sl7⟩) (c7 : PySem.W.codeIn K cd7 "is_message" = true) (k7 : PySem.W.keepIn K (.ref f7) = true)
    (a8 : PySem.W.nsIn K mainGlobals "side" = some (some (.ref f8))) (l8 : K.lookup f8 = some ⟨oc8, od8, .func (PySem.W.fnOf "side" "side" (defArgs s_side) (defBody s_side) (defScope s_side) .none kV8 dc8 pm8 an8 cd8 ct8), sl8⟩) (c8 : PySem.W.codeIn K cd8 "side" = true) (k8 : PySem.W.keepIn K (.ref f8) = true)
    (a9 : PySem.W.nsIn K mainGlobals "message_text" = some (some (.ref f9))) (l9 : K.lookup f9 = some ⟨oc9, od9, .func (PySem.W.fnOf "message_text" "message_text" (defArgs s_message_text) (defBody s_message_text) (defScope s_message_text) .none kV9 dc9 pm9 an9 cd9 ct9), sl9⟩) (c9 : PySem.W.codeIn K cd9 "message_text" = true) (k9 : PySem.W.keepIn K (.ref f9) = true)
    (a10 : PySem.W.nsIn K mainGlobals "read_message" = some (some (.ref f10))) (l10 : K.lookup f10 = some ⟨oc10, od10, .func (PySem.W.fnOf "read_message" "read_message" (defArgs s_read_message) (defBody s_read_message) (defScope s_read_message) .none kV10 dc10 pm10 an10 cd10 ct10), sl10⟩) (c10 : PySem.W.codeIn K cd10 "read_message" = true) (k10 : PySem.W.keepIn K (.ref f10) = true)
    (a11 : PySem.W.nsIn K mainGlobals "read_item" = some (some (.ref f11))) (l11 : K.lookup f11 = some ⟨oc11, od11, .func (PySem.W.fnOf "read_item" "read_item" (defArgs s_read_item) (defBody s_read_item) (defScope s_read_item) .none kV11 dc11 pm11 an11 cd11 ct11), sl11⟩) (c11 : PySem.W.codeIn K cd11 "read_item" = true) (k11 : PySem.W.keepIn K (.ref f11) = true)
    (a12 : PySem.W.nsIn K mainGlobals "is_text" = some (some (.ref f12))) (l12 : K.lookup f12 = some ⟨oc12, od12, .func (PySem.W.fnOf "is_text" "is_text" (defArgs s_is_text) (defBody s_is_text) (defScope s_is_text) .none kV12 dc12 pm12 an12 cd12 ct12), sl12⟩) (c12 : PySem.W.codeIn K cd12 "is_text" = true) (k12 : PySem.W.keepIn K (.ref f12) = true)
    (a13 : PySem.W.nsIn K mainGlobals "is_rest" = some (some (.ref f13))) (l13 : K.lookup f13 = some ⟨oc13, od13, .func (PySem.W.fnOf "is_rest" "is_rest" (defArgs s_is_rest) (defBody s_is_rest) (defScope s_is_rest) .none kV13 dc13 pm13 an13 cd13 ct13), sl13⟩) (c13 : PySem.W.codeIn K cd13 "is_rest" = true) (k13 : PySem.W.keepIn K (.ref f13) = true)
    (a14 : PySem.W.nsIn K mainGlobals "digits_end" = some (some (.ref f14))) (l14 : K.lookup f14 = some ⟨oc14, od14, .func (PySem.W.fnOf "digits_end" "digits_end" (defArgs s_digits_end) (defBody s_digits_end) (defScope s_digits_end) .none kV14 dc14 pm14 an14 cd14 ct14), sl14⟩) (c14 : PySem.W.codeIn K cd14 "digits_end" = true) (k14 : PySem.W.keepIn K (.ref f14) = true)
    (a15 : PySem.W.nsIn K mainGlobals "plain_end" = some (some (.ref f15))) (l15 : K.lookup f15 = some ⟨oc15, od15, .func (PySem.W.fnOf "plain_end" "plain_end" (defArgs s_plain_end) (defBody s_plain_end) (defScope s_plain_end) .none kV15 dc15 pm15 an15 cd15 ct15), sl15⟩) (c15 : PySem.W.codeIn K cd15 "plain_end" = true) (k15 : PySem.W.keepIn K (.ref f15) = true)
    (a16 : PySem.W.nsIn K mainGlobals "next_frame" = some (some (.ref f16))) (l16 : K.lookup f16 = some ⟨oc16, od16, .func (PySem.W.fnOf "next_frame" "next_frame" (defArgs s_next_frame) (defBody s_next_frame) (defScope s_next_frame) .none kV16 dc16 pm16 an16 cd16 ct16), sl16⟩) (c16 : PySem.W.codeIn K cd16 "next_frame" = true) (k16 : PySem.W.keepIn K (.ref f16) = true)
    (a17 : PySem.W.nsIn K mainGlobals "frame" = some (some (.ref f17))) (l17 : K.lookup f17 = some ⟨oc17, od17, .func (PySem.W.fnOf "frame" "frame" (defArgs s_frame) (defBody s_frame) (defScope s_frame) .none kV17 dc17 pm17 an17 cd17 ct17), sl17⟩) (c17 : PySem.W.codeIn K cd17 "frame" = true) (k17 : PySem.W.keepIn K (.ref f17) = true)
    (a18 : PySem.W.nsIn K mainGlobals "read" = some (some (.ref f18))) (l18 : K.lookup f18 = some ⟨oc18, od18, .func (PySem.W.fnOf "read" "read" (defArgs s_read) (defBody s_read) (defScope s_read) .none kV18 dc18 pm18 an18 cd18 ct18), sl18⟩) (c18 : PySem.W.codeIn K cd18 "read" = true) (k18 : PySem.W.keepIn K (.ref f18) = true)
    (a19 : PySem.W.nsIn K mainGlobals "_law_deck" = some (some (.ref f19))) (l19 : K.lookup f19 = some ⟨oc19, od19, .func (PySem.W.fnOf "_law_deck" "_law_deck" (defArgs s__law_deck) (defBody s__law_deck) (defScope s__law_deck) .none kV19 dc19 pm19 an19 cd19 ct19), sl19⟩) (c19 : PySem.W.codeIn K cd19 "_law_deck" = true) (k19 : PySem.W.keepIn K (.ref f19) = true)
    (a20 : PySem.W.nsIn K mainGlobals "_law_draw" = some (some (.ref f20))) (l20 : K.lookup f20 = some ⟨oc20, od20, .func (PySem.W.fnOf "_law_draw" "_law_draw" (defArgs s__law_draw) (defBody s__law_draw) (defScope s__law_draw) .none kV20 dc20 pm20 an20 cd20 ct20), sl20⟩) (c20 : PySem.W.codeIn K cd20 "_law_draw" = true) (k20 : PySem.W.keepIn K (.ref f20) = true)
    (a21 : PySem.W.nsIn K mainGlobals "_law_pick" = some (some (.ref f21))) (l21 : K.lookup f21 = some ⟨oc21, od21, .func (PySem.W.fnOf "_law_pick" "_law_pick" (defArgs s__law_pick) (defBody s__law_pick) (defScope s__law_pick) .none kV21 dc21 pm21 an21 cd21 ct21), sl21⟩) (c21 : PySem.W.codeIn K cd21 "_law_pick" = true) (k21 : PySem.W.keepIn K (.ref f21) = true)
    (a22 : PySem.W.nsIn K mainGlobals "_law_signs" = some (some (.ref f22))) (l22 : K.lookup f22 = some ⟨oc22, od22, .func (PySem.W.fnOf "_law_signs" "_law_signs" (defArgs s__law_signs) (defBody s__law_signs) (defScope s__law_signs) .none kV22 dc22 pm22 an22 cd22 ct22), sl22⟩) (c22 : PySem.W.codeIn K cd22 "_law_signs" = true) (k22 : PySem.W.keepIn K (.ref f22) = true)
    (a23 : PySem.W.nsIn K mainGlobals "_law_text" = some (some (.ref f23))) (l23 : K.lookup f23 = some ⟨oc23, od23, .func (PySem.W.fnOf "_law_text" "_law_text" (defArgs s__law_text) (defBody s__law_text) (defScope s__law_text) .none kV23 dc23 pm23 an23 cd23 ct23), sl23⟩) (c23 : PySem.W.codeIn K cd23 "_law_text" = true) (k23 : PySem.W.keepIn K (.ref f23) = true)
    (a24 : PySem.W.nsIn K mainGlobals "_law_is_body" = some (some (.ref f24))) (l24 : K.lookup f24 = some ⟨oc24, od24, .func (PySem.W.fnOf "_law_is_body" "_law_is_body" (defArgs s__law_is_body) (defBody s__law_is_body) (defScope s__law_is_body) .none kV24 dc24 pm24 an24 cd24 ct24), sl24⟩) (c24 : PySem.W.codeIn K cd24 "_law_is_body" = true) (k24 : PySem.W.keepIn K (.ref f24) = true)
    (a25 : PySem.W.nsIn K mainGlobals "_law_parts" = some (some (.ref f25))) (l25 : K.lookup f25 = some ⟨oc25, od25, .func (PySem.W.fnOf "_law_parts" "_law_parts" (defArgs s__law_parts) (defBody s__law_parts) (defScope s__law_parts) .none kV25 dc25 pm25 an25 cd25 ct25), sl25⟩) (c25 : PySem.W.codeIn K cd25 "_law_parts" = true) (k25 : PySem.W.keepIn K (.ref f25) = true)
    (a26 : PySem.W.nsIn K mainGlobals "_law_body" = some (some (.ref f26))) (l26 : K.lookup f26 = some ⟨oc26, od26, .func (PySem.W.fnOf "_law_body" "_law_body" (defArgs s__law_body) (defBody s__law_body) (defScope s__law_body) .none kV26 dc26 pm26 an26 cd26 ct26), sl26⟩) (c26 : PySem.W.codeIn K cd26 "_law_body" = true) (k26 : PySem.W.keepIn K (.ref f26) = true)
    (a27 : PySem.W.nsIn K mainGlobals "_law_number" = some (some (.ref f27))) (l27 : K.lookup f27 = some ⟨oc27, od27, .func (PySem.W.fnOf "_law_number" "_law_number" (defArgs s__law_number) (defBody s__law_number) (defScope s__law_number) .none kV27 dc27 pm27 an27 cd27 ct27), sl27⟩) (c27 : PySem.W.codeIn K cd27 "_law_number" = true) (k27 : PySem.W.keepIn K (.ref f27) = true)
    (a28 : PySem.W.nsIn K mainGlobals "_law_message" = some (some (.ref f28))) (l28 : K.lookup f28 = some ⟨oc28, od28, .func (PySem.W.fnOf "_law_message" "_law_message" (defArgs s__law_message) (defBody s__law_message) (defScope s__law_message) .none kV28 dc28 pm28 an28 cd28 ct28), sl28⟩) (c28 : PySem.W.codeIn K cd28 "_law_message" = true) (k28 : PySem.W.keepIn K (.ref f28) = true)
    (a29 : PySem.W.nsIn K mainGlobals "_law_written" = some (some (.ref f29))) (l29 : K.lookup f29 = some ⟨oc29, od29, .func (PySem.W.fnOf "_law_written" "_law_written" (defArgs s__law_written) (defBody s__law_written) (defScope s__law_written) .none kV29 dc29 pm29 an29 cd29 ct29), sl29⟩) (c29 : PySem.W.codeIn K cd29 "_law_written" = true) (k29 : PySem.W.keepIn K (.ref f29) = true)
    (a30 : PySem.W.nsIn K mainGlobals "_law_figure" = some (some (.ref f30))) (l30 : K.lookup f30 = some ⟨oc30, od30, .func (PySem.W.fnOf "_law_figure" "_law_figure" (defArgs s__law_figure) (defBody s__law_figure) (defScope s__law_figure) .none kV30 dc30 pm30 an30 cd30 ct30), sl30⟩) (c30 : PySem.W.codeIn K cd30 "_law_figure" = true) (k30 : PySem.W.keepIn K (.ref f30) = true)
    (a31 : PySem.W.nsIn K mainGlobals "_law_told" = some (some (.ref f31))) (l31 : K.lookup f31 = some ⟨oc31, od31, .func (PySem.W.fnOf "_law_told" "_law_told" (defArgs s__law_told) (defBody s__law_told) (defScope s__law_told) .none kV31 dc31 pm31 an31 cd31 ct31), sl31⟩) (c31 : PySem.W.codeIn K cd31 "_law_told" = true) (k31 : PySem.W.keepIn K (.ref f31) = true)
    (a32 : PySem.W.nsIn K mainGlobals "_law_spoiled" = some (some (.ref f32))) (l32 : K.lookup f32 = some ⟨oc32, od32, .func (PySem.W.fnOf "_law_spoiled" "_law_spoiled" (defArgs s__law_spoiled) (defBody s__law_spoiled) (defScope s__law_spoiled) .none kV32 dc32 pm32 an32 cd32 ct32), sl32⟩) (c32 : PySem.W.codeIn K cd32 "_law_spoiled" = true) (k32 : PySem.W.keepIn K (.ref f32) = true)
    (a33 : PySem.W.nsIn K mainGlobals "_law_got" = some (some (.ref f33))) (l33 : K.lookup f33 = some ⟨oc33, od33, .func (PySem.W.fnOf "_law_got" "_law_got" (defArgs s__law_got) (defBody s__law_got) (defScope s__law_got) .none kV33 dc33 pm33 an33 cd33 ct33), sl33⟩) (c33 : PySem.W.codeIn K cd33 "_law_got" = true) (k33 : PySem.W.keepIn K (.ref f33) = true)
    (a34 : PySem.W.nsIn K mainGlobals "_law_is_read" = some (some (.ref f34))) (l34 : K.lookup f34 = some ⟨oc34, od34, .func (PySem.W.fnOf "_law_is_read" "_law_is_read" (defArgs s__law_is_read) (defBody s__law_is_read) (defScope s__law_is_read) .none kV34 dc34 pm34 an34 (.ref cA) ct34), sl34⟩) (c34 : PySem.W.codeIn K (.ref cA) "_law_is_read" = true) (k34 : PySem.W.keepIn K (.ref f34) = true)
    (a35 : PySem.W.nsIn K mainGlobals "_law_near" = some (some (.ref f35))) (l35 : K.lookup f35 = some ⟨oc35, od35, .func (PySem.W.fnOf "_law_near" "_law_near" (defArgs s__law_near) (defBody s__law_near) (defScope s__law_near) .none kV35 dc35 pm35 an35 cd35 ct35), sl35⟩) (c35 : PySem.W.codeIn K cd35 "_law_near" = true) (k35 : PySem.W.keepIn K (.ref f35) = true)
    (a36 : PySem.W.nsIn K mainGlobals "law" = some (some (.ref f36))) (l36 : K.lookup f36 = some ⟨oc36, od36, .func (PySem.W.fnOf "law" "law" (defArgs s_law) (defBody s_law) (defScope s_law) .none kV36 dc36 pm36 an36 cd36 ct36), sl36⟩) (c36 : PySem.W.codeIn K cd36 "law" = true) (k36 : PySem.W.keepIn K (.ref f36) = true)
    (z0 : PySem.W.nsIn K mainGlobals "len" = some none)
    (z1 : PySem.W.nsIn K mainGlobals "str" = some none)
    (z2 : PySem.W.nsIn K mainGlobals "int" = some none)
    (z3 : PySem.W.nsIn K mainGlobals "isinstance" = some none)
    (z4 : PySem.W.nsIn K mainGlobals "range" = some none)
    (z5 : PySem.W.nsIn K mainGlobals "enumerate" = some none)
    (z6 : PySem.W.nsIn K mainGlobals "tuple" = some none)
    (z7 : PySem.W.nsIn K mainGlobals "list" = some none)
    (z8 : PySem.W.nsIn K mainGlobals "max" = some none)
    (z9 : PySem.W.nsIn K mainGlobals "min" = some none)
    (z10 : PySem.W.nsIn K mainGlobals "sorted" = some none)
    (z11 : PySem.W.nsIn K mainGlobals "repr" = some none)
    (z12 : PySem.W.nsIn K mainGlobals "bool" = some none)
    (z13 : PySem.W.nsIn K mainGlobals "all" = some none)
    (z14 : PySem.W.nsIn K mainGlobals "zip" = some none)
    (tx : PySem.W.nsIn K mainGlobals "TEXT_MOST" = some (some (.int 200 tm))) (ty : PySem.W.nsIn K mainGlobals "NUMBER_MOST" = some (some (.int 1000000000 tn))) (tz : PySem.W.nsIn K mainGlobals "BODY_MOST" = some (some (.int 150 tb)))
    (w0 : PySem.W.nsIn K mainGlobals "TOWARD" = some (some (.ref Tw))) (w1 : K.lookup Tw = some ⟨.type "tuple", odT, .seq itT nT, slT⟩) (w2 : itT.size ≤ sizeLine ∧ Vals [.str "ask", .str "past", .str "look"] itT.toList)
    (g0 : PySem.W.nsIn K mainGlobals "FORMS" = some (some (.ref Fm))) (g1 : K.lookup Fm = some ⟨.type "dict", none, .dict es nF, #[]⟩) (g2 : PySem.W.KeysLit w.params es.toList) (g3 : (Fm == sysModules) = false)
    {t0 t1 t2 t3 t4 t5 t6 t7 t8 : Addr} {do0 do1 do2 do3 do4 do5 do6 do7 do8 : Option Addr} {is0 is1 is2 is3 is4 is5 is6 is7 is8 : Array Value} {nn0 nn1 nn2 nn3 nn4 nn5 nn6 nn7 nn8 : Nat} {sm0 sm1 sm2 sm3 sm4 sm5 sm6 sm7 sm8 : Array (Option Value)}
    (g4 : es.toList.map entS = [some (Str.ofString "ask", t0), some (Str.ofString "past", t1), some (Str.ofString "look", t2), some (Str.ofString "hello", t3), some (Str.ofString "answer", t4), some (Str.ofString "upto", t5), some (Str.ofString "forgot", t6), some (Str.ofString "well", t7), some (Str.ofString "away", t8)])
    (h0 : K.lookup t0 = some ⟨.type "tuple", do0, .seq is0 nn0, sm0⟩) (v0 : is0.size ≤ sizeLine ∧ Vals [.str "count", .str "body"] is0.toList)
    (h1 : K.lookup t1 = some ⟨.type "tuple", do1, .seq is1 nn1, sm1⟩) (v1 : is1.size ≤ sizeLine ∧ Vals [.str "number", .str "number"] is1.toList)
    (h2 : K.lookup t2 = some ⟨.type "tuple", do2, .seq is2 nn2, sm2⟩) (v2 : is2.size ≤ sizeLine ∧ Vals [] is2.toList)
    (h3 : K.lookup t3 = some ⟨.type "tuple", do3, .seq is3 nn3, sm3⟩) (v3 : is3.size ≤ sizeLine ∧ Vals [.str "number"] is3.toList)
    (h4 : K.lookup t4 = some ⟨.type "tuple", do4, .seq is4 nn4, sm4⟩) (v4 : is4.size ≤ sizeLine ∧ Vals [.str "count", .str "body"] is4.toList)
    (h5 : K.lookup t5 = some ⟨.type "tuple", do5, .seq is5 nn5, sm5⟩) (v5 : is5.size ≤ sizeLine ∧ Vals [.str "number", .str "number"] is5.toList)
    (h6 : K.lookup t6 = some ⟨.type "tuple", do6, .seq is6 nn6, sm6⟩) (v6 : is6.size ≤ sizeLine ∧ Vals [.str "number"] is6.toList)
    (h7 : K.lookup t7 = some ⟨.type "tuple", do7, .seq is7 nn7, sm7⟩) (v7 : is7.size ≤ sizeLine ∧ Vals [] is7.toList)
    (h8 : K.lookup t8 = some ⟨.type "tuple", do8, .seq is8 nn8, sm8⟩) (v8 : is8.size ≤ sizeLine ∧ Vals [.str "number"] is8.toList)
    {nm qn : Str} {Nn : Addr} {bs bm : List Value} {sn : List Str} {sub : List Value} {ab : Bool} {col : Option Bool} {dd : Option Addr} {q0 q1 q2 q3 q5 : Option Value} {cdC : ClassData} {ocI kVI dcI pmI cdI ctI : Value} {odI anI : Option Addr} {slI : Array (Option Value)}
    (e0 : PySem.W.nsIn K mainGlobals "BadText" = some (some (.ref C))) (e1 : K.lookup C = some (excClassObj nm qn C Nn bs bm true sn sub ab col dd q0 q1 q2 q3 q5 "Exception.__new__")) (e2 : PySem.W.excTail exT bm = true) (e3 : PySem.W.findIn K (.ref C) "__setattr__" = some (some (.builtin "object.__setattr__")))
    (e4 : PySem.W.subIn K (.ref C) (.type "BaseException") = some true) (e5 : PySem.W.typeIn K (.ref C) = some (.type "type")) (e6 : PySem.W.keepIn K (.ref C) = true) (e7 : PySem.W.findIn K (.ref C) "__getattribute__" = some (some (.builtin "BaseException.__getattribute__"))) (e8 : PySem.W.findIn K (.ref C) "__getattr__" = some none)
    (e9 : PySem.W.hasDictIn K C = true) (e10 : PySem.W.findIn K (.ref C) "thing" = some none) (e11 : PySem.W.findIn K (.ref C) "__init__" = some (some (.ref fI))) (e12 : PySem.W.typeIn K (.ref fI) = some (.type "function")) (e13 : PySem.W.clsIn K C = some cdC) (e14 : PySem.W.subIn K (.ref C) (.ref C) = some true)
    (e15 : K.lookup fI = some ⟨ocI, odI, .func (PySem.W.fnOf "__init__" "BadText.__init__" (defArgs s_BT) (defBody s_BT) (defScope s_BT) .none kVI dcI pmI anI cdI ctI), slI⟩) (e16 : PySem.W.codeIn K cdI "BadText.__init__" = true) (e17 : PySem.W.keepIn K (.ref fI) = true)
    (m0 : K.lookup cA = some ⟨.type "code", dB, .fields vsA, slA⟩) (m1 : (vsA[11]? : Option Value) = some (.ref Pt)) (m2 : codeB vsA cA Pt = true) (m3 : K.lookup Pt = none) :
    ∃ (fd : FuncData) (cA Pt : Addr), h.get? Pt = some { cls := .none, data := .fields #[] } ∧ K.lookup Pt = none ∧ PySem.W.codeHdIn K cA Pt = true ∧ (∀ (s : Shared) (v : Value), BindsTo s fd ⟨[v], []⟩ [("_law_script", v)]) ∧
      ∀ base : Heap, K.In base → base.Ns mainGlobals mg → LamX.TabB base mg cA Pt → FnG l.prog w K mg base 10 fa fd ["_law_script"] (spLaw Pt K) := by
  have e := hfa.symm.trans (PySem.W.mg_of X G a36)
  cases e
  have B : Blt mg := ⟨PySem.W.mg_none_of X G z0, PySem.W.mg_none_of X G z1, PySem.W.mg_none_of X G z2, PySem.W.mg_none_of X G z3, PySem.W.mg_none_of X G z4, PySem.W.mg_none_of X G z5, PySem.W.mg_none_of X G z6, PySem.W.mg_none_of X G z7, PySem.W.mg_none_of X G z8, PySem.W.mg_none_of X G z9, PySem.W.mg_none_of X G z10, PySem.W.mg_none_of X G z11, PySem.W.mg_none_of X G z12, PySem.W.mg_none_of X G z13, PySem.W.mg_none_of X G z14⟩
  have Cn : Con mg tm tn tb := ⟨B, PySem.W.mg_of X G ty, PySem.W.mg_of X G tz, PySem.W.mg_of X G tx⟩
  have U0 := fun_mk (st := s_is_integer) l0 c0 k0
  have b0 := U0.binds (ps := ["thing"]) fun _ _ _ _ _ _ us hl => match us, hl with | [_], _ => rfl
  have F0 : Fn K mg "is_integer" s_is_integer ["thing"] _ _ := ⟨U0, b0, PySem.W.mg_of X G a0⟩
  have U1 := fun_mk (st := s_is_between) l1 c1 k1
  have b1 := U1.binds (ps := ["thing", "least", "most"]) fun _ _ _ _ _ _ us hl => match us, hl with | [_, _, _], _ => rfl
  have F1 : Fn K mg "is_between" s_is_between ["thing", "least", "most"] _ _ := ⟨U1, b1, PySem.W.mg_of X G a1⟩
  have U2 := fun_mk (st := s_is_number) l2 c2 k2
  have b2 := U2.binds (ps := ["thing"]) fun _ _ _ _ _ _ us hl => match us, hl with | [_], _ => rfl
  have F2 : Fn K mg "is_number" s_is_number ["thing"] _ _ := ⟨U2, b2, PySem.W.mg_of X G a2⟩
  have U3 := fun_mk (st := s_is_plain) l3 c3 k3
  have b3 := U3.binds (ps := ["string"]) fun _ _ _ _ _ _ us hl => match us, hl with | [_], _ => rfl
  have F3 : Fn K mg "is_plain" s_is_plain ["string"] _ _ := ⟨U3, b3, PySem.W.mg_of X G a3⟩
  have U4 := fun_mk (st := s_is_decimal) l4 c4 k4
  have b4 := U4.binds (ps := ["string", "most"]) fun _ _ _ _ _ _ us hl => match us, hl with | [_, _], _ => rfl
  have F4 : Fn K mg "is_decimal" s_is_decimal ["string", "most"] _ _ := ⟨U4, b4, PySem.W.mg_of X G a4⟩
  have U5 := fun_mk (st := s_is_body) l5 c5 k5
  have b5 := U5.binds (ps := ["thing"]) fun _ _ _ _ _ _ us hl => match us, hl with | [_], _ => rfl
  have F5 : Fn K mg "is_body" s_is_body ["thing"] _ _ := ⟨U5, b5, PySem.W.mg_of X G a5⟩
  have U6 := fun_mk (st := s_is_item) l6 c6 k6
  have b6 := U6.binds (ps := ["kind", "thing"]) fun _ _ _ _ _ _ us hl => match us, hl with | [_, _], _ => rfl
  have F6 : Fn K mg "is_item" s_is_item ["kind", "thing"] _ _ := ⟨U6, b6, PySem.W.mg_of X G a6⟩
  have U7 := fun_mk (st := s_is_message) l7 c7 k7
  have b7 := U7.binds (ps := ["thing"]) fun _ _ _ _ _ _ us hl => match us, hl with | [_], _ => rfl
  have F7 : Fn K mg "is_message" s_is_message ["thing"] _ _ := ⟨U7, b7, PySem.W.mg_of X G a7⟩
  have U8 := fun_mk (st := s_side) l8 c8 k8
  have b8 := U8.binds (ps := ["message"]) fun _ _ _ _ _ _ us hl => match us, hl with | [_], _ => rfl
  have F8 : Fn K mg "side" s_side ["message"] _ _ := ⟨U8, b8, PySem.W.mg_of X G a8⟩
  have U9 := fun_mk (st := s_message_text) l9 c9 k9
  have b9 := U9.binds (ps := ["message"]) fun _ _ _ _ _ _ us hl => match us, hl with | [_], _ => rfl
  have F9 : Fn K mg "message_text" s_message_text ["message"] _ _ := ⟨U9, b9, PySem.W.mg_of X G a9⟩
  have U10 := fun_mk (st := s_read_message) l10 c10 k10
  have b10 := U10.binds (ps := ["text"]) fun _ _ _ _ _ _ us hl => match us, hl with | [_], _ => rfl
  have F10 : Fn K mg "read_message" s_read_message ["text"] _ _ := ⟨U10, b10, PySem.W.mg_of X G a10⟩
  have U11 := fun_mk (st := s_read_item) l11 c11 k11
  have b11 := U11.binds (ps := ["kind", "field"]) fun _ _ _ _ _ _ us hl => match us, hl with | [_, _], _ => rfl
  have F11 : Fn K mg "read_item" s_read_item ["kind", "field"] _ _ := ⟨U11, b11, PySem.W.mg_of X G a11⟩
  have U12 := fun_mk (st := s_is_text) l12 c12 k12
  have b12 := U12.binds (ps := ["thing"]) fun _ _ _ _ _ _ us hl => match us, hl with | [_], _ => rfl
  have F12 : Fn K mg "is_text" s_is_text ["thing"] _ _ := ⟨U12, b12, PySem.W.mg_of X G a12⟩
  have U13 := fun_mk (st := s_is_rest) l13 c13 k13
  have b13 := U13.binds (ps := ["thing"]) fun _ _ _ _ _ _ us hl => match us, hl with | [_], _ => rfl
  have F13 : Fn K mg "is_rest" s_is_rest ["thing"] _ _ := ⟨U13, b13, PySem.W.mg_of X G a13⟩
  have U14 := fun_mk (st := s_digits_end) l14 c14 k14
  have b14 := U14.binds (ps := ["stream", "start"]) fun _ _ _ _ _ _ us hl => match us, hl with | [_, _], _ => rfl
  have F14 : Fn K mg "digits_end" s_digits_end ["stream", "start"] _ _ := ⟨U14, b14, PySem.W.mg_of X G a14⟩
  have U15 := fun_mk (st := s_plain_end) l15 c15 k15
  have b15 := U15.binds (ps := ["stream", "start", "stop"]) fun _ _ _ _ _ _ us hl => match us, hl with | [_, _, _], _ => rfl
  have F15 : Fn K mg "plain_end" s_plain_end ["stream", "start", "stop"] _ _ := ⟨U15, b15, PySem.W.mg_of X G a15⟩
  have U16 := fun_mk (st := s_next_frame) l16 c16 k16
  have b16 := U16.binds (ps := ["stream", "start"]) fun _ _ _ _ _ _ us hl => match us, hl with | [_, _], _ => rfl
  have F16 : Fn K mg "next_frame" s_next_frame ["stream", "start"] _ _ := ⟨U16, b16, PySem.W.mg_of X G a16⟩
  have U17 := fun_mk (st := s_frame) l17 c17 k17
  have b17 := U17.binds (ps := ["text"]) fun _ _ _ _ _ _ us hl => match us, hl with | [_], _ => rfl
  have F17 : Fn K mg "frame" s_frame ["text"] _ _ := ⟨U17, b17, PySem.W.mg_of X G a17⟩
  have U18 := fun_mk (st := s_read) l18 c18 k18
  have b18 := U18.binds (ps := ["rest", "piece"]) fun _ _ _ _ _ _ us hl => match us, hl with | [_, _], _ => rfl
  have F18 : Fn K mg "read" s_read ["rest", "piece"] _ _ := ⟨U18, b18, PySem.W.mg_of X G a18⟩
  have U19 := fun_mk (st := s__law_deck) l19 c19 k19
  have b19 := U19.binds (ps := ["_law_script"]) fun _ _ _ _ _ _ us hl => match us, hl with | [_], _ => rfl
  have F19 : Fn K mg "_law_deck" s__law_deck ["_law_script"] _ _ := ⟨U19, b19, PySem.W.mg_of X G a19⟩
  have U20 := fun_mk (st := s__law_draw) l20 c20 k20
  have b20 := U20.binds (ps := ["_law_deck_here", "_law_below"]) fun _ _ _ _ _ _ us hl => match us, hl with | [_, _], _ => rfl
  have F20 : Fn K mg "_law_draw" s__law_draw ["_law_deck_here", "_law_below"] _ _ := ⟨U20, b20, PySem.W.mg_of X G a20⟩
  have U21 := fun_mk (st := s__law_pick) l21 c21 k21
  have b21 := U21.binds (ps := ["_law_deck_here", "_law_some"]) fun _ _ _ _ _ _ us hl => match us, hl with | [_, _], _ => rfl
  have F21 : Fn K mg "_law_pick" s__law_pick ["_law_deck_here", "_law_some"] _ _ := ⟨U21, b21, PySem.W.mg_of X G a21⟩
  have U22 := fun_mk (st := s__law_signs) l22 c22 k22
  have b22 := U22.binds (ps := []) fun _ _ _ _ _ _ us hl => match us, hl with | [], _ => rfl
  have F22 : Fn K mg "_law_signs" s__law_signs [] _ _ := ⟨U22, b22, PySem.W.mg_of X G a22⟩
  have U23 := fun_mk (st := s__law_text) l23 c23 k23
  have b23 := U23.binds (ps := ["_law_deck_here", "_law_size"]) fun _ _ _ _ _ _ us hl => match us, hl with | [_, _], _ => rfl
  have F23 : Fn K mg "_law_text" s__law_text ["_law_deck_here", "_law_size"] _ _ := ⟨U23, b23, PySem.W.mg_of X G a23⟩
  have U24 := fun_mk (st := s__law_is_body) l24 c24 k24
  have b24 := U24.binds (ps := ["_law_thing"]) fun _ _ _ _ _ _ us hl => match us, hl with | [_], _ => rfl
  have F24 : Fn K mg "_law_is_body" s__law_is_body ["_law_thing"] _ _ := ⟨U24, b24, PySem.W.mg_of X G a24⟩
  have U25 := fun_mk (st := s__law_parts) l25 c25 k25
  have b25 := U25.binds (ps := ["_law_word"]) fun _ _ _ _ _ _ us hl => match us, hl with | [_], _ => rfl
  have F25 : Fn K mg "_law_parts" s__law_parts ["_law_word"] _ _ := ⟨U25, b25, PySem.W.mg_of X G a25⟩
  have U26 := fun_mk (st := s__law_body) l26 c26 k26
  have b26 := U26.binds (ps := ["_law_deck_here"]) fun _ _ _ _ _ _ us hl => match us, hl with | [_], _ => rfl
  have F26 : Fn K mg "_law_body" s__law_body ["_law_deck_here"] _ _ := ⟨U26, b26, PySem.W.mg_of X G a26⟩
  have U27 := fun_mk (st := s__law_number) l27 c27 k27
  have b27 := U27.binds (ps := ["_law_deck_here", "_law_low"]) fun _ _ _ _ _ _ us hl => match us, hl with | [_, _], _ => rfl
  have F27 : Fn K mg "_law_number" s__law_number ["_law_deck_here", "_law_low"] _ _ := ⟨U27, b27, PySem.W.mg_of X G a27⟩
  have U28 := fun_mk (st := s__law_message) l28 c28 k28
  have b28 := U28.binds (ps := ["_law_deck_here", "_law_words"]) fun _ _ _ _ _ _ us hl => match us, hl with | [_, _], _ => rfl
  have F28 : Fn K mg "_law_message" s__law_message ["_law_deck_here", "_law_words"] _ _ := ⟨U28, b28, PySem.W.mg_of X G a28⟩
  have U29 := fun_mk (st := s__law_written) l29 c29 k29
  have b29 := U29.binds (ps := ["_law_message_here"]) fun _ _ _ _ _ _ us hl => match us, hl with | [_], _ => rfl
  have F29 : Fn K mg "_law_written" s__law_written ["_law_message_here"] _ _ := ⟨U29, b29, PySem.W.mg_of X G a29⟩
  have U30 := fun_mk (st := s__law_figure) l30 c30 k30
  have b30 := U30.binds (ps := ["_law_word", "_law_low"]) fun _ _ _ _ _ _ us hl => match us, hl with | [_, _], _ => rfl
  have F30 : Fn K mg "_law_figure" s__law_figure ["_law_word", "_law_low"] _ _ := ⟨U30, b30, PySem.W.mg_of X G a30⟩
  have U31 := fun_mk (st := s__law_told) l31 c31 k31
  have b31 := U31.binds (ps := ["_law_text_here"]) fun _ _ _ _ _ _ us hl => match us, hl with | [_], _ => rfl
  have F31 : Fn K mg "_law_told" s__law_told ["_law_text_here"] _ _ := ⟨U31, b31, PySem.W.mg_of X G a31⟩
  have U32 := fun_mk (st := s__law_spoiled) l32 c32 k32
  have b32 := U32.binds (ps := ["_law_deck_here", "_law_stream"]) fun _ _ _ _ _ _ us hl => match us, hl with | [_, _], _ => rfl
  have F32 : Fn K mg "_law_spoiled" s__law_spoiled ["_law_deck_here", "_law_stream"] _ _ := ⟨U32, b32, PySem.W.mg_of X G a32⟩
  have U33 := fun_mk (st := s__law_got) l33 c33 k33
  have b33 := U33.binds (ps := ["_law_deed"]) fun _ _ _ _ _ _ us hl => match us, hl with | [_], _ => rfl
  have F33 : Fn K mg "_law_got" s__law_got ["_law_deed"] _ _ := ⟨U33, b33, PySem.W.mg_of X G a33⟩
  have U34 := fun_mk (st := s__law_is_read) l34 c34 k34
  have b34 := U34.binds (ps := ["_law_text_here"]) fun _ _ _ _ _ _ us hl => match us, hl with | [_], _ => rfl
  have F34 : Fn K mg "_law_is_read" s__law_is_read ["_law_text_here"] _ _ := ⟨U34, b34, PySem.W.mg_of X G a34⟩
  have U35 := fun_mk (st := s__law_near) l35 c35 k35
  have b35 := U35.binds (ps := ["_law_deck_here", "_law_text_here"]) fun _ _ _ _ _ _ us hl => match us, hl with | [_, _], _ => rfl
  have F35 : Fn K mg "_law_near" s__law_near ["_law_deck_here", "_law_text_here"] _ _ := ⟨U35, b35, PySem.W.mg_of X G a35⟩
  have U36 := fun_mk (st := s_law) l36 c36 k36
  have b36 := U36.binds (ps := ["_law_script"]) fun _ _ _ _ _ _ us hl => match us, hl with | [_], _ => rfl
  have F36 : Fn K mg "law" s_law ["_law_script"] _ _ := ⟨U36, b36, PySem.W.mg_of X G a36⟩
  have UI := fun_mk (st := s_BT) e15 e16 e17
  have bI := UI.binds (ps := ["self", "thing"]) fun _ _ _ _ _ _ us hl => match us, hl with | [_, _], _ => rfl
  have TE : ExcI K mg "BadText" "BadText.__init__" s_BT C fI _ := ⟨⟨⟨nm, qn, Nn, bs, bm, sn, sub, ab, col, dd, q0, q1, q2, q3, q5, e1, e2⟩, e3, e4, e5, e6⟩, ⟨e7, e8, e4, e9⟩, e10, ⟨e11, e12⟩, UI, bI, PySem.W.mg_of X G e0, exm_self e4 e13 e5 e14⟩
  have TW : Twd K mg Tw := ⟨PySem.W.mg_of X G w0, sqT_lit w1 w2⟩
  have nsF := ns_ent g1 (ps := [(Str.ofString "ask", t0), (Str.ofString "past", t1), (Str.ofString "look", t2), (Str.ofString "hello", t3), (Str.ofString "answer", t4), (Str.ofString "upto", t5), (Str.ofString "forgot", t6), (Str.ofString "well", t7), (Str.ofString "away", t8)]) g4
  have TF : Frms K w mg Fm := by
    refine ⟨PySem.W.mg_of X G g0, ⟨es, nF, g1, g2, g3⟩, fun wd ks hk => ?_, fun wd hk => ?_⟩
    · obtain ⟨l1, l2, e, _⟩ := List.lookup_eq_some_iff.mp (show forms.lookup wd = some ks from hk)
      have hm : (wd, ks) ∈ forms := by rw [e]; simp
      unfold forms at hm
      simp only [List.mem_cons, List.not_mem_nil, or_false, Prod.mk.injEq] at hm
      rcases hm with ⟨rfl, rfl⟩ | ⟨rfl, rfl⟩ | ⟨rfl, rfl⟩ | ⟨rfl, rfl⟩ | ⟨rfl, rfl⟩ | ⟨rfl, rfl⟩ | ⟨rfl, rfl⟩ | ⟨rfl, rfl⟩ | ⟨rfl, rfl⟩
      · exact ⟨t0, (nsF _).trans (congrArg (fun y => some (Option.map Value.ref y)) (look0 ..)), fun H => sqT_lit h0 v0 H⟩
      · exact ⟨t1, (nsF _).trans (congrArg (fun y => some (Option.map Value.ref y)) (look1 ..)), fun H => sqT_lit h1 v1 H⟩
      · exact ⟨t2, (nsF _).trans (congrArg (fun y => some (Option.map Value.ref y)) (look2 ..)), fun H => sqT_lit h2 v2 H⟩
      · exact ⟨t3, (nsF _).trans (congrArg (fun y => some (Option.map Value.ref y)) (look3 ..)), fun H => sqT_lit h3 v3 H⟩
      · exact ⟨t4, (nsF _).trans (congrArg (fun y => some (Option.map Value.ref y)) (look4 ..)), fun H => sqT_lit h4 v4 H⟩
      · exact ⟨t5, (nsF _).trans (congrArg (fun y => some (Option.map Value.ref y)) (look5 ..)), fun H => sqT_lit h5 v5 H⟩
      · exact ⟨t6, (nsF _).trans (congrArg (fun y => some (Option.map Value.ref y)) (look6 ..)), fun H => sqT_lit h6 v6 H⟩
      · exact ⟨t7, (nsF _).trans (congrArg (fun y => some (Option.map Value.ref y)) (look7 ..)), fun H => sqT_lit h7 v7 H⟩
      · exact ⟨t8, (nsF _).trans (congrArg (fun y => some (Option.map Value.ref y)) (look8 ..)), fun H => sqT_lit h8 v8 H⟩
    · rw [nsF]
      rw [look_no hk]
      rfl
  have Kt : KwB K _ ["text"] ["text"] (fun u => u) (fun u => u) := kwt (fd := PySem.W.fnOf "read_message" "read_message" (defArgs s_read_message) (defBody s_read_message) (defScope s_read_message) .none kV10 dc10 pm10 an10 cd10 ct10) fun s a => .of_eq rfl
  have Km : KwB K _ ["message"] ["message"] (fun u => u) (fun u => u) := kwt (fd := PySem.W.fnOf "message_text" "message_text" (defArgs s_message_text) (defBody s_message_text) (defScope s_message_text) .none kV9 dc9 pm9 an9 cd9 ct9) fun s a => .of_eq rfl
  have Ks : KwB K _ ["message"] ["message"] (fun u => u) (fun u => u) := kwt (fd := PySem.W.fnOf "side" "side" (defArgs s_side) (defBody s_side) (defScope s_side) .none kV8 dc8 pm8 an8 cd8 ct8) fun s a => .of_eq rfl
  have hT := own f34 (PySem.W.mg_of X G a34) cA Pt _ _ _ _ _ _ l34 rfl rfl m0 m1
  refine ⟨PySem.W.fnOf "law" "law" (defArgs s_law) (defBody s_law) (defScope s_law) .none kV36 dc36 pm36 an36 cd36 ct36, cA, Pt, hT, m3, codeB_in m0 m2, fun s v => .of_eq rfl, fun base _ _ TB => ?_⟩
  have Gint : FnOk l.prog w K mg base CX0 _ _ _ _ _ := ok_is_integer F0 Cn
  have Gnum : FnOk l.prog w K mg base CX0 _ _ _ _ _ := ok_is_number F2 Cn F0 F1
  have Gbody : FnOk l.prog w K mg base CX0 _ _ _ _ _ := ok_is_body F5 Cn F3
  have Gitem : FnOk l.prog w K mg base CX0 _ _ _ _ _ := ok_is_item F6 F5 Gbody F2 Gnum
  have Gmsg : FnOk l.prog w K mg base CX0 _ _ _ _ _ := ok_is_message F7 Cn TF F6 Gitem
  have Gside : FnOk l.prog w K mg base CX0 _ _ _ _ _ := ok_side F8 Cn TW F7 Gmsg
  have Gmt : FnOk l.prog w K mg base CX0 _ _ _ _ _ := ok_message_text F9 Cn F7 Gmsg
  have Gri : FnOk l.prog w K mg base CX0 _ _ _ _ _ := ok_read_item F11 Cn F4
  have Grd : FnOk l.prog w K mg base (L2.CX l.prog w) _ _ _ _ _ := ok_read_message F10 Cn TF F7 Gmsg F11 Gri TE
  have GisText : FnOk l.prog w K mg base CX0 _ _ _ _ _ := ok_is_text F12 Cn F3
  have GisRest : FnOk l.prog w K mg base CX0 _ _ _ _ _ := ok_is_rest F13 Cn F3 F4
  have Gdig : FnOk l.prog w K mg base CX0 _ _ _ _ _ := ok_digits_end F14 Cn F4
  have Gpl : FnOk l.prog w K mg base CX0 _ _ _ _ _ := ok_plain_end F15 Cn F3
  have Gnext : FnOk l.prog w K mg base CX0 _ _ _ _ _ := ok_next_frame F16 Cn F14 Gdig F15 Gpl
  have Gframe : FnOk l.prog w K mg base CX0 _ _ _ _ _ := ok_frame F17 Cn F12 GisText
  have Gread : FnOk l.prog w K mg base CX0 _ _ _ _ _ := ok_read F18 Cn F13 GisRest F16 Gnext
  have Gdeck : FnOk l.prog w K mg base CX0 _ _ _ _ _ := ok_deck F19 B
  have Gdraw : FnOk l.prog w K mg base CX0 _ _ _ _ _ := ok_draw F20 B
  have Gpick : FnOk l.prog w K mg base CX0 _ _ _ _ _ := ok_pick F21 B F20
  have Gtext : FnOk l.prog w K mg base CX0 _ _ _ _ _ := ok_text F23 B F20 Gdraw F21 Gpick F22
  have Gspoiled : FnOk l.prog w K mg base CX0 _ _ _ _ _ := ok_spoiled F32 B F20 Gdraw F21 Gpick F22
  have Gmkb : FnOk l.prog w K mg base CX0 _ _ _ _ _ := ok_mkbody F26 F23 Gtext F21 Gpick F20 Gdraw
  have Gmkn : FnOk l.prog w K mg base CX0 _ _ _ _ _ := ok_mknum F27 F21 Gpick F20 Gdraw
  have Glmsg : FnOk l.prog w K mg base CX0 _ _ _ _ _ := ok_lmsg F28 Cn F21 Gpick F25 F26 Gmkb F27 Gmkn
  have Gwr : FnOk l.prog w K mg base CX0 _ _ _ _ _ := ok_written F29 Cn
  have Gtold : FnOk l.prog w K mg base CX0 _ _ _ _ _ := ok_told F31 Cn F25 F24 F30
  have Gnear : FnOk l.prog w K mg base CX0 _ _ _ _ _ := ok_near F35 Cn F20 Gdraw F21 Gpick F32 Gspoiled
  have Gisread : FnG l.prog w K mg base _ _ _ _ _ := ok_isread F34 Cn rfl TB F31 Gtold F33 TE F9 Gmt F10 Grd Kt
  exact ok_law F36 Cn F19 Gdeck F28 Glmsg F29 Gwr F9 Gmt Km F10 Grd F8 Gside Ks F7 Gmsg F12 GisText F35 Gnear F34 Gisread F17 Gframe F18 Gread
end Ag

end
/-! ## Tail2 -/
open PySem PySem.W PyProof.Rows
set_option maxRecDepth 100000 in
set_option maxHeartbeats 0 in
theorem PySem.Challenge.cw_answergate_k02_whole_messages_and_their_holds : PySem.Challenge.rw_answergate_k02_whole_messages_and_their.Holds := by
  w_on; o_law; k_head; (case hw => w_witness2)
  k_fill
  refine Ag.walkGT (l := PySem.Challenge.rw_answergate_k02_whole_messages_and_their) (n := 63) (k := 10) (x := "_law_script") (y := "_law_is_read") (sp := Ag.spLaw) rfl (by decide) rfl ⟨rfl, by decide, by decide⟩ (by decide +kernel) (fun w h Y => PySem.W.km_in_of Y) ?F (fun Pt K H a ns hl hP hS => ⟨a, ns, rfl, hS, hl, fun y hy => by rw [List.mem_singleton.mp hy]; exact LamX.TabS.nil hP, fun _ => rfl⟩)
  case F =>
    intro w mg fa h KX G hmg own
    refine' Ag.all_mk KX G hmg own ?a0 ?l0 ?c0 ?k0 ?a1 ?l1 ?c1 ?k1 ?a2 ?l2 ?c2 ?k2 ?a3 ?l3 ?c3 ?k3 ?a4 ?l4 ?c4 ?k4 ?a5 ?l5 ?c5 ?k5 ?a6 ?l6 ?c6 ?k6 ?a7 ?l7 ?c7 ?k7 ?a8 ?l8 ?c8 ?k8 ?a9 ?l9 ?c9 ?k9 ?a10 ?l10 ?c10 ?k10 ?a11 ?l11 ?c11 ?k11 ?a12 ?l12 ?c12 ?k12 ?a13 ?l13 ?c13 ?k13 ?a14 ?l14 ?c14 ?k14 ?a15 ?l15 ?c15 ?k15 ?a16 ?l16 ?c16 ?k16 ?a17 ?l17 ?c17 ?k17 ?a18 ?l18 ?c18 ?k18 ?a19 ?l19 ?c19 ?k19 ?a20 ?l20 ?c20 ?k20 ?a21 ?l21 ?c21 ?k21 ?a22 ?l22 ?c22 ?k22 ?a23 ?l23 ?c23 ?k23 ?a24 ?l24 ?c24 ?k24 ?a25 ?l25 ?c25 ?k25 ?a26 ?l26 ?c26 ?k26 ?a27 ?l27 ?c27 ?k27 ?a28 ?l28 ?c28 ?k28 ?a29 ?l29 ?c29 ?k29 ?a30 ?l30 ?c30 ?k30 ?a31 ?l31 ?c31 ?k31 ?a32 ?l32 ?c32 ?k32 ?a33 ?l33 ?c33 ?k33 ?a34 ?l34 ?c34 ?k34 ?a35 ?l35 ?c35 ?k35 ?a36 ?l36 ?c36 ?k36 ?z0 ?z1 ?z2 ?z3 ?z4 ?z5 ?z6 ?z7 ?z8 ?z9 ?z10 ?z11 ?z12 ?z13 ?z14 ?tx ?ty ?tz ?yw0 ?yw1 ?yw2 ?yg0 ?yg1 ?yg2 ?yg3 ?yg4 ?yh0 ?yv0 ?yh1 ?yv1 ?yh2 ?yv2 ?yh3 ?yv3 ?yh4 ?yv4 ?yh5 ?yv5 ?yh6 ?yv6 ?yh7 ?yv7 ?yh8 ?yv8 ?ye0 ?ye1 ?ye2 ?ye3 ?ye4 ?ye5 ?ye6 ?ye7 ?ye8 ?ye9 ?ye10 ?ye11 ?ye12 ?ye13 ?ye14 ?ye15 ?ye16 ?ye17 ?ym0 ?ym1 ?ym2 ?ym3
    (case a0 => k_is); (case l0 => k_is); (case c0 => k_is); (case k0 => k_is)
    (case a1 => k_is); (case l1 => k_is); (case c1 => k_is); (case k1 => k_is)
    (case a2 => k_is); (case l2 => k_is); (case c2 => k_is); (case k2 => k_is)
    (case a3 => k_is); (case l3 => k_is); (case c3 => k_is); (case k3 => k_is)
    (case a4 => k_is); (case l4 => k_is); (case c4 => k_is); (case k4 => k_is)
    (case a5 => k_is); (case l5 => k_is); (case c5 => k_is); (case k5 => k_is)
    (case a6 => k_is); (case l6 => k_is); (case c6 => k_is); (case k6 => k_is)
    (case a7 => k_is); (case l7 => k_is); (case c7 => k_is); (case k7 => k_is)
    (case a8 => k_is); (case l8 => k_is); (case c8 => k_is); (case k8 => k_is)
    (case a9 => k_is); (case l9 => k_is); (case c9 => k_is); (case k9 => k_is)
    (case a10 => k_is); (case l10 => k_is); (case c10 => k_is); (case k10 => k_is)
    (case a11 => k_is); (case l11 => k_is); (case c11 => k_is); (case k11 => k_is)
    (case a12 => k_is); (case l12 => k_is); (case c12 => k_is); (case k12 => k_is)
    (case a13 => k_is); (case l13 => k_is); (case c13 => k_is); (case k13 => k_is)
    (case a14 => k_is); (case l14 => k_is); (case c14 => k_is); (case k14 => k_is)
    (case a15 => k_is); (case l15 => k_is); (case c15 => k_is); (case k15 => k_is)
    (case a16 => k_is); (case l16 => k_is); (case c16 => k_is); (case k16 => k_is)
    (case a17 => k_is); (case l17 => k_is); (case c17 => k_is); (case k17 => k_is)
    (case a18 => k_is); (case l18 => k_is); (case c18 => k_is); (case k18 => k_is)
    (case a19 => k_is); (case l19 => k_is); (case c19 => k_is); (case k19 => k_is)
    (case a20 => k_is); (case l20 => k_is); (case c20 => k_is); (case k20 => k_is)
    (case a21 => k_is); (case l21 => k_is); (case c21 => k_is); (case k21 => k_is)
    (case a22 => k_is); (case l22 => k_is); (case c22 => k_is); (case k22 => k_is)
    (case a23 => k_is); (case l23 => k_is); (case c23 => k_is); (case k23 => k_is)
    (case a24 => k_is); (case l24 => k_is); (case c24 => k_is); (case k24 => k_is)
    (case a25 => k_is); (case l25 => k_is); (case c25 => k_is); (case k25 => k_is)
    (case a26 => k_is); (case l26 => k_is); (case c26 => k_is); (case k26 => k_is)
    (case a27 => k_is); (case l27 => k_is); (case c27 => k_is); (case k27 => k_is)
    (case a28 => k_is); (case l28 => k_is); (case c28 => k_is); (case k28 => k_is)
    (case a29 => k_is); (case l29 => k_is); (case c29 => k_is); (case k29 => k_is)
    (case a30 => k_is); (case l30 => k_is); (case c30 => k_is); (case k30 => k_is)
    (case a31 => k_is); (case l31 => k_is); (case c31 => k_is); (case k31 => k_is)
    (case a32 => k_is); (case l32 => k_is); (case c32 => k_is); (case k32 => k_is)
    (case a33 => k_is); (case l33 => k_is); (case c33 => k_is); (case k33 => k_is)
    (case a34 => k_is); (case l34 => k_is); (case c34 => k_is); (case k34 => k_is)
    (case a35 => k_is); (case l35 => k_is); (case c35 => k_is); (case k35 => k_is)
    (case a36 => k_is); (case l36 => k_is); (case c36 => k_is); (case k36 => k_is)
    (case z0 => k_is); (case z1 => k_is); (case z2 => k_is); (case z3 => k_is); (case z4 => k_is); (case z5 => k_is); (case z6 => k_is); (case z7 => k_is); (case z8 => k_is); (case z9 => k_is); (case z10 => k_is); (case z11 => k_is); (case z12 => k_is); (case z13 => k_is); (case z14 => k_is)
    (case tx => k_is); (case ty => k_is); (case tz => k_is); (case yw0 => k_is); (case yw1 => k_is)
    (case yw2 => exact ⟨by decide, .cons ⟨_, rfl⟩ (.cons ⟨_, rfl⟩ (.cons ⟨_, rfl⟩ .nil))⟩)
    (case yg0 => k_is); (case yg1 => k_is)
    (case yg2 => exact ⟨⟨_, _, rfl, rfl⟩, ⟨_, _, rfl, rfl⟩, ⟨_, _, rfl, rfl⟩, ⟨_, _, rfl, rfl⟩, ⟨_, _, rfl, rfl⟩, ⟨_, _, rfl, rfl⟩, ⟨_, _, rfl, rfl⟩, ⟨_, _, rfl, rfl⟩, ⟨_, _, rfl, rfl⟩, trivial⟩)
    (case yg3 => decide)
    (case yg4 => rfl)
    (case yh0 => k_is); (case yv0 => exact ⟨by decide, .cons ⟨_, rfl⟩ (.cons ⟨_, rfl⟩ .nil)⟩)
    (case yh1 => k_is); (case yv1 => exact ⟨by decide, .cons ⟨_, rfl⟩ (.cons ⟨_, rfl⟩ .nil)⟩)
    (case yh2 => k_is); (case yv2 => exact ⟨by decide, .nil⟩)
    (case yh3 => k_is); (case yv3 => exact ⟨by decide, .cons ⟨_, rfl⟩ .nil⟩)
    (case yh4 => k_is); (case yv4 => exact ⟨by decide, .cons ⟨_, rfl⟩ (.cons ⟨_, rfl⟩ .nil)⟩)
    (case yh5 => k_is); (case yv5 => exact ⟨by decide, .cons ⟨_, rfl⟩ (.cons ⟨_, rfl⟩ .nil)⟩)
    (case yh6 => k_is); (case yv6 => exact ⟨by decide, .cons ⟨_, rfl⟩ .nil⟩)
    (case yh7 => k_is); (case yv7 => exact ⟨by decide, .nil⟩)
    (case yh8 => k_is); (case yv8 => exact ⟨by decide, .cons ⟨_, rfl⟩ .nil⟩)
    (case ye0 => k_is); (case ye1 => k_is); (case ye2 => rfl)
    (case ye3 => k_is); (case ye4 => k_is); (case ye5 => k_is); (case ye6 => k_is); (case ye7 => k_is); (case ye8 => k_is); (case ye9 => k_is); (case ye10 => k_is); (case ye11 => k_is); (case ye12 => k_is); (case ye13 => k_is); (case ye14 => k_is); (case ye15 => k_is); (case ye16 => k_is); (case ye17 => k_is)
    (case ym0 => k_is); (case ym1 => rfl); (case ym2 => rfl)
    (case ym3 => rfl)

