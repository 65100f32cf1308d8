import PyProof.Rows.All
import Wide.All
import OpenK.AllK
import Wide.FinOn
import HandS.Base
import HandS.Call
import HandS.List
import HandS.Comp
import HandS.Ends
import HandS.Iter
import HandS.Words
import HandS.WordsList
import HandS.Star
import HandS.More
import HandS.ForMost
import HandS.IsInst
import HandS.TupAny
import HandS.Wide
import HandS.StrMore
import HandS.FStr
import KE.KTypeName
import KE.KExcSuper
import KE.KSuper
import HandS.Exc
import HandS.ExcInit
import HandS.ExcIs
import HandS.Nested
import HandS.ClsMeth
import HandS.WordsExc
import HandS.Defaults
import KE.KExcIs
import HandS.ExcField
import HandS.ExcOwn
import HandS.DeepEq
import HandS.Deep
import PySem.Challenge.RW_stillruns_k61_texts_of_no_kind
set_option Elab.async false
set_option linter.unusedVariables false
set_option maxRecDepth 100000
namespace My
open PySem L2
/-! a def that stands behind the top, by what a caller needs of it -/
structure Cal (P : Program) (w : World) (K : PySem.W.Frag) (mg : Str → Option Value) (base : Heap) (x : Str) (n : Nat) (ps : List Str) (sp : Sp) : Prop where
  ex : ∃ (f : Addr) (fd : FuncData), FnOk P w K mg base CX0 n f fd ps sp ∧
    mg x = some (.ref f) ∧ PySem.W.keepIn K (.ref f) = true ∧ Binds K fd ps []
/-- how one keyword binds (the only parameter) -/
structure CalK (P : Program) (w : World) (K : PySem.W.Frag) (mg : Str → Option Value) (base : Heap) (x : Str) (n : Nat) (y : Str) (sp : Sp) : Prop where
  ex : ∃ (f : Addr) (fd : FuncData), FnOk P w K mg base CX0 n f fd [y] sp ∧
    mg x = some (.ref f) ∧ PySem.W.keepIn K (.ref f) = true ∧ KBinds K fd [y] [y] (fun us ws => us ++ ws) (fun vs zs => vs ++ zs)
section
variable {X : Cx} {x : Str} {n m : Nat} {ps : List Str} {sp : Sp} {es : List Expr} {e : Expr} {t tk : TA} {p pos : Pos} {y : Str} {kws : List Keyword}
theorem kbinds1 {K : PySem.W.Frag} {x qual : Str} {st : Stmt} {f : Addr} {fd : FuncData} {y : Str} (F : Fun K x qual st f fd)
    (h1 : ∀ (kV doc pm : Value) (an : Option Addr) (cdv ct u : Value), bindArgs (PySem.W.fnOf x qual (defArgs st) (defBody st) (defScope st) .none kV doc pm an cdv ct) ⟨[u], []⟩ = pure [(y, u)])
    (h2 : ∀ (kV doc pm : Value) (an : Option Addr) (cdv ct u : Value), bindArgs (PySem.W.fnOf x qual (defArgs st) (defBody st) (defScope st) .none kV doc pm an cdv ct) ⟨[], [(y, u)]⟩ = pure [(y, u)]) :
    KBinds K fd [y] [y] (fun us ws => us ++ ws) (fun vs zs => vs ++ zs) := by
  obtain ⟨oc, od, kV, doc, pm, an, cdv, ct, osl, rfl, lk, hcd⟩ := F.ex
  refine ⟨fun s us ws _ hl => ?_, fun r1 r2 => r1.append r2⟩
  match us, ws, hl with
  | [u], [], _ => exact .of_eq (h1 kV doc pm an cdv ct u)
  | [], [u], _ => exact .of_eq (h2 kV doc pm an cdv ct u)
theorem pc (C : Cal X.prog X.w X.K X.mg X.base x n ps sp) (hr : Room n X.A) (ha : PA X (e :: es) t) (hg : Gl X x := by rfl)
    (hdb : (x == ("__debug__" : Str)) = false := by decide)
    (he : starEach (e :: es) X.env = (false, eval e X.env) :: starEach es X.env := by rfl)
    (hpl : (backTo pos (starEach es X.env)).any (·.1) = false := by rfl) :
    PE X (.Call (.Name x p) (e :: es) [] pos) (tCall sp [] E0 t) := by
  obtain ⟨f, fd, F, hm, hk, hb⟩ := C.ex
  exact pe_call F hr hg hm hk hb .nil pass0 ha hdb he hpl
theorem pck0 (C : CalK X.prog X.w X.K X.mg X.base x n y sp) (hr : Room n X.A) (hkw : PK X kws tk) (hg : Gl X x := by rfl)
    (hdb : (x == ("__debug__" : Str)) = false := by decide)
    (hall : (backToKw pos (keywordEach kws X.env)).all (·.1.isSome) = true := by rfl)
    (hks : (backToKw pos (keywordEach kws X.env)).filterMap (·.1) = [y] := by rfl)
    (hpl : ((backTo pos (starEach [] X.env)).any (·.1) || (backToKw pos (keywordEach kws X.env)).any (·.1.isNone)) = false := by rfl) :
    PE X (.Call (.Name x p) [] kws pos) (fun σ H Q => tk σ H fun zs H2 => sp zs H2 Q E0) := by
  obtain ⟨f, fd, F, hm, hk, hb⟩ := C.ex
  refine ⟨fun pins s σ H Q I h => ?_⟩
  refine wpAny_Call_Name_kw (ld_glob I hg hm ?_ hdb)
  refine PySem.W.callWith_KW0 (h₀ := X.base) I.ok.mod.kin hk hall ?_ hpl
  refine thn (hkw.run pos pins s σ H _ I h) fun ws s2 ⟨zs, H2, I2, rz, q2⟩ => ⟨I2.kIn, ?_⟩
  rw [hks]
  exact run_fnk (us := []) (vs := []) F hr hb pass0 I2 .nil rz q2
end
/-! the rules that speak of the written part, told its name (so they stand in a comprehension's block, too) -/
section
variable {X : Cx} (K : PySem.W.Frag) (h : X.K = K)
include h
theorem ixL : IxR X (rIxL K) := by subst h; exact ix_list
theorem ixT : IxR X (rIxT K) := by subst h; exact ix_tup
theorem inSeq : OpR X (compareOp .In) (rIn K false) := by subst h; exact op_in_seq
theorem notInSeq : OpR X (compareOp .NotIn) (rIn K true) := by subst h; exact op_notIn_seq
theorem eqD (hu : X.A.units + 64 < cLine) : OpR X (compareOp .Eq) (rEqD K) := by subst h; exact op_eqD hu
theorem neD (hu : X.A.units + 64 < cLine) : OpR X (compareOp .NotEq) (rNeD K) := by subst h; exact op_neD hu
theorem lenSeq : CallR X (.builtin "len") (fun xs H Q => ∃ p ys, xs = [.ref p] ∧ (SqL K H p ys ∨ SqT K H p ys) ∧ Q (.int ys.length) H) := by
  subst h; exact call_len_seq
theorem listOf : CallR X (.type "list") (fun xs H Q => ∃ p ys, xs = [.ref p] ∧ (SqL K H p ys ∨ SqT K H p ys) ∧
    ∀ l, H l = none → Q (.ref l) (upd H l (.lst ys))) := by subst h; exact call_list_of
theorem tupleOf : CallR X (.type "tuple") (fun xs H Q => ∃ p ys, xs = [.ref p] ∧
    ((SqL K H p ys ∧ ∀ l, H l = none → Q (.ref l) (upd H l (.tup ys))) ∨ (SqT K H p ys ∧ Q (.ref p) H))) := by subst h; exact call_tuple_of
theorem isInst : CallR X (.builtin "isinstance") (rIsi K) := by subst h; exact call_isi
theorem isInstT : CallR X (.builtin "isinstance") (rIsiT K) := by subst h; exact call_isiT
theorem sumOf (hc : X.calm = true) : CallR X (.builtin "sum") (rSum K) := by subst h; exact cr_sum hc
theorem maxOf (hc : X.calm = true) : CallR X (.builtin "max") (rMax K) := by subst h; exact cr_max hc
theorem minOf (hc : X.calm = true) : CallR X (.builtin "min") (rMin K) := by subst h; exact cr_min hc
theorem allOf (hc : X.calm = true) : CallR X (.builtin "all") (rAll K) := by subst h; exact cr_all hc
theorem anyOf (hc : X.calm = true) : CallR X (.builtin "any") (rAny K) := by subst h; exact cr_any hc
theorem slL : SlR X (rSlL K) := by subst h; exact sl_list
theorem slT : SlR X (rSlA K) := by subst h; exact sl_tupA
theorem catT : OpR X (binaryOp .Add) (rCatA K) := by subst h; exact op_catA
theorem truth {a : Expr} {ta : TE} (ha : PE X a ta)
    (he : ∀ whole, isTrue a X.env whole = (do let v ← whole; standAt a.pos; holding [v] (truthy v)) := by intro _; rfl) :
    PT X a (fun σ H Q => ta σ H fun x H' => ∃ k, TruV K x H' k ∧ Q k H') := by subst h; exact pt_truth ha he
theorem piL {tg l : Expr} {tl : TE} (hl : PE X l tl) : PI X tg l (iList K tl) := by subst h; exact pi_list hl
theorem piT {tg l : Expr} {tl : TE} (hl : PE X l tl) : PI X tg l (iTup K tl) := by subst h; exact pi_tup hl
theorem star {e : Expr} {es : List Expr} {te : TE} {t : TA} {p : Pos} (he : PE X e te) (hr : PA X es t)
    (hs : starEach (.Starred e p :: es) X.env = (true, eval e X.env) :: starEach es X.env := by rfl) :
    PA X (.Starred e p :: es) (StX.tStar K te t) := by subst h; exact StX.pa_star he hr hs
end
/-- a text so many times (a few) -/
theorem op_mul_str {X : Cx} : OpR X (binaryOp .Mult) (fun x y H Q => ∃ (z : Str) (n : Int), x = .str z ∧ y = .int n ∧ 1 ≤ n ∧ n ≤ 1000 ∧ z.length ≤ 1000 ∧ Q (.str (Txt.mul z n)) H) := by
  intro pins s σ H x y v u Q I rx ry h
  obtain ⟨z, n, rfl, rfl, h1, h2, h3, q⟩ := h
  obtain ⟨t, rfl⟩ := rx
  obtain ⟨t2, rfl⟩ := ry
  refine SB.mul ⟨by simp; omega, fun _ _ => ?_, fun _ _ => ?_⟩ fun t' k => ⟨.str _, H, I.tok k, ⟨t', rfl⟩, q⟩
  · have e : (9223372036854775 : Int) ≤ (2 ^ 63 - 1) / n := by
      rw [Int.le_ediv_iff_mul_le (by omega)]
      omega
    omega
  · have e : z.length * n.toNat ≤ 1000 * 1000 := Nat.mul_le_mul h3 (by omega)
    unfold Builtin.Str.tooLong
    rw [sizeLine_eq]
    simp
    omega
/-- a text so many times (a few, or none) -/
theorem op_mul_str0 {X : Cx} : OpR X (binaryOp .Mult) (fun x y H Q => ∃ (z : Str) (n : Int), x = .str z ∧ y = .int n ∧ 0 ≤ n ∧ n ≤ 1000 ∧ z.length ≤ 1000 ∧ Q (.str (Txt.mul z n)) H) := by
  intro pins s σ H x y v u Q I rx ry h
  obtain ⟨z, n, rfl, rfl, h1, h2, h3, q⟩ := h
  obtain ⟨t, rfl⟩ := rx
  obtain ⟨t2, rfl⟩ := ry
  refine SB.mul ⟨by simp; omega, fun hn _ => ?_, fun hn _ => ?_⟩ fun t' k => ⟨.str _, H, I.tok k, ⟨t', rfl⟩, q⟩
  · have e : (9223372036854775 : Int) ≤ (2 ^ 63 - 1) / n := by
      rw [Int.le_ediv_iff_mul_le (by omega)]
      omega
    omega
  · have e : z.length * n.toNat ≤ 1000 * 1000 := Nat.mul_le_mul h3 (by omega)
    unfold Builtin.Str.tooLong
    rw [sizeLine_eq]
    simp
    omega
theorem ifT {c : Bool} {A B : Prop} (hc : c = true) (h : A) : if c = true then A else B := by
  rw [if_pos hc]
  exact h
theorem ifF {c : Bool} {A B : Prop} (hc : c = false) (h : B) : if c = true then A else B := by
  rw [if_neg (by rw [hc]; exact Bool.false_ne_true)]
  exact h
theorem Paired.at {α β : Type} {F : α → β → Prop} : ∀ {l₁ : List α} {l₂ : List β}, Paired F l₁ l₂ → ∀ (i : Nat) (x : α), l₁[i]? = some x → ∃ y, l₂[i]? = some y ∧ F x y
  | _, _, .nil, i, x, h => by simp at h
  | _, _, .cons r t, 0, x, h => by
    have e := Option.some.inj h
    subst e
    exact ⟨_, rfl, r⟩
  | _, _, .cons r t, i + 1, x, h => Paired.at t i x h
theorem take_next {α : Type} {l : List α} {i : Nat} {x : α} (h : l[i]? = some x) : l.take i ++ [x] = l.take (i + 1) := by
  rw [List.take_succ, h]
  rfl
theorem tyL {K : PySem.W.Frag} {H : Hp} {p : Addr} {xs : List V} (h : H p = some (.lst xs)) : tyV K "list" (.ref p) H := Or.inl ⟨rfl, _, SqL.of h⟩
theorem seq_set {te : TE} {i : Nat} {u : TS} {D : Ends} {σ : St} {H : Hp} (h : te σ H fun x H1 => u D (σ.set i (some x)) H1) : tSeq (tAsg te (gName i)) u D σ H := h
theorem gn {i : Nat} {v : V} {σ : St} {H : Hp} {Q : St → Hp → Prop} (h : Q (σ.set i (some v)) H) : gName i v σ H Q := h
theorem seq_abs {t u : TS} {D : Ends} {σ : St} {H : Hp} (R : St → Hp → Prop) (hd : ∀ σ' H', R σ' H' → u D σ' H')
    (h : ∀ nx : St → Hp → Prop, (∀ σ' H', R σ' H' → nx σ' H') → t { D with nx := nx } σ H) : tSeq t u D σ H := h (u D) hd
/-! constants of a module -/
theorem pgS {X : Cx} {x z : Str} {pos : Pos} (hm : ∃ t, X.mg x = some (.str z t)) (hg : Gl X x := by rfl) (hd : (x == ("__debug__" : Str)) = false := by decide) : PE X (.Name x pos) (tC (.str z)) := by
  obtain ⟨t, hm⟩ := hm
  exact pe_glob hg hm ⟨t, rfl⟩ hd
theorem pgI {X : Cx} {x : Str} {n : Int} {pos : Pos} (hm : ∃ t, X.mg x = some (.int n t)) (hg : Gl X x := by rfl) (hd : (x == ("__debug__" : Str)) = false := by decide) : PE X (.Name x pos) (tC (.int n)) := by
  obtain ⟨t, hm⟩ := hm
  exact pe_glob hg hm ⟨t, rfl⟩ hd
theorem pgT {X : Cx} {x : Str} {a : Addr} {pos : Pos} (hm : X.mg x = some (.ref a)) (hg : Gl X x := by rfl) (hd : (x == ("__debug__" : Str)) = false := by decide) : PE X (.Name x pos) (tC (.ref a)) :=
  pe_glob hg hm rfl hd
/-- what the modules' constants are -/
structure Mn (K : PySem.W.Frag) (mg : Str → Option Value) (aT aF : Addr) : Prop where
  m_LETTERS : ∃ t, mg "LETTERS" = some (.str "abcdefghijklmnopqrstuvwxyz" t)
  m_LONGEST : ∃ t, mg "LONGEST" = some (.int 8 t)
  m_TAKEN : mg "TAKEN" = some (.ref aT)
  q_TAKEN : ∀ H, SqT K H aT [.str "num", .str "text"]
  m_MOST_CALLED : ∃ t, mg "MOST_CALLED" = some (.int 3 t)
  m_MOST_LEVELS : ∃ t, mg "MOST_LEVELS" = some (.int 5 t)
/-- a def called by keywords alone (their names ks, in the order in which they are written) -/
structure CalN (P : Program) (w : World) (K : PySem.W.Frag) (mg : Str → Option Value) (base : Heap) (x : Str) (n : Nat) (ps ks : List Str) (gV : List V → List V → List V) (sp : Sp) : Prop where
  ex : ∃ (f : Addr) (fd : FuncData) (g : List Value → List Value → List Value), FnOk P w K mg base CX0 n f fd ps sp ∧ mg x = some (.ref f) ∧ PySem.W.keepIn K (.ref f) = true ∧ KBinds K fd ps ks g gV
theorem pckN {X : Cx} {x : Str} {n : Nat} {ps ks : List Str} {sp : Sp} {gV : List V → List V → List V} {kws : List Keyword} {tk : TA} {p pos : Pos} (C : CalN X.prog X.w X.K X.mg X.base x n ps ks gV sp) (hr : Room n X.A) (hkw : PK X kws tk) (hg : Gl X x := by rfl)
    (hdb : (x == ("__debug__" : Str)) = false := by decide)
    (hall : (backToKw pos (keywordEach kws X.env)).all (·.1.isSome) = true := by rfl)
    (hks : (backToKw pos (keywordEach kws X.env)).filterMap (·.1) = ks := by rfl)
    (hpl : ((backTo pos (starEach [] X.env)).any (·.1) || (backToKw pos (keywordEach kws X.env)).any (·.1.isNone)) = false := by rfl) :
    PE X (.Call (.Name x p) [] kws pos) (fun σ H Q => tk σ H fun zs H2 => sp (gV [] zs) H2 Q E0) := by
  obtain ⟨f, fd, g, F, hm, hk, hb⟩ := C.ex
  refine ⟨fun pins s σ H Q I h => ?_⟩
  refine wpAny_Call_Name_kw (ld_glob I hg hm ?_ hdb)
  refine PySem.W.callWith_KW0 (h₀ := X.base) I.ok.mod.kin hk hall ?_ hpl
  refine thn (hkw.run pos pins s σ H _ I h) fun ws s2 ⟨zs, H2, I2, rz, q2⟩ => ⟨I2.kIn, ?_⟩
  rw [hks]
  exact run_fnk (us := []) (vs := []) F hr hb pass0 I2 .nil rz q2
end My
namespace My
open PySem L2
/-! general: heaps, pairs, lists -/
def But (d g : Addr) (H H' : Hp) : Prop := ∀ a o, a ≠ d → a ≠ g → H a = some o → H' a = some o
theorem But.refl (d g : Addr) (H : Hp) : But d g H H := fun _ _ _ _ h => h
theorem But.trans {d g : Addr} {H H1 H2 : Hp} (a : But d g H H1) (b : But d g H1 H2) : But d g H H2 := fun x o h1 h2 h => b x o h1 h2 (a x o h1 h2 h)
theorem But.new {d g p : Addr} {H H1 : Hp} {o : HO} (a : But d g H H1) (hp : H1 p = none) : But d g H (upd H1 p o) := fun x u h1 h2 h => by
  have q := a x u h1 h2 h
  rw [upd_ne (ne_of_none q hp)]
  exact q
theorem But.atD {d g : Addr} {H H1 : Hp} {o : HO} (a : But d g H H1) : But d g H (upd H1 d o) := fun x u h1 h2 h => by
  rw [upd_ne h1]
  exact a x u h1 h2 h
theorem But.atG {d g : Addr} {H H1 : Hp} {o : HO} (a : But d g H H1) : But d g H (upd H1 g o) := fun x u h1 h2 h => by
  rw [upd_ne h2]
  exact a x u h1 h2 h
theorem But.of_same {d g : Addr} {H H1 : Hp} (a : Same H H1) : But d g H H1 := fun x u _ _ h => a x u h
theorem same_new {H : Hp} {p : Addr} (h : H p = none) (o : HO) : Same H (upd H p o) := fun b u q => by rw [upd_ne (ne_of_none q h)]; exact q
theorem shaped_ints (ns : List Int) : SeqAt.shaped (.list (ns.map PyData.int)) = true := by
  have a : PyData.canLayAll0 (ns.map PyData.int) = true := by
    induction ns with
    | nil => rfl
    | cons x r ih => rw [List.map_cons, PyData.canLayAll0, ih]; rfl
  have b : PyData.depthAll (ns.map PyData.int) = 0 := by
    induction ns with
    | nil => rfl
    | cons x r ih => rw [List.map_cons, PyData.depthAll, ih (by rw [List.map_cons, PyData.canLayAll0] at a; exact (Bool.and_eq_true_iff.mp a).2)]; rfl
  unfold SeqAt.shaped
  rw [PyData.canLay0, a, PyData.depth, b]
  rfl
theorem dp_ints {K : PySem.W.Frag} {H : Hp} (ns : List Int) : DpAll K H (ns.map V.int) (ns.map PyData.int) := by
  induction ns with
  | nil => exact .nil
  | cons x r ih => exact .cons (.int x) ih
theorem eqv_nil (ns : List Int) : PyData.eqv (.list (ns.map PyData.int)) (.list []) = ns.isEmpty := by
  cases ns with
  | nil => simp [PyData.eqv, PyData.eqvAll]
  | cons x r => simp [PyData.eqv, PyData.eqvAll]
theorem last_of {ns : List Int} (h : ns ≠ []) : ∃ l x, ns = l ++ [x] := ⟨ns.dropLast, ns.getLast h, (List.dropLast_concat_getLast h).symm⟩
theorem abs_if (n : Int) : (if n < 0 then -n else n) = (n.natAbs : Int) := by split <;> omega
theorem Same.atNew {H0 H : Hp} {g : Addr} {o : HO} (s : Same H0 H) (h : H0 g = none) : Same H0 (upd H g o) := fun b u q => by
  rw [upd_ne (ne_of_none q h)]
  exact s b u q
def Tups (H H' : Hp) : Prop := ∀ a xs, H a = some (.tup xs) → H' a = some (.tup xs)
theorem Tups.of_same {H H' : Hp} (s : Same H H') : Tups H H' := fun a xs h => s a _ h
theorem Tups.refl (H : Hp) : Tups H H := fun _ _ h => h
theorem Tups.trans {H H1 H2 : Hp} (a : Tups H H1) (b : Tups H1 H2) : Tups H H2 := fun x xs h => b x xs (a x xs h)
theorem line5 {n : Nat} (h : n ≤ 100000) : n < sizeLine := Nat.lt_of_le_of_lt h (by decide)
theorem cut_last {K : List V} {v : V} (h : K ≠ []) : ¬ (HT.sIx (K ++ [v]).length 0 (some (-1)) = 0 ∧ HT.sIx (K ++ [v]).length (K ++ [v]).length none = (K ++ [v]).length) ∧ cutV (K ++ [v]) (some (-1)) none = [v] := by
  have e : HT.sIx (K ++ [v]).length 0 (some (-1)) = K.length := by
    show (if (-1 : Int) < 0 then ((-1 : Int) + ((K ++ [v]).length : Int)).toNat else min (-1 : Int).toNat (K ++ [v]).length) = K.length
    rw [if_pos (by decide), List.length_append, List.length_singleton]
    omega
  have e2 : HT.sIx (K ++ [v]).length (K ++ [v]).length none = K.length + 1 := by
    rw [HT.sIx_none, List.length_append, List.length_singleton]
  constructor
  · rintro ⟨a, _⟩
    rw [e] at a
    exact h (List.eq_nil_of_length_eq_zero a)
  · unfold cutV
    rw [e, e2, List.drop_left, Nat.add_sub_cancel_left]
    rfl
theorem pair_app {α β : Type} {F : α → β → Prop} : ∀ {l₁ r₁ : List α} {l₂ r₂ : List β}, Paired F l₁ l₂ → Paired F r₁ r₂ → Paired F (l₁ ++ r₁) (l₂ ++ r₂)
  | _, _, _, _, .nil, h => h
  | _, _, _, _, .cons r t, h => .cons r (pair_app t h)
theorem pair_snoc {α β : Type} {F : α → β → Prop} {x : α} : ∀ {l : List α} {ns : List β}, Paired F (l ++ [x]) ns → ∃ nl k, ns = nl ++ [k] ∧ Paired F l nl ∧ F x k
  | [], _, .cons r .nil => ⟨[], _, rfl, .nil, r⟩
  | _ :: l, _, .cons r t => by
    obtain ⟨nl, k, e, p, q⟩ := pair_snoc (l := l) t
    exact ⟨_ :: nl, k, by rw [e]; rfl, .cons r p, q⟩
theorem le_sum {k : Nat} : ∀ {ns : List Nat}, k ∈ ns → k ≤ ns.sum
  | x :: r, h => by
    rw [List.sum_cons]
    rcases List.mem_cons.mp h with rfl | h
    · omega
    · have := le_sum h
      omega
theorem sum_cast (ns : List Nat) : (ns.map fun n : Nat => (n : Int)).sum = (ns.sum : Int) := by
  induction ns with
  | nil => rfl
  | cons x r ih => rw [List.map_cons, List.sum_cons, ih, List.sum_cons]; omega
theorem Tups.upd {H : Hp} {p : Addr} {xs : List V} {o : HO} (h : H p = some (.lst xs)) : Tups H (upd H p o) := fun a ys e => by
  rw [upd_ne (ne_of e h (by intro z; cases z))]
  exact e
theorem pair_take {α β : Type} {F : α → β → Prop} : ∀ {l₁ : List α} {l₂ : List β} (k : Nat), Paired F l₁ l₂ → Paired F (l₁.take k) (l₂.take k)
  | _, _, 0, _ => .nil
  | _, _, _ + 1, .nil => .nil
  | _, _, k + 1, .cons r t => .cons r (pair_take k t)
theorem take_sum_le : ∀ (ns : List Nat) (k : Nat), (ns.take k).sum ≤ ns.sum
  | [], k => by simp
  | x :: r, 0 => by simp
  | x :: r, k + 1 => by
    have := take_sum_le r k
    rw [List.take_succ_cons, List.sum_cons, List.sum_cons]
    omega
theorem cut_ints (ns : List Int) (lo hi : Option Int) : ∃ ns' : List Int, cutV (ns.map V.int) lo hi = ns'.map V.int ∧ ns'.length ≤ ns.length := by
  refine ⟨(ns.drop (HT.sIx (ns.map V.int).length 0 lo)).take (HT.sIx (ns.map V.int).length (ns.map V.int).length hi - HT.sIx (ns.map V.int).length 0 lo), ?_, ?_⟩
  · unfold cutV
    rw [List.map_take, List.map_drop]
  · rw [List.length_take, List.length_drop]
    omega
theorem But.atNew {d g p : Addr} {H0 H : Hp} {o : HO} (b : But d g H0 H) (h : H0 p = none) : But d g H0 (upd H p o) := fun a u h1 h2 e => by
  rw [upd_ne (ne_of_none e h)]
  exact b a u h1 h2 e
end My
namespace My
open PySem L2
def top (i : Nat) : Stmt := PySem.Challenge.pw_stillruns_k61_texts_of_no_kind.main.body.getD i (.Pass ⟨0, 0, 0, 0⟩)
def inClass (s : Stmt) : List Stmt := match s with
  | .ClassDef (body := b) .. => b
  | _ => []
abbrev s_kinds_directly_in : Stmt := top 12
theorem sc_kinds_directly_in : FnScope ["kind"] ["kind"] (defScope s_kinds_directly_in) := ⟨rfl, rfl, rfl, by decide +kernel, rfl, by decide +kernel, by decide +kernel⟩
abbrev s_kinds_in : Stmt := top 13
theorem sc_kinds_in : FnScope ["kind", "found", "waiting", "each"] ["kind"] (defScope s_kinds_in) := ⟨rfl, rfl, rfl, by decide +kernel, rfl, by decide +kernel, by decide +kernel⟩
abbrev s_calls_in : Stmt := top 14
theorem sc_calls_in : FnScope ["kind", "each"] ["kind"] (defScope s_calls_in) := ⟨rfl, rfl, rfl, by decide +kernel, rfl, by decide +kernel, by decide +kernel⟩
abbrev s_has_calls_in_calls : Stmt := top 15
theorem sc_has_calls_in_calls : FnScope ["kind", "each"] ["kind"] (defScope s_has_calls_in_calls) := ⟨rfl, rfl, rfl, by decide +kernel, rfl, by decide +kernel, by decide +kernel⟩
abbrev s_is_name : Stmt := top 20
theorem sc_is_name : FnScope ["text", "sign"] ["text"] (defScope s_is_name) := ⟨rfl, rfl, rfl, by decide +kernel, rfl, by decide +kernel, by decide +kernel⟩
abbrev s_callback_at : Stmt := top 26
theorem sc_callback_at : FnScope ["scan", "levels", "kinds", "answer"] ["scan", "levels"] (defScope s_callback_at) := ⟨rfl, rfl, rfl, by decide +kernel, rfl, by decide +kernel, by decide +kernel⟩
abbrev s_kind_at : Stmt := top 27
theorem sc_kind_at : FnScope ["scan", "levels", "word", "inner"] ["scan", "levels"] (defScope s_kind_at) := ⟨rfl, rfl, rfl, by decide +kernel, rfl, by decide +kernel, by decide +kernel⟩
abbrev s_read_kind : Stmt := top 28
theorem sc_read_kind : FnScope ["text", "scan", "kind", "each"] ["text"] (defScope s_read_kind) := ⟨rfl, rfl, rfl, by decide +kernel, rfl, by decide +kernel, by decide +kernel⟩
abbrev s__law_tray : Stmt := top 30
theorem sc__law_tray : FnScope ["script", "fold", "great", "cell", "much"] ["script"] (defScope s__law_tray) := ⟨rfl, rfl, rfl, by decide +kernel, rfl, by decide +kernel, by decide +kernel⟩
abbrev s__law_draw : Stmt := top 31
theorem sc__law_draw : FnScope ["tray", "many", "mixed", "found"] ["tray", "many"] (defScope s__law_draw) := ⟨rfl, rfl, rfl, by decide +kernel, rfl, by decide +kernel, by decide +kernel⟩
abbrev s__law_alike : Stmt := top 32
theorem sc__law_alike : FnScope ["found", "due", "k"] ["found", "due"] (defScope s__law_alike) := ⟨rfl, rfl, rfl, by decide +kernel, rfl, by decide +kernel, by decide +kernel⟩
abbrev s__law_name : Stmt := top 33
theorem sc__law_name : FnScope ["tray", "used", "letters", "way", "letter", "name", "some", "words", "old", "at", "k", "one"] ["tray", "used"] (defScope s__law_name) := ⟨rfl, rfl, rfl, by decide +kernel, rfl, by decide +kernel, by decide +kernel⟩
abbrev s__law_names : Stmt := top 34
theorem sc__law_names : FnScope ["tray", "many", "used", "found", "k"] ["tray", "many", "used"] (defScope s__law_names) := ⟨rfl, rfl, rfl, by decide +kernel, rfl, by decide +kernel, by decide +kernel⟩
abbrev s__law_flat_kind : Stmt := top 35
theorem sc__law_flat_kind : FnScope ["tray", "names", "deep", "way"] ["tray", "names", "deep"] (defScope s__law_flat_kind) := ⟨rfl, rfl, rfl, by decide +kernel, rfl, by decide +kernel, by decide +kernel⟩
abbrev s__law_kind : Stmt := top 36
theorem sc__law_kind : FnScope ["tray", "names", "deep", "way", "many", "called", "k"] ["tray", "names", "deep"] (defScope s__law_kind) := ⟨rfl, rfl, rfl, by decide +kernel, rfl, by decide +kernel, by decide +kernel⟩
abbrev s__law_shown : Stmt := top 37
theorem sc__law_shown : FnScope ["kind", "called", "one"] ["kind"] (defScope s__law_shown) := ⟨rfl, rfl, rfl, by decide +kernel, rfl, by decide +kernel, by decide +kernel⟩
abbrev s__law_sign : Stmt := top 38
theorem sc__law_sign : FnScope ["tray", "some"] ["tray"] (defScope s__law_sign) := ⟨rfl, rfl, rfl, by decide +kernel, rfl, by decide +kernel, by decide +kernel⟩
abbrev s__law_sign_spoilt : Stmt := top 39
theorem sc__law_sign_spoilt : FnScope ["tray", "text", "way", "at", "sign"] ["tray", "text"] (defScope s__law_sign_spoilt) := ⟨rfl, rfl, rfl, by decide +kernel, rfl, by decide +kernel, by decide +kernel⟩
abbrev s__law_is_name : Stmt := top 40
theorem sc__law_is_name : FnScope ["text", "sign"] ["text"] (defScope s__law_is_name) := ⟨rfl, rfl, rfl, by decide +kernel, rfl, by decide +kernel, by decide +kernel⟩
abbrev s__law_flat_of : Stmt := top 41
theorem sc__law_flat_of : FnScope ["text", "deep", "lower"] ["text", "deep"] (defScope s__law_flat_of) := ⟨rfl, rfl, rfl, by decide +kernel, rfl, by decide +kernel, by decide +kernel⟩
abbrev s__law_kind_of : Stmt := top 42
theorem sc__law_kind_of : FnScope ["text", "deep", "words", "called", "answer", "lower", "one"] ["text", "deep"] (defScope s__law_kind_of) := ⟨rfl, rfl, rfl, by decide +kernel, rfl, by decide +kernel, by decide +kernel⟩
abbrev s__law_spoilt : Stmt := top 43
theorem sc__law_spoilt : FnScope ["tray", "text", "way", "words", "some", "many"] ["tray", "text"] (defScope s__law_spoilt) := ⟨rfl, rfl, rfl, by decide +kernel, rfl, by decide +kernel, by decide +kernel⟩
abbrev s__law_odd : Stmt := top 44
theorem sc__law_odd : FnScope ["tray", "some"] ["tray"] (defScope s__law_odd) := ⟨rfl, rfl, rfl, by decide +kernel, rfl, by decide +kernel, by decide +kernel⟩
abbrev s_law : Stmt := top 45
theorem sc_law : FnScope ["script", "tray", "names", "k", "spoils", "odd", "text", "due", "found", "refused", "j"] ["script"] (defScope s_law) := ⟨rfl, rfl, rfl, by decide +kernel, rfl, by decide +kernel, by decide +kernel⟩
abbrev s_Scanner___init__ : Stmt := (inClass (top 23)).getD 0 (.Pass ⟨0, 0, 0, 0⟩)
theorem sc_Scanner___init__ : FnScope ["self", "text"] ["self", "text"] (defScope s_Scanner___init__) := ⟨rfl, rfl, rfl, by decide +kernel, rfl, by decide +kernel, by decide +kernel⟩
abbrev s_Scanner_takes : Stmt := (inClass (top 23)).getD 1 (.Pass ⟨0, 0, 0, 0⟩)
theorem sc_Scanner_takes : FnScope ["self", "sign"] ["self", "sign"] (defScope s_Scanner_takes) := ⟨rfl, rfl, rfl, by decide +kernel, rfl, by decide +kernel, by decide +kernel⟩
abbrev s_Scanner_needs : Stmt := (inClass (top 23)).getD 2 (.Pass ⟨0, 0, 0, 0⟩)
theorem sc_Scanner_needs : FnScope ["self", "sign"] ["self", "sign"] (defScope s_Scanner_needs) := ⟨rfl, rfl, rfl, by decide +kernel, rfl, by decide +kernel, by decide +kernel⟩
abbrev s_Scanner_ends : Stmt := (inClass (top 23)).getD 3 (.Pass ⟨0, 0, 0, 0⟩)
theorem sc_Scanner_ends : FnScope ["self"] ["self"] (defScope s_Scanner_ends) := ⟨rfl, rfl, rfl, by decide +kernel, rfl, by decide +kernel, by decide +kernel⟩
abbrev s_Scanner_run_of : Stmt := (inClass (top 23)).getD 4 (.Pass ⟨0, 0, 0, 0⟩)
theorem sc_Scanner_run_of : FnScope ["self", "signs", "start"] ["self", "signs"] (defScope s_Scanner_run_of) := ⟨rfl, rfl, rfl, by decide +kernel, rfl, by decide +kernel, by decide +kernel⟩
abbrev s_Scanner_letters : Stmt := (inClass (top 23)).getD 5 (.Pass ⟨0, 0, 0, 0⟩)
theorem sc_Scanner_letters : FnScope ["self"] ["self"] (defScope s_Scanner_letters) := ⟨rfl, rfl, rfl, by decide +kernel, rfl, by decide +kernel, by decide +kernel⟩
structure Bn (mg : Str → Option Value) : Prop where
  b_abs : mg "abs" = none
  b_all : mg "all" = none
  b_any : mg "any" = none
  b_bool : mg "bool" = none
  b_int : mg "int" = none
  b_isinstance : mg "isinstance" = none
  b_len : mg "len" = none
  b_list : mg "list" = none
  b_max : mg "max" = none
  b_min : mg "min" = none
  b_range : mg "range" = none
  b_set : mg "set" = none
  b_sorted : mg "sorted" = none
  b_str : mg "str" = none
  b_tuple : mg "tuple" = none
  b_zip : mg "zip" = none
end My
namespace My
open PySem L2
/-! the tray of draws -/
structure TrayP (H : Hp) (d g : Addr) (ns : List Int) (cur fold k n : Int) : Prop where
  d : H d = some (.lst [.ref g, .int cur, .int fold, .int k])
  g : H g = some (.lst (ns.map V.int))
  pos : ∀ x ∈ ns, 0 ≤ x
  c0 : 0 ≤ cur
  f0 : 0 ≤ fold
  f1 : fold < 2305843009213693951
  k0 : 0 ≤ k
  k1 : k ≤ n
def Tray (H : Hp) (d g : Addr) (n : Int) : Prop := ∃ ns cur fold k, TrayP H d g ns cur fold k n
theorem TrayP.ne {H : Hp} {d g : Addr} {ns : List Int} {cur fold k n : Int} (D : TrayP H d g ns cur fold k n) : d ≠ g := by
  refine ne_of D.d D.g fun e => ?_
  injection e with e
  cases ns with
  | nil => cases e
  | cons x r => rw [List.map_cons] at e; cases e
theorem TrayP.same {H H' : Hp} {d g : Addr} {ns : List Int} {cur fold k n : Int} (D : TrayP H d g ns cur fold k n) (s : Same H H') : TrayP H' d g ns cur fold k n :=
  ⟨s _ _ D.d, s _ _ D.g, D.pos, D.c0, D.f0, D.f1, D.k0, D.k1⟩
theorem TrayP.new {H : Hp} {d g p : Addr} {ns : List Int} {cur fold k n : Int} {o : HO} (D : TrayP H d g ns cur fold k n) (hp : H p = none) : TrayP (upd H p o) d g ns cur fold k n := D.same (same_new hp o)
theorem Tray.same {H H' : Hp} {d g : Addr} {n : Int} (D : Tray H d g n) (s : Same H H') : Tray H' d g n := by
  obtain ⟨ns, cur, fold, k, D⟩ := D
  exact ⟨ns, cur, fold, k, D.same s⟩
theorem Tray.new {H : Hp} {d g p : Addr} {n : Int} {o : HO} (D : Tray H d g n) (hp : H p = none) : Tray (upd H p o) d g n := D.same (same_new hp o)
theorem Tray.le {H : Hp} {d g : Addr} {n m : Int} (D : Tray H d g n) (h : n ≤ m) : Tray H d g m := by
  obtain ⟨ns, cur, fold, k, D⟩ := D
  exact ⟨ns, cur, fold, k, D.d, D.g, D.pos, D.c0, D.f0, D.f1, D.k0, Int.le_trans D.k1 h⟩
theorem Tray.tups {H H' : Hp} {d g : Addr} {n : Int} (D : Tray H d g n) (b : But d g H H') : Tups H H' := by
  obtain ⟨ns, cur, fold, k, D⟩ := D
  exact fun a xs e => b a _ (ne_of e D.d (by intro z; cases z)) (ne_of e D.g (by intro z; cases z)) e
theorem Tray.ne {H : Hp} {d g p : Addr} {n : Int} (D : Tray H d g n) (h : H p = none) : p ≠ d ∧ p ≠ g := by
  obtain ⟨ns, cur, fold, k, D⟩ := D
  exact ⟨(ne_of_none D.d h).symm, (ne_of_none D.g h).symm⟩
theorem Tray.at {H : Hp} {d g p : Addr} {n : Int} {o : HO} (D : Tray H d g n) (h1 : p ≠ d) (h2 : p ≠ g) : Tray (upd H p o) d g n := by
  obtain ⟨ns, cur, fold, k, D⟩ := D
  exact ⟨ns, cur, fold, k, by rw [upd_ne h1.symm]; exact D.d, by rw [upd_ne h2.symm]; exact D.g, D.pos, D.c0, D.f0, D.f1, D.k0, D.k1⟩
/-- _law_tray -/
def spTray (K : PySem.W.Frag) : Sp := fun vs H Q _ => ∃ (a : Addr) (ns : List Int), vs = [.ref a] ∧ SqL K H a (ns.map V.int) ∧ ns.length ≤ 63 ∧
  ∀ (d g : Addr) (H' : Hp), H d = none → H g = none → Tray H' d g 0 → Same H H' → Q (.ref d) H'
def Ptray (a g : Addr) (H0 : Hp) (i : Nat) (σ : St) (H : Hp) : Prop :=
  ∃ (gs : List Int) (fold : Int) (u1 u2 : Option V), σ = [some (.ref a), some (.int fold), some (.ref g), u1, u2] ∧ H0 g = none ∧ H g = some (.lst (gs.map V.int)) ∧ gs.length ≤ i ∧
    (∀ x ∈ gs, 0 ≤ x) ∧ 0 ≤ fold ∧ fold < 2305843009213693951 ∧ Same H0 H
/-- _law_draw -/
def spDraw : Sp := fun vs H Q _ => ∃ (d g : Addr) (many n : Int), vs = [.ref d, .int many] ∧ Tray H d g n ∧ 0 < many ∧ many ≤ 1000000000000000000 ∧ n ≤ 1000000 ∧
  ∀ (r : Int) (H' : Hp), 0 ≤ r → r < many → Tray H' d g (n + 1) → But d g H H' → Q (.int r) H'
def Wdraw (d g : Addr) (many n : Int) (H0 : Hp) (m : Nat) (σ : St) (H : Hp) : Prop :=
  σ = [some (.ref d), some (.int many), none, none] ∧ ∃ ns cur fold k, TrayP H d g ns cur fold k n ∧ But d g H0 H ∧ m = ns.length
theorem seq0 {α : Type} {x : α} {r : List α} : seqIndex? 0 (x :: r).length = some 0 := (ixN_seq (n := (x :: r).length) (i := 0) (by
  unfold ixN
  rw [if_pos (by decide), if_pos (by rw [List.length_cons]; omega)]
  rfl)).1
theorem pow61 : (2 : Int) ^ (61 : Int).toNat - 1 = 2305843009213693951 := by decide
theorem pow18 : (10 : Int) ^ (18 : Int).toNat = 1000000000000000000 := by decide
section
variable {P : Program} {w : World} {K : PySem.W.Frag} {mg : Str → Option Value} {base : Heap} {f : Addr} {fd : FuncData}
theorem ok_tray (B : Bn mg) (F : Fun K "_law_tray" "_law_tray" s__law_tray f fd) : FnOk P w K mg base CX0 1 f fd ["script"] (spTray K) := by
  refine F.ok sc__law_tray (fun vs H Q E h => ?_) (fun cdv A outer s H vs Q E hr h => ?_)
  · obtain ⟨a, ns, rfl, _⟩ := h
    rfl
  obtain ⟨a, ns, rfl, hS, h63, q⟩ := h
  refine ⟨_, (pss_cons (ps_set (i := 1) sc__law_tray.nd rfl (Or.inl rfl) pe_int)
    (pss_cons (ps_set (i := 2) sc__law_tray.nd rfl (Or.inl rfl) (pe_lst pa_nil))
    (pss_cons (ps_for PassesOwn.never rfl (piL K rfl (pv 0)) (pg_name (i := 3) sc__law_tray.nd rfl (Or.inl rfl)) (pss_cons (ps_set (i := 1) sc__law_tray.nd rfl (Or.inl rfl) (pe_op op_mod (pe_op op_add (pe_op op_mul (pv 1) pe_int) (pv 3)) (pe_op op_sub (pe_op op_pow pe_int pe_int) pe_int)))
    (pss_cons (ps_set (i := 4) sc__law_tray.nd rfl (Or.inl rfl) (pe_callB (call_max2 rfl) (by rfl) B.b_max (by decide +kernel) (pa_cons (pv 3) (pa_cons (pe_op op_sub pe_int (pv 3)) pa_nil))))
    (pss_one (ps_if (pt_cmpR op_ge (pv 4) (pe_op op_pow pe_int pe_int) (nomark _)) (pss_one (ps_expr (pe_bm PySem.F.plainAttrs_list PySem.F.slot_list_append PySem.F.type_list_append mt_append (pv 2) (pa_cons (pe_op op_sub (pv 4) (pe_op op_pow pe_int pe_int)) pa_nil)))) pss_nil)))))
    (pss_one (ps_ret (pe_lst (pa_cons (pv 2) (pa_cons pe_int (pa_cons (pv 1) (pa_cons pe_int pa_nil)))))))))), ?_⟩
  refine ⟨Nat.zero_le _, fun g hg => ?_⟩
  refine ⟨_, rfl, a, rfl, ⟨_, (same_new hg _).seq hS⟩, for_list (xs := ns.map V.int) (Ptray a g H) ?_ ?_ ?_ ?_⟩
  · exact ⟨[], 314159265358979, none, none, rfl, hg, upd_same, Nat.le_refl _, fun x hx => by simp at hx, by decide, by decide, same_new hg _⟩
  · rintro i σ H1 _ ⟨gs, fold, u1, u2, rfl, h0, h1, h2, h3, h4, h5, h6⟩
    exact h6.seq hS
  · rintro i x σ H1 hx ⟨gs, fold, u1, u2, rfl, h0, h1, h2, h3, h4, h5, h6⟩
    rw [List.getElem?_map] at hx
    obtain ⟨c, hc, rfl⟩ := Option.map_eq_some_iff.mp hx
    have hi : i < ns.length := (List.getElem?_eq_some_iff.mp hc).1
    have f0 : 0 ≤ (fold * 1000003 + c) % 2305843009213693951 := Int.emod_nonneg _ (by decide)
    have f1 : (fold * 1000003 + c) % 2305843009213693951 < 2305843009213693951 := Int.emod_lt_of_pos _ (by decide)
    refine ⟨_, rfl, _, _, rfl, rfl, .inl ⟨by omega, by omega⟩, _, rfl, _, _, rfl, rfl, _, _, rfl, rfl, ⟨by decide, by decide, by decide⟩, _, _, rfl, rfl, _, _, rfl, rfl,
      (show (0 : Int) < (2 : Int) ^ (61 : Int).toNat - 1 by decide), ?_⟩
    rw [pow61]
    refine ⟨_, rfl, _, rfl, _, _, rfl, rfl, c, 0 - c, rfl, ?_⟩
    have emax : ∃ mx : Int, (if 0 - c > c then 0 - c else c) = mx := ⟨_, rfl⟩
    obtain ⟨mx, emax⟩ := emax
    rw [emax]
    refine ⟨_, rfl, _, _, rfl, rfl, ⟨by decide, by decide, by decide⟩, _, _, rfl, rfl, _, rfl, ?_⟩
    rw [pow18]
    refine ite2 (fun hc1 => ?_) (fun hc1 => ?_)
    · refine ⟨_, rfl, tyL h1, _, rfl, _, _, rfl, rfl, ⟨by decide, by decide, by decide⟩, _, _, rfl, rfl, g, _, _, rfl, rfl, h1, ?_, ?_⟩
      · rw [List.length_map]
        exact small1000 (by omega)
      · have hc2 := of_decide_eq_true hc1
        refine ⟨gs ++ [mx - (10 : Int) ^ (18 : Int).toNat], _, _, _, rfl, h0, ?_, ?_, ?_, f0, f1, Same.atNew h6 h0⟩
        · rw [upd_same, List.map_append]
          rfl
        · rw [List.length_append, List.length_singleton]
          omega
        · intro y hy
          rw [pow18] at hy
          rcases List.mem_append.mp hy with hy | hy
          · exact h3 y hy
          · have : y = mx - 1000000000000000000 := by simpa using hy
            omega
    · exact ⟨gs, _, _, _, rfl, h0, h1, by omega, h3, f0, f1, h6⟩
  · rintro σ H1 ⟨gs, fold, u1, u2, rfl, h0, h1, h2, h3, h4, h5, h6⟩
    refine ⟨_, rfl, _, rfl, by show 4 ≤ sizeLine; decide, fun d hd => ?_⟩
    exact q d g _ (h6.free hd) h0 ⟨gs, 0, fold, 0, upd_same, by rw [upd_ne (ne_of_none h1 hd)]; exact h1, h3, Int.le_refl _, h4, h5, Int.le_refl _, Int.le_refl _⟩ (h6.trans (same_new hd _))
theorem ok_draw (F : Fun K "_law_draw" "_law_draw" s__law_draw f fd) : FnOk P w K mg base CX0 1 f fd ["tray", "many"] spDraw := by
  refine F.ok sc__law_draw (fun vs H Q E h => ?_) (fun cdv A outer s H vs Q E hr h => ?_)
  · obtain ⟨d, g, many, n, rfl, _⟩ := h
    rfl
  obtain ⟨d, g, many, n, rfl, D, h0, h1, h2, q⟩ := h
  refine ⟨_, (pss_cons (ps_while PassesOwn.never (PW.pt (pw_and (pt_cmpR op_lt (pe_ix (ixL K rfl) (pv 0) pe_int (fun _ _ => rfl)) pe_int (nomark _)) (pw_and1 (pt_cmpR (neD K rfl hr.units) (pe_ix (ixL K rfl) (pv 0) pe_int (fun _ _ => rfl)) (pe_lst pa_nil) (nomark _))))) (pss_one (ps_asg (pe_bm PySem.F.plainAttrs_list PySem.F.slot_list_pop PySem.F.type_list_pop mt_popAt (pe_ix (ixL K rfl) (pv 0) pe_int (fun _ _ => rfl)) (pa_cons pe_int pa_nil)) (pg_sub (pv 0) pe_int set_list))))
    (pss_cons (ps_if (pt_cmpR op_ge (pe_ix (ixL K rfl) (pv 0) pe_int (fun _ _ => rfl)) pe_int (nomark _)) (pss_cons (ps_set (i := 3) sc__law_draw.nd rfl (Or.inl rfl) (pe_op op_mod (pe_ix (ixL K rfl) (pv 0) pe_int (fun _ _ => rfl)) (pv 1)))
    (pss_cons (ps_asg (pe_op op_fdivW (pe_ix (ixL K rfl) (pv 0) pe_int (fun _ _ => rfl)) (pv 1)) (pg_sub (pv 0) pe_int set_list))
    (pss_one (ps_ret (pv 3))))) pss_nil)
    (pss_cons (ps_asg (pe_op op_add (pe_ix (ixL K rfl) (pv 0) pe_int (fun _ _ => rfl)) pe_int) (pg_sub (pv 0) pe_int set_list))
    (pss_cons (ps_set (i := 2) sc__law_draw.nd rfl (Or.inl rfl) (pe_op op_mod (pe_op op_add (pe_op op_mul (pe_op op_add (pe_ix (ixL K rfl) (pv 0) pe_int (fun _ _ => rfl)) pe_int) (pe_op op_pow (pe_op op_add (pe_ix (ixL K rfl) (pv 0) pe_int (fun _ _ => rfl)) pe_int) pe_int)) (pe_op op_mul pe_int (pe_ix (ixL K rfl) (pv 0) pe_int (fun _ _ => rfl)))) (pe_op op_sub (pe_op op_pow pe_int pe_int) pe_int)))
    (pss_one (ps_ret (pe_op op_mod (pe_op op_fdiv (pe_op op_mod (pe_op op_pow (pv 2) pe_int) (pe_op op_add (pe_op op_pow pe_int pe_int) pe_int)) pe_int) (pv 1)))))))), ?_⟩
  obtain ⟨ns0, cur0, fold0, k0, D0⟩ := D
  refine seq_abs (fun σ' H' => ∃ m, Wdraw d g many n H m σ' H') (fun σ1 H1 w1 => ?_) (fun nx hnx => ?_)
  · obtain ⟨_, rfl, ns, cur, fold, k, D1, B1, _⟩ := w1
    refine ⟨_, rfl, _, _, _, _, rfl, rfl, SqL.of D1.d, by rfl, _, _, rfl, rfl, _, rfl, ite2 (fun c => ?_) (fun c => ?_)⟩
    · refine ⟨_, rfl, _, _, _, _, rfl, rfl, SqL.of D1.d, by rfl, _, rfl, _, _, rfl, rfl, h0, ?_⟩
      refine ⟨_, rfl, _, _, _, _, rfl, rfl, SqL.of D1.d, by rfl, _, rfl, _, _, rfl, rfl, wide_div (b := 60) h0 (by omega) (by decide) (by decide), _, rfl, _, _, _, 1, rfl, rfl, D1.d, by rfl, _, rfl, ?_⟩
      exact q _ _ (Int.emod_nonneg _ (by omega)) (Int.emod_lt_of_pos _ h0) ⟨ns, cur / many, fold, k, upd_same, by rw [upd_ne D1.ne.symm]; exact D1.g, D1.pos, Int.ediv_nonneg D1.c0 (by omega), D1.f0, D1.f1, D1.k0, by have := D1.k1; omega⟩ B1.atD
    have e0 := D1.k0
    have e1 := D1.k1
    have e2 := D1.f0
    have e3 := D1.f1
    refine ⟨_, rfl, _, _, _, _, rfl, rfl, SqL.of D1.d, by rfl, _, _, rfl, rfl, _, rfl, _, _, _, 3, rfl, rfl, D1.d, by rfl, ?_⟩
    have hd : (upd H1 d (.lst ([V.ref g, V.int cur, V.int fold, V.int k].set 3 (V.int (k + 1))))) d = some (.lst [V.ref g, V.int cur, V.int fold, V.int (k + 1)]) := upd_same
    have D2 : TrayP (upd H1 d (.lst ([V.ref g, V.int cur, V.int fold, V.int k].set 3 (V.int (k + 1))))) d g ns cur fold (k + 1) (n + 1) := ⟨hd, by rw [upd_ne D1.ne.symm]; exact D1.g, D1.pos, D1.c0, e2, e3, by omega, by omega⟩
    have B2 : But d g H (upd H1 d (.lst ([V.ref g, V.int cur, V.int fold, V.int k].set 3 (V.int (k + 1))))) := B1.atD
    refine ⟨_, rfl, _, _, _, _, rfl, rfl, SqL.of hd, by rfl, _, _, rfl, rfl, ?_⟩
    refine ⟨_, rfl, _, _, _, _, rfl, rfl, SqL.of hd, by rfl, _, _, rfl, rfl, _, _, rfl, rfl, ⟨by decide, by decide, by show (k + 1 + 2 : Int).natAbs < 2 ^ 64; omega⟩, _, _, rfl, rfl, .inl ⟨?_, ?_⟩, ?_⟩
    · show -(2 ^ 64) < fold + 5
      omega
    · show fold + 5 < 2 ^ 64
      omega
    refine ⟨_, rfl, _, _, _, _, rfl, rfl, SqL.of hd, by rfl, _, _, rfl, rfl, .inl ⟨by decide, by decide⟩, _, _, rfl, rfl, _, _, rfl, rfl, ⟨by decide, by decide, by decide⟩, _, _, rfl, rfl, _, _, rfl, rfl,
      (show (0 : Int) < (2 : Int) ^ (61 : Int).toNat - 1 by decide), ?_⟩
    rw [pow61]
    generalize hz : ((fold + 5) * (k + 1 + 2) ^ (3 : Int).toNat + 1000003 * (k + 1)) % 2305843009213693951 = z
    have z0 : 0 ≤ z := by rw [← hz]; exact Int.emod_nonneg _ (by decide)
    have z1 : z < 2305843009213693951 := by rw [← hz]; exact Int.emod_lt_of_pos _ (by decide)
    refine ⟨_, rfl, _, _, rfl, rfl, ⟨by decide, by decide, by omega⟩, _, _, rfl, rfl, ⟨by decide, by decide, by decide⟩, _, _, rfl, rfl, _, _, rfl, rfl, (show (0 : Int) < (10 : Int) ^ (18 : Int).toNat + 9 by decide), _, _, rfl, rfl, ⟨by decide, by decide⟩, _, rfl, _, _, rfl, rfl, h0, ?_⟩
    exact q _ _ (Int.emod_nonneg _ (by omega)) (Int.emod_lt_of_pos _ h0) ⟨_, _, _, _, D2⟩ B2
  refine ⟨Wdraw d g many n H, ⟨ns0.length, rfl, ns0, cur0, fold0, k0, D0, But.refl _ _ _, rfl⟩, fun m σ H1 w1 => ?_⟩
  obtain ⟨rfl, ns, cur, fold, k, D1, B1, rfl⟩ := w1
  refine ⟨_, rfl, _, _, _, _, rfl, rfl, SqL.of D1.d, by rfl, _, _, rfl, rfl, _, rfl, ite2 (fun c => ?_) (fun c => ?_)⟩
  · refine ⟨_, rfl, _, _, _, _, rfl, rfl, SqL.of D1.d, by rfl, Nat.zero_le _, fun p hp => ?_⟩
    have D2 := D1.new (o := .lst []) hp
    have B2 := B1.new (o := .lst []) hp
    refine ⟨.list (ns.map PyData.int), .list [], .lst (SqL.of D2.g) (dp_ints ns), .lst (SqL.of upd_same) .nil, shaped_ints ns, rfl, _, rfl, ?_⟩
    rw [eqv_nil]
    generalize upd H1 p (.lst []) = H2 at D2 B2
    clear D1 B1 hp
    cases ns with
    | nil => exact iteF (hnx _ _ ⟨0, rfl, [], cur, fold, k, D2, B2, rfl⟩)
    | cons x r =>
      refine iteT ?_
      refine ⟨fun σ' H' => ∃ m', m' < (x :: r).length ∧ Wdraw d g many n H m' σ' H', fun _ _ h => h, ?_⟩
      refine ⟨_, rfl, _, _, _, _, rfl, rfl, SqL.of D2.d, by rfl, tyL D2.g, g, _, 0, 0, .int x, rfl, rfl, D2.g, by decide, by decide, seq0, rfl, ?_⟩
      refine ⟨_, rfl, _, _, _, 1, rfl, rfl, (by rw [upd_ne D2.ne]; exact D2.d), by rfl, ?_⟩
      refine ⟨r.length, by simp, rfl, r, x, fold, k, ?_, B2.atG.atD, rfl⟩
      exact ⟨upd_same, by rw [upd_ne D2.ne.symm, upd_same]; rfl, fun y hy => D2.pos y (by simp [hy]), D2.pos x (by simp), D2.f0, D2.f1, D2.k0, D2.k1⟩
  · exact iteF (hnx _ _ ⟨_, rfl, ns, cur, fold, k, D1, B1, rfl⟩)
end
end My
namespace My
open PySem L2
/-! texts of small letters -/
def LtA (z : Str) : Prop := ∀ c ∈ z.cps.toList, 97 ≤ c ∧ c ≤ 122
def LtS (z : Str) : Prop := z.length ≤ 8 ∧ LtA z
/-- a name -/
def Nm (z : Str) : Prop := LtS z ∧ z ≠ "" ∧ z ≠ "num" ∧ z ≠ "text"
theorem LtA.app {x y : Str} (a : LtA x) (b : LtA y) : LtA (x ++ y) := fun c h => by
  have h : c ∈ (x.cps ++ y.cps).toList := h
  rw [Array.toList_append] at h
  rcases List.mem_append.mp h with h | h
  · exact a c h
  · exact b c h
theorem LtA.cut {z : Str} (a : LtA z) (lo hi : Option Int) : LtA (cutS z lo hi) := fun c h => by
  have h : c ∈ (z.cps.toList.drop (HT.sIx z.length 0 lo)).take (HT.sIx z.length z.length hi - HT.sIx z.length 0 lo) := by
    have e : (cutS z lo hi).cps.toList = (z.cps.toList.drop (HT.sIx z.length 0 lo)).take (HT.sIx z.length z.length hi - HT.sIx z.length 0 lo) := by
      unfold cutS
      simp
    rw [e] at h
    exact h
  exact a c (List.mem_of_mem_drop (List.mem_of_mem_take h))
theorem LtA.one {c : Nat} (h0 : 97 ≤ c) (h1 : c ≤ 122) : LtA ⟨#[c]⟩ := fun x h => by
  have : x = c := by simpa using h
  omega
theorem LtA.nil : LtA "" := fun c h => by
  have h : c ∈ ([] : List Nat) := h
  cases h
theorem len_app (x y : Str) : (x ++ y).length = x.length + y.length := by
  show (x.cps ++ y.cps).size = _
  rw [Array.size_append]
  rfl
theorem cut8 (z : Str) : (cutS z none (some 8)).length ≤ 8 := by
  have e : (cutS z none (some 8)).length = ((z.cps.toList.drop (HT.sIx z.length 0 none)).take (HT.sIx z.length z.length (some ((8 : Nat) : Int)) - HT.sIx z.length 0 none)).length := by
    unfold cutS
    show (List.toArray _).size = _
    rw [List.size_toArray]
    rfl
  rw [e, List.length_take, HT.sIx_nat, HT.sIx_none]
  omega
theorem join_lt : ∀ ys : List Str, (∀ y ∈ ys, LtA y) → LtA (Str.join "" ys)
  | [], _ => LtA.nil
  | [x], h => h x (by simp)
  | x :: y :: r, h => ((h x (by simp)).app LtA.nil).app (join_lt (y :: r) fun z hz => h z (by simp [hz]))
theorem join_len : ∀ ys : List Str, (Str.join "" ys).length = (ys.map (·.length)).sum
  | [] => rfl
  | [x] => by simp [Str.join]
  | x :: y :: r => by
    have ih := join_len (y :: r)
    show ((x ++ "") ++ Str.join "" (y :: r)).length = _
    rw [len_app, len_app, ih, List.map_cons, List.sum_cons]
    rfl
abbrev abc : Str := "abcdefghijklmnopqrstuvwxyz"
theorem abc_list : abc.cps.toList = (List.range 26).map (fun k => 97 + k) := by decide +kernel
theorem abc_at {r : Int} (h0 : 0 ≤ r) (h1 : r < 26) : atI abc.cps.toList r = some (97 + r.toNat) := by
  have e : r = ((r.toNat : Nat) : Int) := by omega
  rw [abc_list]
  have h : ((List.range 26).map (fun k => 97 + k))[r.toNat]? = some (97 + r.toNat) := by
    rw [List.getElem?_map, List.getElem?_range (by omega)]
    rfl
  rw [e]
  exact atI_nat h
theorem abc_len : abc.length ≤ sizeLine := by decide
/-- some = [..]: texts made by a turn's number -/
def Pf (H0 : Hp) (D : Addr) (f : Nat → Str) (i : Nat) (H : Hp) : Prop := Same H0 H ∧ H D = some (.lst (((List.range i).map f).map V.str))
theorem Pf.next {H0 H : Hp} {D : Addr} {f : Nat → Str} {i : Nat} (p : Pf H0 D f i H) (n : H0 D = none) : Pf H0 D f (i + 1) (upd H D (.lst ((((List.range i).map f).map V.str) ++ [.str (f i)]))) := by
  refine ⟨Same.atNew p.1 n, ?_⟩
  rw [upd_same, List.range_succ, List.map_append, List.map_append]
  rfl
def one1 (k : Nat) : Str := ⟨#[97 + k]⟩
theorem one1_inj {a b : Nat} (h : one1 a = one1 b) : a = b := by
  have e : #[97 + a] = #[97 + b] := congrArg Str.cps h
  simp at e
  exact e
/-- a list without what stands twice, all in another one, is no longer -/
theorem nodup_len {α : Type} [DecidableEq α] : ∀ {l m : List α}, l.Nodup → (∀ x ∈ l, x ∈ m) → l.length ≤ m.length
  | [], _, _, _ => Nat.zero_le _
  | x :: r, m, h, s => by
    have hx := s x (by simp)
    have hr := (List.nodup_cons.mp h)
    have ih := nodup_len (l := r) (m := m.erase x) hr.2 fun y hy => by
      have hne : y ≠ x := fun e => hr.1 (e ▸ hy)
      exact (List.mem_erase_of_ne hne).mpr (s y (by simp [hy]))
    rw [List.length_erase_of_mem hx] at ih
    have := List.length_pos_of_mem hx
    rw [List.length_cons]
    omega
abbrev taken : List Str := ["", "num", "text"]
def keepN (us : List Str) (s : Str) : Bool := !inV (.str s) (us.map V.str ++ [.str "", .str "num", .str "text"])
theorem inV_str {s : Str} {us : List Str} : inV (.str s) (us.map V.str) = decide (s ∈ us) := by
  induction us with
  | nil => rfl
  | cons x r ih =>
    have e : inV (.str s) ((x :: r).map V.str) = (eqV (.str x) (.str s) || inV (.str s) (r.map V.str)) := rfl
    rw [e, ih]
    show ((x == s) || decide (s ∈ r)) = _
    by_cases h : x = s
    · subst h; simp
    · have h2 : ¬ s = x := fun z => h z.symm
      simp [h, h2]
theorem keepN_iff {us : List Str} {s : Str} : keepN us s = true ↔ s ∉ us ++ taken := by
  unfold keepN
  have e : us.map V.str ++ [.str "", .str "num", .str "text"] = (us ++ taken).map V.str := by rw [List.map_append]; rfl
  rw [e, inV_str]
  simp
theorem some_kept {us : List Str} (h : us.length ≤ 22) (ss : List Str) (hs : ∀ k, k < 26 → one1 k ∈ ss) : ∃ z r, ss.filter (keepN us) = z :: r := by
  cases e : ss.filter (keepN us) with
  | cons z r => exact ⟨z, r, rfl⟩
  | nil =>
    exfalso
    have all : ∀ x ∈ (List.range 26).map one1, x ∈ us ++ taken := fun x hx => by
      obtain ⟨k, hk, rfl⟩ := List.mem_map.mp hx
      have hm := hs k (List.mem_range.mp hk)
      have hn := List.filter_eq_nil_iff.mp e _ hm
      rw [keepN_iff] at hn
      exact Classical.byContradiction hn
    have nd : ((List.range 26).map one1).Nodup := by
      rw [List.nodup_iff_pairwise_ne, List.pairwise_map]
      exact (List.nodup_range (n := 26)).imp fun h z => h (one1_inj z)
    have := nodup_len nd all
    rw [List.length_map, List.length_range, List.length_append] at this
    have e3 : taken.length = 3 := rfl
    omega
end My
namespace My
open PySem L2
/-! texts: helpers -/
theorem sum_ones : ∀ {ys : List Str}, (∀ y ∈ ys, LtA y ∧ y.length = 1) → (ys.map (·.length)).sum = ys.length
  | [], _ => rfl
  | x :: r, h => by
    rw [List.map_cons, List.sum_cons, sum_ones (ys := r) fun y hy => h y (by simp [hy]), (h x (by simp)).2, List.length_cons]
    omega
theorem dp_strs {K : PySem.W.Frag} {H : Hp} (us : List Str) : DpAll K H (us.map V.str) (us.map PyData.str) := by
  induction us with
  | nil => exact .nil
  | cons x r ih => exact .cons (.str x) ih
theorem eqv_nils (us : List Str) : PyData.eqv (.list (us.map PyData.str)) (.list []) = us.isEmpty := by
  cases us with
  | nil => simp [PyData.eqv, PyData.eqvAll]
  | cons x r => simp [PyData.eqv, PyData.eqvAll]
theorem strOk_lt {x : Str} (h : LtA x) : PyData.strOk x = true := by
  unfold PyData.strOk
  rw [← Array.all_toList, List.all_eq_true]
  intro c hc
  have := h c hc
  exact decide_eq_true (by omega)
theorem shaped_strs {us : List Str} (h : ∀ x ∈ us, LtA x) : SeqAt.shaped (.list (us.map PyData.str)) = true := by
  have a : PyData.canLayAll0 (us.map PyData.str) = true := by
    induction us with
    | nil => rfl
    | cons x r ih =>
      rw [List.map_cons, PyData.canLayAll0, ih fun y hy => h y (by simp [hy]), PyData.canLay0, strOk_lt (h x (by simp))]
      rfl
  have b : PyData.depthAll (us.map PyData.str) = 0 := by
    clear a
    induction us with
    | nil => rfl
    | cons x r ih =>
      rw [List.map_cons, PyData.depthAll, ih fun y hy => h y (by simp [hy])]
      rfl
  unfold SeqAt.shaped
  rw [PyData.canLay0, a, PyData.depth, b]
  rfl
theorem filt1 {α : Type} {p : α → Bool} {x : α} (h : p x = true) : [x].filter p = [x] := by simp [h]
theorem filt0 {α : Type} {p : α → Bool} {x : α} (h : p x = false) : [x].filter p = [] := by simp [h]
theorem str_at {us : List Str} {r : Int} (h0 : 0 ≤ r) (h1 : r < (us.length : Int)) : ∃ x : Str, atI (us.map V.str) r = some (.str x) ∧ x ∈ us := by
  have e : r = ((r.toNat : Nat) : Int) := by omega
  have hl : r.toNat < us.length := by omega
  refine ⟨us[r.toNat], ?_, List.getElem_mem hl⟩
  exact at_of e (by rw [List.getElem?_map, List.getElem?_eq_getElem hl]; rfl)
end My
namespace My
open PySem L2
/-- _law_name -/
def spName : Sp := fun vs H Q _ => ∃ (d g u : Addr) (n : Int) (us : List Str), vs = [.ref d, .ref u] ∧ Tray H d g n ∧ n ≤ 900000 ∧ u ≠ d ∧ u ≠ g ∧ H u = some (.lst (us.map V.str)) ∧ us.length ≤ 22 ∧ (∀ x ∈ us, LtS x) ∧
  ∀ (z : Str) (H' : Hp), Nm z → z ∉ us → Tray H' d g (n + 20) → But d g H H' → Q (.str z) H'
def Plet (d g D8 : Addr) (n : Int) (H0 : Hp) (i : Nat) (H : Hp) : Prop := But d g H0 H ∧ Tray H d g (n + (i : Int)) ∧ ∃ ys : List Str, H D8 = some (.lst (ys.map V.str)) ∧ ys.length = i ∧ (∀ y ∈ ys, LtA y ∧ y.length = 1)
def Pkeep (H0 : Hp) (D8 : Addr) (us ss : List Str) (i : Nat) (H : Hp) : Prop := Same H0 H ∧ H D8 = some (.lst (((ss.take i).filter (keepN us)).map V.str))
abbrev hints : List Str := ["under", "record", "door", "choice", "hidden", "look", "one", "new", "as", "ask", "none", "ok"]
theorem hints_ok : ∀ x ∈ hints, LtS x := by
  intro x hx
  have : (x.length ≤ 8 ∧ x.cps.toList.all fun c => decide (97 ≤ c ∧ c ≤ 122)) := by
    simp only [hints, List.mem_cons, List.mem_nil_iff, or_false] at hx
    rcases hx with rfl | rfl | rfl | rfl | rfl | rfl | rfl | rfl | rfl | rfl | rfl | rfl <;> decide +kernel
  refine ⟨this.1, fun c hc => ?_⟩
  have := List.all_eq_true.mp this.2 c hc
  exact of_decide_eq_true this
theorem mul3 (c : Nat) : Txt.mul ⟨#[c]⟩ 3 = ⟨#[c, c, c]⟩ := rfl
theorem mul5 (c : Nat) : Txt.mul ⟨#[c]⟩ 5 = ⟨#[c, c, c, c, c]⟩ := rfl
def one2 (k : Nat) : Str := ⟨#[97 + k]⟩ ++ ⟨#[97 + (25 - k)]⟩
def one3 (k : Nat) : Str := Txt.mul ⟨#[97 + k]⟩ 3
def one5 (k : Nat) : Str := Txt.mul ⟨#[97 + k]⟩ 5
theorem ones_ok {k : Nat} (h : k < 26) : LtS (one1 k) ∧ LtS (one2 k) ∧ LtS (one3 k) ∧ LtS (one5 k) := by
  refine ⟨⟨by show 1 ≤ 8; decide, LtA.one (by omega) (by omega)⟩, ⟨by show 2 ≤ 8; decide, (LtA.one (by omega) (by omega)).app (LtA.one (by omega) (by omega))⟩, ⟨by show 3 ≤ 8; decide, fun c hc => ?_⟩, ⟨by show 5 ≤ 8; decide, fun c hc => ?_⟩⟩
  · unfold one3 at hc
    rw [mul3] at hc
    simp at hc
    omega
  · unfold one5 at hc
    rw [mul5] at hc
    simp at hc
    omega
abbrev allSome (nm : Str) : List Str := (((([nm] ++ (List.range 26).map one1) ++ (List.range 26).map one2) ++ (List.range 26).map one3) ++ (List.range 26).map one5)
section
variable {P : Program} {w : World} {K : PySem.W.Frag} {mg : Str → Option Value} {base : Heap} {f : Addr} {fd : FuncData}
theorem ok_name (B : Bn mg) (F : Fun K "_law_name" "_law_name" s__law_name f fd) (c__law_draw : Cal P w K mg base "_law_draw" 1 ["tray", "many"] spDraw) : FnOk P w K mg base CX0 2 f fd ["tray", "used"] spName := by
  refine F.ok sc__law_name (fun vs H Q E h => ?_) (fun cdv A outer s H vs Q E hr h => ?_)
  · obtain ⟨d, g, u, n, us, rfl, _⟩ := h
    rfl
  obtain ⟨d, g, u, n, us, rfl, D, hn, nd, ng, hu, h22, hus, q⟩ := h
  refine ⟨_, (pss_cons (ps_set (i := 2) sc__law_name.nd rfl (Or.inr rfl) pe_str)
    (pss_cons (ps_set (i := 3) sc__law_name.nd rfl (Or.inl rfl) (pc c__law_draw (hr.mono (by first | decide | omega)) (pa_cons (pv 0) (pa_cons pe_int pa_nil))))
    (pss_cons (ps_set (i := 4) sc__law_name.nd rfl (Or.inl rfl) (pe_ix ix_str (pv 2) (pc c__law_draw (hr.mono (by first | decide | omega)) (pa_cons (pv 0) (pa_cons pe_int pa_nil))) (fun _ _ => rfl)))
    (pss_cons (ps_set (i := 5) sc__law_name.nd rfl (Or.inl rfl) (pe_join pe_str (pe_lc (own := [("k", 10)]) (g := (gName 10)) rfl sc__law_name.nd (pi_range1 rfl B.b_range (pa_cons (pe_op op_add pe_int (pc c__law_draw (hr.mono (by first | decide | omega)) (pa_cons (pv 0) (pa_cons pe_int pa_nil)))) pa_nil)) (blkOk_by (N := ["tray", "used", "letters", "way", "letter", "name", "some", "words", "old", "at", "k", "one"]) (sc := defScope s__law_name) (by decide +kernel)) (fun _ _ _ _ _ => (pg_name (i := 10) sc__law_name.nd rfl (Or.inl rfl) (hf := Or.inr rfl))) (fun _ _ _ _ _ => pts_nil) (fun _ _ _ _ _ => (pe_ix ix_str (pv 2) (pc c__law_draw (hr.mono (by first | decide | omega)) (pa_cons (pv 0) (pa_cons pe_int pa_nil))) (fun _ _ => rfl))))))
    (pss_cons (ps_if (pt_cmpR op_eq (pv 3) pe_int (nomark _)) (pss_cons (ps_set (i := 7) sc__law_name.nd rfl (Or.inl rfl) (pe_lst (pa_cons pe_str (pa_cons pe_str (pa_cons pe_str (pa_cons pe_str (pa_cons pe_str (pa_cons pe_str (pa_cons pe_str (pa_cons pe_str (pa_cons pe_str (pa_cons pe_str (pa_cons pe_str (pa_cons pe_str pa_nil))))))))))))))
    (pss_one (ps_set (i := 5) sc__law_name.nd rfl (Or.inl rfl) (pe_ix (ixL K rfl) (pv 7) (pc c__law_draw (hr.mono (by first | decide | omega)) (pa_cons (pv 0) (pa_cons pe_int pa_nil))) (fun _ _ => rfl))))) (pss_one (ps_if (PW.pt (pw_and (pt_cmpR op_gt (pv 3) pe_int (nomark _)) (pw_and1 (pt_cmpR (neD K rfl hr.units) (pv 1) (pe_lst pa_nil) (nomark _))))) (pss_cons (ps_set (i := 8) sc__law_name.nd rfl (Or.inl rfl) (pe_ix (ixL K rfl) (pv 1) (pc c__law_draw (hr.mono (by first | decide | omega)) (pa_cons (pv 0) (pa_cons (pe_callB (lenSeq K rfl) (by rfl) B.b_len PySem.boot_len (pa_cons (pv 1) pa_nil)) pa_nil))) (fun _ _ => rfl)))
    (pss_cons (ps_set (i := 9) sc__law_name.nd rfl (Or.inl rfl) (pc c__law_draw (hr.mono (by first | decide | omega)) (pa_cons (pv 0) (pa_cons (pe_op op_add (pe_callB call_len_str (by rfl) B.b_len PySem.boot_len (pa_cons (pv 8) pa_nil)) pe_int) pa_nil))))
    (pss_one (ps_set (i := 5) sc__law_name.nd rfl (Or.inl rfl) (pe_slice sl_str (pe_op op_add_str (pe_op op_add_str (pe_slice sl_str (pv 8) po_none (po_some (pv 9))) (pe_ix (ixL K rfl) (pe_lst (pa_cons (pv 4) (pa_cons (pv 4) (pa_cons pe_str pa_nil)))) (pe_op op_sub (pv 3) pe_int) (fun _ _ => rfl))) (pe_slice sl_str (pv 8) (po_some (pe_op op_add (pv 9) (pe_ix (ixL K rfl) (pe_lst (pa_cons pe_int (pa_cons pe_int (pa_cons pe_int pa_nil)))) (pe_op op_sub (pv 3) pe_int) (fun _ _ => rfl)))) po_none)) po_none (po_some pe_int)))))) pss_nil)))
    (pss_cons (ps_set (i := 6) sc__law_name.nd rfl (Or.inl rfl) (pe_op op_cat (pe_op op_cat (pe_lst (pa_cons (pv 5) pa_nil)) (pe_lc (own := [("k", 10)]) (g := (gName 10)) rfl sc__law_name.nd (pi_range1 rfl B.b_range (pa_cons pe_int pa_nil)) (blkOk_by (N := ["tray", "used", "letters", "way", "letter", "name", "some", "words", "old", "at", "k", "one"]) (sc := defScope s__law_name) (by decide +kernel)) (fun _ _ _ _ _ => (pg_name (i := 10) sc__law_name.nd rfl (Or.inl rfl) (hf := Or.inr rfl))) (fun _ _ _ _ _ => pts_nil) (fun _ _ _ _ _ => (pe_ix ix_str (pv 2) (pv 10) (fun _ _ => rfl))))) (pe_lc (own := [("k", 10)]) (g := (gName 10)) rfl sc__law_name.nd (pi_range1 rfl B.b_range (pa_cons pe_int pa_nil)) (blkOk_by (N := ["tray", "used", "letters", "way", "letter", "name", "some", "words", "old", "at", "k", "one"]) (sc := defScope s__law_name) (by decide +kernel)) (fun _ _ _ _ _ => (pg_name (i := 10) sc__law_name.nd rfl (Or.inl rfl) (hf := Or.inr rfl))) (fun _ _ _ _ _ => pts_nil) (fun _ _ _ _ _ => (pe_op op_add_str (pe_ix ix_str (pv 2) (pv 10) (fun _ _ => rfl)) (pe_ix ix_str (pv 2) (pe_op op_sub pe_int (pv 10)) (fun _ _ => rfl)))))))
    (pss_cons (ps_set (i := 6) sc__law_name.nd rfl (Or.inl rfl) (pe_op op_cat (pe_op op_cat (pv 6) (pe_lc (own := [("k", 10)]) (g := (gName 10)) rfl sc__law_name.nd (pi_range1 rfl B.b_range (pa_cons pe_int pa_nil)) (blkOk_by (N := ["tray", "used", "letters", "way", "letter", "name", "some", "words", "old", "at", "k", "one"]) (sc := defScope s__law_name) (by decide +kernel)) (fun _ _ _ _ _ => (pg_name (i := 10) sc__law_name.nd rfl (Or.inl rfl) (hf := Or.inr rfl))) (fun _ _ _ _ _ => pts_nil) (fun _ _ _ _ _ => (pe_op op_mul_str (pe_ix ix_str (pv 2) (pv 10) (fun _ _ => rfl)) pe_int)))) (pe_lc (own := [("k", 10)]) (g := (gName 10)) rfl sc__law_name.nd (pi_range1 rfl B.b_range (pa_cons pe_int pa_nil)) (blkOk_by (N := ["tray", "used", "letters", "way", "letter", "name", "some", "words", "old", "at", "k", "one"]) (sc := defScope s__law_name) (by decide +kernel)) (fun _ _ _ _ _ => (pg_name (i := 10) sc__law_name.nd rfl (Or.inl rfl) (hf := Or.inr rfl))) (fun _ _ _ _ _ => pts_nil) (fun _ _ _ _ _ => (pe_op op_mul_str (pe_ix ix_str (pv 2) (pv 10) (fun _ _ => rfl)) pe_int)))))
    (pss_one (ps_ret (pe_ix (ixL K rfl) (pe_lc (own := [("one", 11)]) (g := (gName 11)) rfl sc__law_name.nd (piL K rfl (pv 6)) (blkOk_by (N := ["tray", "used", "letters", "way", "letter", "name", "some", "words", "old", "at", "k", "one"]) (sc := defScope s__law_name) (by decide +kernel)) (fun _ _ _ _ _ => (pg_name (i := 11) sc__law_name.nd rfl (Or.inl rfl) (hf := Or.inr rfl))) (fun _ _ _ _ _ => (pts_one (pt_cmpR (notInSeq K rfl) (pv 11) (pe_op op_cat (pv 1) (pe_lst (pa_cons pe_str (pa_cons pe_str (pa_cons pe_str pa_nil))))) (by rfl)))) (fun _ _ _ _ _ => (pv 11))) pe_int (fun _ _ => rfl))))))))))), ?_⟩
  refine seq_set ?_
  dsimp only [tC]
  refine seq_set ?_
  refine ⟨_, rfl, d, g, 5, n, rfl, D, by decide, by decide, by omega, fun way H1 w0 w1 D1 B1 => ?_⟩
  dsimp only
  refine seq_set ?_
  refine ⟨_, rfl, _, rfl, d, g, 26, n + 1, rfl, D1, by decide, by decide, by omega, fun r2 H2 r0 r1 D2 B2 => ⟨_, _, _, rfl, rfl, abc_len, abc_at r0 r1, ?_⟩⟩
  have hlet : LtA (⟨#[97 + r2.toNat]⟩ : Str) := LtA.one (by omega) (by omega)
  have hlet1 : (⟨#[97 + r2.toNat]⟩ : Str).length = 1 := rfl
  generalize (⟨#[97 + r2.toNat]⟩ : Str) = letter at hlet hlet1
  dsimp only
  refine seq_set ?_
  refine ⟨⟨_, rfl⟩, _, rfl, d, g, 8, n + 1 + 1, rfl, D2, by decide, by decide, by omega, fun r3 H3 q0 q1 D3 B3 => ?_⟩
  have B03 := (B1.trans B2).trans B3
  refine ⟨_, _, rfl, rfl, _, rfl, by omega, by omega, fun D8 hD8 => ?_⟩
  have ne8 := D3.ne hD8
  refine lc_range (lo := 0) (n := (1 + r3).toNat) (Plet d g D8 (n + 3) H3) ?_ ?_ ?_
  · exact ⟨(But.refl d g H3).new hD8, (D3.le (by simp; omega)).new hD8, [], upd_same, rfl, fun y hy => by simp at hy⟩
  · rintro i H4 hi ⟨b4, D4, ys, hy, ly, ay⟩
    refine ⟨rfl, _, rfl, _, rfl, d, g, 26, n + 3 + (i : Int), rfl, D4, by decide, by decide, by omega, fun r5 H5 z0 z1 D5 B5 => ?_⟩
    refine ⟨_, _, _, rfl, rfl, abc_len, abc_at z0 z1, ys.map V.str, B5 _ _ ne8.1 ne8.2 hy, line5 (by rw [List.length_map]; omega), (b4.trans B5).atNew hD8, (D5.le (by omega)).at ne8.1 ne8.2, ys ++ [⟨#[97 + r5.toNat]⟩], ?_, ?_, ?_⟩
    · rw [upd_same, List.map_append]
      rfl
    · rw [List.length_append, ly]
      rfl
    · intro y hy2
      rcases List.mem_append.mp hy2 with hy2 | hy2
      · exact ay y hy2
      · have e : y = ⟨#[97 + r5.toNat]⟩ := by simpa using hy2
        rw [e]
        exact ⟨LtA.one (by omega) (by omega), rfl⟩
  rintro H4 ⟨b4, D4, ys, hy, ly, ay⟩
  have hsum := sum_ones ay
  have e0 : (("" : Str)).length = 0 := rfl
  refine ⟨_, D8, ys, rfl, rfl, .inl (SqL.of hy), ?_, ?_⟩
  · rw [hsum, e0]
    omega
  rw [show Txt.join "" ys = Str.join "" ys from PySem.StrLaws.glued_eq_join _ _]
  have hnm : LtS (Str.join "" ys) := ⟨by rw [join_len, hsum]; omega, join_lt ys fun y hy => (ay y hy).1⟩
  generalize Str.join "" ys = nm0 at hnm
  have B04 := B03.trans b4
  have D4' : Tray H4 d g (n + 11) := D4.le (by omega)
  clear ay hsum ly hy hD8 ne8 b4 D4 B3 B2 B1 B03 D1 D2 D3
  dsimp only
  refine seq_abs (fun σ' H' => ∃ nm u7 u8 u9, σ' = [some (.ref d), some (.ref u), some (.str abc), some (.int way), some (.str letter), some (.str nm), none, u7, u8, u9, none, none] ∧ LtS nm ∧ Tray H' d g (n + 20) ∧ But d g H H') (fun σ5 H5 w5 => ?_) (fun nx hnx => ?_)
  · obtain ⟨nm, u7, u8, u9, rfl, hnm5, D5, B5⟩ := w5
    have hu5 := B5 _ _ nd ng hu
    refine seq_set ?_
    -- [name] + [letters[k] ..] + [..]
    refine ⟨_, rfl, (by show 1 ≤ sizeLine; decide), fun l0 n0 => ?_⟩
    have s0 := same_new n0 (.lst [V.str nm])
    have e0 : (upd H5 l0 (.lst [V.str nm])) l0 = some (.lst [V.str nm]) := upd_same
    generalize upd H5 l0 (.lst [V.str nm]) = H6 at s0 e0
    refine ⟨_, rfl, by decide, by decide, fun D1 nD1 => lc_range (lo := 0) (n := 26) (Pf H6 D1 one1) ?_ ?_ ?_⟩
    · exact ⟨same_new nD1 _, upd_same⟩
    · rintro i H7 hi p
      exact ⟨rfl, _, rfl, _, rfl, _, _, _, rfl, rfl, abc_len, abc_at (r := 0 + (i : Int)) (by omega) (by omega), _, p.2, line5 (by simp; omega), by rw [show (0 + (i : Int)).toNat = i by omega]; exact p.next nD1⟩
    rintro H7 p7
    refine ⟨l0, D1, _, _, rfl, rfl, p7.1 _ _ e0, p7.2, (by simp; decide), fun l1 n1 => ?_⟩
    have s1 := (s0.trans p7.1).trans (same_new n1 (.lst ([V.str nm] ++ ((List.range 26).map one1).map V.str)))
    have e1 : (upd H7 l1 (.lst ([V.str nm] ++ ((List.range 26).map one1).map V.str))) l1 = some (.lst (([nm] ++ (List.range 26).map one1).map V.str)) := by rw [upd_same, List.map_append]; rfl
    generalize upd H7 l1 (.lst ([V.str nm] ++ ((List.range 26).map one1).map V.str)) = H8 at s1 e1
    refine ⟨_, rfl, by decide, by decide, fun D2 nD2 => lc_range (lo := 0) (n := 26) (Pf H8 D2 one2) ?_ ?_ ?_⟩
    · exact ⟨same_new nD2 _, upd_same⟩
    · rintro i H9 hi p
      refine ⟨rfl, _, rfl, _, rfl, _, _, _, rfl, rfl, abc_len, abc_at (r := 0 + (i : Int)) (by omega) (by omega), ?_⟩
      refine ⟨_, rfl, _, rfl, _, _, rfl, rfl, _, _, _, rfl, rfl, abc_len, abc_at (r := 25 - (0 + (i : Int))) (by omega) (by omega), _, _, rfl, rfl, (by show 1 + 1 ≤ sizeLine; decide), _, p.2, line5 (by simp; omega), ?_⟩
      rw [show (0 + (i : Int)).toNat = i by omega, show (25 - (0 + (i : Int))).toNat = 25 - i by omega]
      exact p.next nD2
    rintro H9 p9
    refine ⟨l1, D2, _, _, rfl, rfl, p9.1 _ _ e1, p9.2, (by simp; decide), fun l2 n2 => ?_⟩
    rw [← List.map_append]
    have s2 := (s1.trans p9.1).trans (same_new n2 (.lst ((([nm] ++ (List.range 26).map one1) ++ (List.range 26).map one2).map V.str)))
    have e2 : (upd H9 l2 (.lst ((([nm] ++ (List.range 26).map one1) ++ (List.range 26).map one2).map V.str))) l2 = some (.lst ((([nm] ++ (List.range 26).map one1) ++ (List.range 26).map one2).map V.str)) := upd_same
    generalize upd H9 l2 (.lst ((([nm] ++ (List.range 26).map one1) ++ (List.range 26).map one2).map V.str)) = Ha at s2 e2
    clear p7 p9 e0 e1 s0 s1 n0 n1 n2 nD1 nD2
    dsimp only
    refine seq_set ?_
    refine ⟨_, rfl, _, rfl, by decide, by decide, fun D3 nD3 => lc_range (lo := 0) (n := 26) (Pf Ha D3 one3) ?_ ?_ ?_⟩
    · exact ⟨same_new nD3 _, upd_same⟩
    · rintro i Hb hi p
      refine ⟨rfl, _, rfl, _, rfl, _, _, _, rfl, rfl, abc_len, abc_at (r := 0 + (i : Int)) (by omega) (by omega), _, 3, rfl, rfl, by decide, by decide, (by show 1 ≤ 1000; decide), _, p.2, line5 (by simp; omega), ?_⟩
      rw [show (0 + (i : Int)).toNat = i by omega]
      exact p.next nD3
    rintro Hb pb
    refine ⟨l2, D3, _, _, rfl, rfl, pb.1 _ _ e2, pb.2, (by simp; decide), fun l3 n3 => ?_⟩
    rw [← List.map_append]
    have s3 := (s2.trans pb.1).trans (same_new n3 (.lst (((([nm] ++ (List.range 26).map one1) ++ (List.range 26).map one2) ++ (List.range 26).map one3).map V.str)))
    have e3 : (upd Hb l3 (.lst (((([nm] ++ (List.range 26).map one1) ++ (List.range 26).map one2) ++ (List.range 26).map one3).map V.str))) l3 = some (.lst (((([nm] ++ (List.range 26).map one1) ++ (List.range 26).map one2) ++ (List.range 26).map one3).map V.str)) := upd_same
    generalize upd Hb l3 (.lst (((([nm] ++ (List.range 26).map one1) ++ (List.range 26).map one2) ++ (List.range 26).map one3).map V.str)) = Hc at s3 e3
    refine ⟨_, rfl, by decide, by decide, fun D4 nD4 => lc_range (lo := 0) (n := 26) (Pf Hc D4 one5) ?_ ?_ ?_⟩
    · exact ⟨same_new nD4 _, upd_same⟩
    · rintro i Hd hi p
      refine ⟨rfl, _, rfl, _, rfl, _, _, _, rfl, rfl, abc_len, abc_at (r := 0 + (i : Int)) (by omega) (by omega), _, 5, rfl, rfl, by decide, by decide, (by show 1 ≤ 1000; decide), _, p.2, line5 (by simp; omega), ?_⟩
      rw [show (0 + (i : Int)).toNat = i by omega]
      exact p.next nD4
    rintro Hd pd
    refine ⟨l3, D4, _, _, rfl, rfl, pd.1 _ _ e3, pd.2, (by simp; decide), fun l4 n4 => ?_⟩
    rw [← List.map_append]
    have s4 := (s3.trans pd.1).trans (same_new n4 (.lst ((((([nm] ++ (List.range 26).map one1) ++ (List.range 26).map one2) ++ (List.range 26).map one3) ++ (List.range 26).map one5).map V.str)))
    have e4 : (upd Hd l4 (.lst ((((([nm] ++ (List.range 26).map one1) ++ (List.range 26).map one2) ++ (List.range 26).map one3) ++ (List.range 26).map one5).map V.str))) l4 = some (.lst ((allSome nm).map V.str)) := upd_same
    generalize upd Hd l4 (.lst ((((([nm] ++ (List.range 26).map one1) ++ (List.range 26).map one2) ++ (List.range 26).map one3) ++ (List.range 26).map one5).map V.str)) = He at s4 e4
    clear pb pd e2 e3 s2 s3 n3 n4 nD3 nD4
    have B6 : But d g H He := B5.trans (But.of_same s4)
    have D6 := D5.same s4
    have hu6 := s4 _ _ hu5
    dsimp only
    refine ⟨_, rfl, l4, rfl, ⟨_, SqL.of e4⟩, fun D5 nD5 => lc_list (xs := (allSome nm).map V.str) (Pkeep He D5 us (allSome nm)) ?_ ?_ ?_ ?_⟩
    · exact ⟨same_new nD5 _, upd_same⟩
    · exact fun i Hf _ p => SqL.of (p.1 _ _ e4)
    · rintro i x Hf hx ⟨sf, hD⟩
      rw [List.getElem?_map] at hx
      obtain ⟨sx, hsx, rfl⟩ := Option.map_eq_some_iff.mp hx
      have hi : i < (allSome nm).length := (List.getElem?_eq_some_iff.mp hsx).1
      have hall : (us.map V.str ++ [V.str "", V.str "num", V.str "text"]).all flatV = true := by
        rw [List.all_append, List.all_map]
        simp [flatV]
      refine ⟨rfl, _, rfl, _, rfl, (by show 3 ≤ sizeLine; decide), fun l nl => ⟨u, l, _, _, rfl, rfl, (same_new nl _) _ _ (sf _ _ hu6), upd_same, ?_, fun m8 nm8 => ?_⟩⟩
      · rw [List.length_map]
        exact Nat.le_of_lt (line5 (show us.length + 3 ≤ 100000 by omega))
      have s7 := (same_new nl (.lst [V.str "", V.str "num", V.str "text"])).trans (same_new nm8 (.lst (us.map V.str ++ [V.str "", V.str "num", V.str "text"])))
      have e7 : (upd (upd Hf l (.lst [V.str "", V.str "num", V.str "text"])) m8 (.lst (us.map V.str ++ [V.str "", V.str "num", V.str "text"]))) m8 = some (.lst (us.map V.str ++ [V.str "", V.str "num", V.str "text"])) := upd_same
      generalize upd (upd Hf l (.lst [V.str "", V.str "num", V.str "text"])) m8 (.lst (us.map V.str ++ [V.str "", V.str "num", V.str "text"])) = Hg at s7 e7
      refine ⟨m8, _, rfl, .inl (SqL.of e7), rfl, hall, _, rfl, ?_⟩
      show if keepN us sx = true then _ else _
      cases hk : keepN us sx with
      | true =>
        refine iteT ?_
        refine ⟨_, rfl, _, s7 _ _ hD, ?_, Same.atNew (sf.trans s7) nD5, ?_⟩
        · rw [List.length_map]
          exact line5 (Nat.le_trans (List.length_filter_le _ _) (Nat.le_trans (List.length_take_le' _ _) (by simp [allSome])))
        · rw [upd_same, ← take_next hsx, List.filter_append, List.map_append, filt1 hk]
          rfl
      | false =>
        refine iteF ⟨sf.trans s7, ?_⟩
        rw [← take_next hsx, List.filter_append, filt0 hk]
        simpa using s7 _ _ hD
    · rintro Hf ⟨sf, hD⟩
      rw [List.length_map, List.take_length] at hD
      obtain ⟨z, r, hz⟩ := some_kept h22 (allSome nm) fun k hk => by
        simp only [allSome, List.mem_append]
        exact .inl (.inl (.inl (.inr (List.mem_map.mpr ⟨k, List.mem_range.mpr hk, rfl⟩))))
      rw [hz] at hD
      have hzm : z ∈ (allSome nm).filter (keepN us) := by rw [hz]; simp
      obtain ⟨hz1, hz2⟩ := List.mem_filter.mp hzm
      rw [keepN_iff] at hz2
      have hzl : LtS z := by
        have ok : ∀ k, k < 26 → LtS (one1 k) ∧ LtS (one2 k) ∧ LtS (one3 k) ∧ LtS (one5 k) := fun k hk => ones_ok hk
        simp only [allSome, List.mem_append, List.mem_singleton, List.mem_map, List.mem_range] at hz1
        rcases hz1 with (((rfl | ⟨k, hk, rfl⟩) | ⟨k, hk, rfl⟩) | ⟨k, hk, rfl⟩) | ⟨k, hk, rfl⟩
        · exact hnm5
        · exact (ok k hk).1
        · exact (ok k hk).2.1
        · exact (ok k hk).2.2.1
        · exact (ok k hk).2.2.2
      refine ⟨_, _, _, .str z, rfl, rfl, SqL.of hD, at_of rfl rfl, ?_⟩
      refine q z Hf ⟨hzl, fun e => hz2 (by simp [e]), fun e => hz2 (by simp [e]), fun e => hz2 (by simp [e])⟩ (fun e => hz2 (by simp [e])) (D6.same sf) (B6.trans (But.of_same sf))
  · refine ⟨_, rfl, rfl, _, rfl, ite2 (fun c => ?_) (fun c => ?_)⟩
    · refine ⟨(by show 12 ≤ sizeLine; decide), fun l nl => ?_⟩
      have D5 := D4'.new (o := .lst (hints.map V.str)) nl
      have B5 := B04.new (o := .lst (hints.map V.str)) nl
      have hl : (upd H4 l (.lst (hints.map V.str))) l = some (.lst (hints.map V.str)) := upd_same
      have ne := D4'.ne nl
      refine ⟨_, rfl, _, rfl, d, g, 12, n + 11, rfl, D5, by decide, by decide, by omega, fun r6 H6 z0 z1 D6 B6 => ?_⟩
      obtain ⟨x, hx, hxm⟩ := str_at (us := hints) z0 z1
      refine ⟨_, _, _, .str x, rfl, rfl, SqL.of (B6 _ _ ne.1 ne.2 hl), hx, ?_⟩
      exact hnx _ _ ⟨x, _, _, _, rfl, hints_ok x hxm, D6.le (by omega), B5.trans B6⟩
    refine ⟨_, rfl, _, _, rfl, rfl, _, rfl, ite2 (fun c2 => ?_) (fun c2 => ?_)⟩
    · have c2' := of_decide_eq_true c2
      refine ⟨_, rfl, Nat.zero_le _, fun p np => ?_⟩
      have D5 := D4'.new (o := .lst []) np
      have B5 := B04.new (o := .lst []) np
      refine ⟨.list (us.map PyData.str), .list [], .lst (SqL.of (B5 _ _ nd ng hu)) (dp_strs us), .lst (SqL.of upd_same) .nil, shaped_strs (fun x hx => (hus x hx).2), rfl, _, rfl, ?_⟩
      rw [eqv_nils]
      generalize upd H4 p (.lst []) = H5 at D5 B5
      cases us with
      | nil =>
        refine iteF ?_
        exact hnx _ _ ⟨nm0, _, _, _, rfl, hnm, D5.le (by omega), B5⟩
      | cons x0 rest =>
        refine iteT ?_
        have hu5 := B5 _ _ nd ng hu
        have lpos : (0 : Int) < (((x0 :: rest).map V.str).length : Int) := by rw [List.length_map, List.length_cons]; omega
        have l22 : (((x0 :: rest).map V.str).length : Int) ≤ 22 := by rw [List.length_map]; omega
        refine ⟨_, rfl, _, rfl, _, rfl, u, _, rfl, .inl (SqL.of hu5), d, g, _, n + 11, rfl, D5, lpos, by omega, by omega, fun r6 H6 z0 z1 D6 B6 => ?_⟩
        rw [List.length_map] at z1
        obtain ⟨old, hold, hom⟩ := str_at z0 z1
        refine ⟨_, _, _, .str old, rfl, rfl, SqL.of (B6 _ _ nd ng hu5), hold, ?_⟩
        have ho := hus old hom
        have ho8 : (old.length : Int) ≤ 8 := by have := ho.1; omega
        have big : ∀ {k : Nat}, k ≤ 100 → k ≤ sizeLine := fun h => Nat.le_of_lt (line5 (by omega))
        have hol : old.length ≤ sizeLine := big (by have := ho.1; omega)
        refine ⟨_, rfl, _, rfl, old, rfl, hol, _, _, rfl, rfl, d, g, _, n + 11 + 1, rfl, D6, by omega, by omega, by omega, fun r7 H7 y0 y1 D7 B7 => ?_⟩
        refine ⟨_, rfl, _, rfl, _, rfl, old, rfl, hol, _, rfl, _, rfl, (by show 3 ≤ sizeLine; decide), fun l1 nl1 => ?_⟩
        have hw : way - 1 = 0 ∨ way - 1 = 1 ∨ way - 1 = 2 := by
          have : ¬ way = 4 := fun z => c (decide_eq_true (by rw [z]))
          omega
        have pick1 : ∃ y : Str, atI [V.str letter, V.str letter, V.str ""] (way - 1) = some (.str y) ∧ LtA y ∧ y.length ≤ 1 := by
          rcases hw with h | h | h <;> rw [h]
          · exact ⟨letter, at_of (j := 0) rfl rfl, hlet, by omega⟩
          · exact ⟨letter, at_of (j := 1) rfl rfl, hlet, by omega⟩
          · exact ⟨"", at_of (j := 2) rfl rfl, LtA.nil, by decide⟩
        obtain ⟨y, hy, ly, ly1⟩ := pick1
        have pick2 : ∃ k : Int, atI [V.int 0, V.int 1, V.int 1] (way - 1) = some (.int k) := by
          rcases hw with h | h | h <;> rw [h]
          · exact ⟨0, at_of (j := 0) rfl rfl⟩
          · exact ⟨1, at_of (j := 1) rfl rfl⟩
          · exact ⟨1, at_of (j := 2) rfl rfl⟩
        obtain ⟨k, hk⟩ := pick2
        refine ⟨_, rfl, _, _, rfl, rfl, _, _, _, .str y, rfl, rfl, SqL.of upd_same, hy, _, _, rfl, rfl, ?_, ?_⟩
        · have := cutS_length old none (some r7)
          exact big (by have := ho.1; omega)
        refine ⟨_, rfl, _, rfl, (by show 3 ≤ sizeLine; decide), fun l2 nl2 => ⟨_, rfl, _, _, rfl, rfl, _, _, _, .int k, rfl, rfl, SqL.of upd_same, hk, _, _, rfl, rfl, _, rfl, old, rfl, hol, _, _, rfl, rfl, ?_, ?_⟩⟩
        · have h1 := cutS_length old none (some r7)
          have h2 := cutS_length old (some (r7 + k)) none
          rw [len_app]
          exact big (by have := ho.1; omega)
        refine ⟨_, rfl, _, rfl, ?_, ?_⟩
        · have h1 := cutS_length old none (some r7)
          have h2 := cutS_length old (some (r7 + k)) none
          rw [len_app, len_app]
          exact big (by have := ho.1; omega)
        refine hnx _ _ ⟨_, _, _, _, rfl, ⟨cut8 _, LtA.cut (((ho.2.cut _ _).app ly).app (ho.2.cut _ _)) _ _⟩, ((D7.new nl1).new nl2).le (by omega), (((B5.trans B6).trans B7).new nl1).new nl2⟩
    · refine iteF ?_
      exact hnx _ _ ⟨nm0, _, _, _, rfl, hnm, D4'.le (by omega), B04⟩
end
end My
namespace My
open PySem L2
/-! kinds -/
inductive Kd where
  | num | text
  | of (x : Str)
  | row (k : Kd)
  | calls (ps : List Kd) (r : Kd)
  | answers (n : Int) (k : Kd)
mutual
def Kd.depth : Kd → Nat
  | .num => 1
  | .text => 1
  | .of _ => 1
  | .row k => Kd.depth k + 1
  | .calls ps r => max (Kd.depths ps) (Kd.depth r) + 1
  | .answers _ k => Kd.depth k + 1
def Kd.depths : List Kd → Nat
  | [] => 0
  | k :: r => max (Kd.depth k) (Kd.depths r)
end
mutual
def Kd.size : Kd → Nat
  | .num => 1
  | .text => 1
  | .of _ => 1
  | .row k => Kd.size k + 1
  | .calls ps r => Kd.sizes ps + Kd.size r + 1
  | .answers _ k => Kd.size k + 1
def Kd.sizes : List Kd → Nat
  | [] => 0
  | k :: r => Kd.size k + Kd.sizes r
end
mutual
/-- v stands for the kind k -/
inductive KdAt (H : Hp) : V → Kd → Prop
  | num {a : Addr} (h : H a = some (.tup [.str "num"])) : KdAt H (.ref a) .num
  | text {a : Addr} (h : H a = some (.tup [.str "text"])) : KdAt H (.ref a) .text
  | of {a : Addr} {x : Str} (h : H a = some (.tup [.str "of", .str x])) : KdAt H (.ref a) (.of x)
  | row {a : Addr} {v : V} {k : Kd} (h : H a = some (.tup [.str "row", v])) (hk : KdAt H v k) : KdAt H (.ref a) (.row k)
  | calls {a b : Addr} {vs : List V} {v : V} {ps : List Kd} {r : Kd} (h : H a = some (.tup [.str "calls", .ref b, v])) (hb : H b = some (.tup vs)) (hp : KdsAt H vs ps) (hr : KdAt H v r) : KdAt H (.ref a) (.calls ps r)
  | answers {a : Addr} {n : Int} {v : V} {k : Kd} (h : H a = some (.tup [.str "answers", .int n, v])) (hk : KdAt H v k) : KdAt H (.ref a) (.answers n k)
inductive KdsAt (H : Hp) : List V → List Kd → Prop
  | nil : KdsAt H [] []
  | cons {v : V} {vs : List V} {k : Kd} {ks : List Kd} (h : KdAt H v k) (t : KdsAt H vs ks) : KdsAt H (v :: vs) (k :: ks)
end
mutual
theorem KdAt.mono {H H' : Hp} (t : Tups H H') : ∀ {k : Kd} {v : V}, KdAt H v k → KdAt H' v k
  | .num, _, .num h => .num (t _ _ h)
  | .text, _, .text h => .text (t _ _ h)
  | .of _, _, .of h => .of (t _ _ h)
  | .row _, _, .row h hk => .row (t _ _ h) (KdAt.mono t hk)
  | .calls _ _, _, .calls h hb hp hr => .calls (t _ _ h) (t _ _ hb) (KdsAt.mono t hp) (KdAt.mono t hr)
  | .answers _ _, _, .answers h hk => .answers (t _ _ h) (KdAt.mono t hk)
theorem KdsAt.mono {H H' : Hp} (t : Tups H H') : ∀ {ks : List Kd} {vs : List V}, KdsAt H vs ks → KdsAt H' vs ks
  | [], _, .nil => .nil
  | _ :: _, _, .cons h r => .cons (KdAt.mono t h) (KdsAt.mono t r)
end
theorem KdsAt.len {H : Hp} : ∀ {ks : List Kd} {vs : List V}, KdsAt H vs ks → vs.length = ks.length
  | [], _, .nil => rfl
  | _ :: _, _, .cons _ r => by rw [List.length_cons, KdsAt.len r, List.length_cons]
theorem KdsAt.app {H : Hp} : ∀ {ks ls : List Kd} {vs ws : List V}, KdsAt H vs ks → KdsAt H ws ls → KdsAt H (vs ++ ws) (ks ++ ls)
  | [], _, _, _, .nil, h => h
  | _ :: _, _, _, _, .cons a r, h => .cons a (KdsAt.app r h)
theorem KdsAt.get {H : Hp} : ∀ {ks : List Kd} {vs : List V}, KdsAt H vs ks → ∀ (i : Nat) (v : V), vs[i]? = some v → ∃ k, ks[i]? = some k ∧ KdAt H v k
  | [], _, .nil, i, v, h => by simp at h
  | _ :: _, _, .cons a r, 0, v, h => by
    have e := Option.some.inj h
    subst e
    exact ⟨_, rfl, a⟩
  | _ :: _, _, .cons a r, i + 1, v, h => KdsAt.get r i v h
theorem Kd.depths_app : ∀ (a b : List Kd), Kd.depths (a ++ b) = max (Kd.depths a) (Kd.depths b)
  | [], b => by simp [Kd.depths]
  | k :: r, b => by
    rw [List.cons_append, Kd.depths, Kd.depths, Kd.depths_app r b]
    omega
theorem Kd.sizes_app : ∀ (a b : List Kd), Kd.sizes (a ++ b) = Kd.sizes a + Kd.sizes b
  | [], b => by simp [Kd.sizes]
  | k :: r, b => by
    rw [List.cons_append, Kd.sizes, Kd.sizes, Kd.sizes_app r b]
    omega
/-- what stands within, by one step -/
def Kd.inner : Kd → List Kd
  | .row k => [k]
  | .calls ps r => ps ++ [r]
  | .answers _ k => [k]
  | _ => []
theorem Kd.depth_inner (k : Kd) : k.depth = Kd.depths k.inner + 1 := by
  cases k with
  | num => rfl
  | text => rfl
  | of x => rfl
  | row k => simp [Kd.depth, Kd.inner, Kd.depths]
  | calls ps r => simp [Kd.depth, Kd.inner, Kd.depths, Kd.depths_app]
  | answers n k => simp [Kd.depth, Kd.inner, Kd.depths]
theorem Kd.size_inner (k : Kd) : k.size = Kd.sizes k.inner + 1 := by
  cases k with
  | num => rfl
  | text => rfl
  | of x => rfl
  | row k => simp [Kd.size, Kd.inner, Kd.sizes]
  | calls ps r => simp [Kd.size, Kd.inner, Kd.sizes, Kd.sizes_app]
  | answers n k => simp [Kd.size, Kd.inner, Kd.sizes]
theorem Kd.len_sizes : ∀ (ks : List Kd), ks.length ≤ Kd.sizes ks
  | [] => Nat.le_refl _
  | k :: r => by
    have := Kd.len_sizes r
    have h : 1 ≤ k.size := by rw [Kd.size_inner]; omega
    rw [List.length_cons, Kd.sizes]
    omega
/-- no callback in it -/
def Kd.flat : Kd → Bool
  | .num => true
  | .text => true
  | .of _ => true
  | .row k => k.flat
  | _ => false
/-- a kind as the law's writings have it: no answer literals, no calls in calls, three called at most -/
def Kd.plain : Kd → Bool
  | .num => true
  | .text => true
  | .of _ => true
  | .row k => k.plain
  | .calls ps r => ps.all Kd.flat && r.flat && decide (ps.length ≤ 3)
  | .answers _ _ => false
mutual
def Kd.names : Kd → List Str
  | .num => []
  | .text => []
  | .of x => [x]
  | .row k => Kd.names k
  | .calls ps r => Kd.namesL ps ++ Kd.names r
  | .answers _ k => Kd.names k
def Kd.namesL : List Kd → List Str
  | [] => []
  | k :: r => Kd.names k ++ Kd.namesL r
end
end My
namespace My
open PySem L2
theorem Kd.plain_of_flat : ∀ {k : Kd}, k.flat = true → k.plain = true
  | .num, _ => rfl
  | .text, _ => rfl
  | .of _, _ => rfl
  | .row k, h => Kd.plain_of_flat (k := k) h
theorem Kd.namesL_app : ∀ (a b : List Kd), Kd.namesL (a ++ b) = Kd.namesL a ++ Kd.namesL b
  | [], b => rfl
  | k :: r, b => by
    rw [List.cons_append, Kd.namesL, Kd.namesL, Kd.namesL_app r b, List.append_assoc]
theorem FnOk_any {P : Program} {w : World} {K : PySem.W.Frag} {mg : Str → Option Value} {base : Heap} {n : Nat} {f : Addr} {fd : FuncData} {ps : List Str} {sp : Nat → Sp} {E : Nat}
    (h : ∀ e, e ≤ E → FnOk P w K mg base CX0 n f fd ps (sp e)) : FnOk P w K mg base CX0 n f fd ps (fun vs H Q X => ∃ e, e ≤ E ∧ sp e vs H Q X) :=
  ⟨fun vs H Q X ⟨e, l, z⟩ => (h e l).len vs H Q X z, fun A outer s H args us vs Q X a b c d ⟨e, l, z⟩ => (h e l).run A outer s H args us vs Q X a b c d z⟩
mutual
def Kd.data : Kd → PyData
  | .num => .tuple [.str "num"]
  | .text => .tuple [.str "text"]
  | .of x => .tuple [.str "of", .str x]
  | .row k => .tuple [.str "row", Kd.data k]
  | .calls ps r => .tuple [.str "calls", .tuple (Kd.datas ps), Kd.data r]
  | .answers n k => .tuple [.str "answers", .int n, Kd.data k]
def Kd.datas : List Kd → List PyData
  | [] => []
  | k :: r => Kd.data k :: Kd.datas r
end
mutual
theorem KdAt.dp {K : PySem.W.Frag} {H : Hp} : ∀ {k : Kd} {v : V}, KdAt H v k → Dp K H v k.data
  | .num, _, .num h => .tup (SqT.of h) (.cons (.str _) .nil)
  | .text, _, .text h => .tup (SqT.of h) (.cons (.str _) .nil)
  | .of _, _, .of h => .tup (SqT.of h) (.cons (.str _) (.cons (.str _) .nil))
  | .row _, _, .row h hk => .tup (SqT.of h) (.cons (.str _) (.cons (KdAt.dp hk) .nil))
  | .calls _ _, _, .calls h hb hp hr => .tup (SqT.of h) (.cons (.str _) (.cons (.tup (SqT.of hb) (KdsAt.dp hp)) (.cons (KdAt.dp hr) .nil)))
  | .answers _ _, _, .answers h hk => .tup (SqT.of h) (.cons (.str _) (.cons (.int _) (.cons (KdAt.dp hk) .nil)))
theorem KdsAt.dp {K : PySem.W.Frag} {H : Hp} : ∀ {ks : List Kd} {vs : List V}, KdsAt H vs ks → DpAll K H vs (Kd.datas ks)
  | [], _, .nil => .nil
  | _ :: _, _, .cons h r => .cons (KdAt.dp h) (KdsAt.dp r)
end
mutual
theorem Kd.data_depth : ∀ (k : Kd), PyData.depth k.data ≤ 2 * k.depth
  | .num => by simp [Kd.data, Kd.depth, PyData.depth, PyData.depthAll]
  | .text => by simp [Kd.data, Kd.depth, PyData.depth, PyData.depthAll]
  | .of x => by simp [Kd.data, Kd.depth, PyData.depth, PyData.depthAll]
  | .row k => by
    have := Kd.data_depth k
    simp [Kd.data, Kd.depth, PyData.depth, PyData.depthAll]
    omega
  | .calls ps r => by
    have a := Kd.datas_depth ps
    have b := Kd.data_depth r
    simp [Kd.data, Kd.depth, PyData.depth, PyData.depthAll]
    omega
  | .answers n k => by
    have := Kd.data_depth k
    simp [Kd.data, Kd.depth, PyData.depth, PyData.depthAll]
    omega
theorem Kd.datas_depth : ∀ (ks : List Kd), PyData.depthAll (Kd.datas ks) ≤ 2 * Kd.depths ks
  | [] => by simp [Kd.datas, PyData.depthAll, Kd.depths]
  | k :: r => by
    have a := Kd.data_depth k
    have b := Kd.datas_depth r
    simp [Kd.datas, PyData.depthAll, Kd.depths]
    omega
end
mutual
theorem Kd.data_lay : ∀ (k : Kd), (∀ x ∈ k.names, LtA x) → PyData.canLay0 k.data = true
  | .num, _ => by decide +kernel
  | .text, _ => by decide +kernel
  | .of x, h => by
    have := strOk_lt (h x (by simp [Kd.names]))
    simp [Kd.data, PyData.canLay0, PyData.canLayAll0, this]
    decide +kernel
  | .row k, h => by
    have := Kd.data_lay k h
    simp [Kd.data, PyData.canLay0, PyData.canLayAll0, this]
    decide +kernel
  | .calls ps r, h => by
    have a := Kd.datas_lay ps fun x hx => h x (List.mem_append_left _ hx)
    have b := Kd.data_lay r fun x hx => h x (List.mem_append_right _ hx)
    simp [Kd.data, PyData.canLay0, PyData.canLayAll0, a, b]
    decide +kernel
  | .answers n k, h => by
    have := Kd.data_lay k h
    simp [Kd.data, PyData.canLay0, PyData.canLayAll0, this]
    decide +kernel
theorem Kd.datas_lay : ∀ (ks : List Kd), (∀ x ∈ Kd.namesL ks, LtA x) → PyData.canLayAll0 (Kd.datas ks) = true
  | [], _ => rfl
  | k :: r, h => by
    have a := Kd.data_lay k fun x hx => h x (List.mem_append_left _ hx)
    have b := Kd.datas_lay r fun x hx => h x (List.mem_append_right _ hx)
    simp [Kd.datas, PyData.canLayAll0, a, b]
end
/-- kinds_directly_in -/
def spInner : Sp := fun vs H Q _ => ∃ (v : V) (k : Kd), vs = [v] ∧ KdAt H v k ∧ k.size ≤ 100000 ∧
  ∀ (r : Addr) (ws : List V) (H' : Hp), H r = none → H' r = some (.lst ws) → KdsAt H' ws k.inner → Same H H' → Q (.ref r) H'
/-- depth -/
def spDepth : Sp := fun vs H Q _ => ∃ (v : V) (k : Kd), vs = [v] ∧ KdAt H v k ∧ k.size ≤ 100000 ∧ ∀ H', Same H H' → Q (.int (k.depth : Int)) H'
def Kd.inners : List Kd → List Kd
  | [] => []
  | k :: r => k.inner ++ Kd.inners r
theorem Kd.inners_app : ∀ (a b : List Kd), Kd.inners (a ++ b) = Kd.inners a ++ Kd.inners b
  | [], b => rfl
  | k :: r, b => by
    rw [List.cons_append, Kd.inners, Kd.inners, Kd.inners_app r b, List.append_assoc]
theorem Kd.depths_inners : ∀ (ks : List Kd), ks ≠ [] → Kd.depths ks = Kd.depths (Kd.inners ks) + 1
  | [k], _ => by
    rw [Kd.depths, Kd.depths, Kd.inners, Kd.inners, List.append_nil, Kd.depth_inner]
    omega
  | k :: k2 :: r, _ => by
    have ih := Kd.depths_inners (k2 :: r) (by simp)
    rw [Kd.depths, Kd.inners, Kd.depths_app, ih, Kd.depth_inner]
    omega
theorem Kd.sizes_inners : ∀ (ks : List Kd), Kd.sizes (Kd.inners ks) + ks.length = Kd.sizes ks
  | [] => rfl
  | k :: r => by
    have ih := Kd.sizes_inners r
    rw [Kd.inners, Kd.sizes_app, List.length_cons, Kd.sizes, Kd.size_inner k]
    omega
theorem Kd.sizes_mem {k : Kd} : ∀ {ks : List Kd}, k ∈ ks → k.size ≤ Kd.sizes ks
  | x :: r, h => by
    rw [Kd.sizes]
    rcases List.mem_cons.mp h with rfl | h
    · omega
    · have := Kd.sizes_mem h
      omega
theorem Kd.sizes_take : ∀ (ks : List Kd) (i : Nat), Kd.sizes (ks.take i) ≤ Kd.sizes ks
  | [], i => by simp
  | x :: r, 0 => by simp [Kd.sizes]
  | x :: r, i + 1 => by
    have := Kd.sizes_take r i
    rw [List.take_succ_cons, Kd.sizes, Kd.sizes]
    omega
def Wdep (v : V) (k : Kd) (H0 : Hp) (m : Nat) (σ : St) (H : Hp) : Prop :=
  ∃ (l : Addr) (ws : List V) (ks : List Kd) (lv : Nat) (u3 u4 : Option V), σ = [some v, some (.int (lv : Int)), some (.ref l), u3, u4] ∧ Same H0 H ∧ H l = some (.lst ws) ∧ KdsAt H ws ks ∧ lv + Kd.depths ks = k.depth ∧ Kd.sizes ks ≤ 100000 ∧ m = Kd.depths ks
def Pdep (H0 : Hp) (D : Addr) (ks : List Kd) (i : Nat) (H : Hp) : Prop := Same H0 H ∧ ∃ acc, H D = some (.lst acc) ∧ KdsAt H acc (Kd.inners (ks.take i))
def Pdep2 (H1 H3 : Hp) (r D : Addr) (ys acc : List V) (j : Nat) (H : Hp) : Prop := Same H1 H ∧ Tups H3 H ∧ H r = some (.lst ys) ∧ H D = some (.lst (acc ++ ys.take j))
section
variable {P : Program} {w : World} {K : PySem.W.Frag} {mg : Str → Option Value} {base : Heap} {f : Addr} {fd : FuncData}
theorem ok_inner (F : Fun K "kinds_directly_in" "kinds_directly_in" s_kinds_directly_in f fd) : FnOk P w K mg base CX0 1 f fd ["kind"] spInner := by
  refine F.ok sc_kinds_directly_in (fun vs H Q E h => ?_) (fun cdv A outer s H vs Q E hr h => ?_)
  · obtain ⟨v, k, rfl, _⟩ := h
    rfl
  obtain ⟨v, k, rfl, hk, hs, q⟩ := h
  refine ⟨_, (pss_cons (ps_if (pt_cmpR op_eq (pe_ix (ixT K rfl) (pv 0) pe_int (fun _ _ => rfl)) pe_str (nomark _)) (pss_one (ps_ret (pe_lst (pa_cons (pe_ix (ixT K rfl) (pv 0) pe_int (fun _ _ => rfl)) pa_nil)))) pss_nil)
    (pss_cons (ps_if (pt_cmpR op_eq (pe_ix (ixT K rfl) (pv 0) pe_int (fun _ _ => rfl)) pe_str (nomark _)) (pss_one (ps_ret (pe_lst (star K rfl (pe_ix (ixT K rfl) (pv 0) pe_int (fun _ _ => rfl)) (pa_cons (pe_ix (ixT K rfl) (pv 0) pe_int (fun _ _ => rfl)) pa_nil))))) pss_nil)
    (pss_cons (ps_if (pt_cmpR op_eq (pe_ix (ixT K rfl) (pv 0) pe_int (fun _ _ => rfl)) pe_str (nomark _)) (pss_one (ps_ret (pe_lst (pa_cons (pe_ix (ixT K rfl) (pv 0) pe_int (fun _ _ => rfl)) pa_nil)))) pss_nil)
    (pss_one (ps_ret (pe_lst pa_nil)))))), ?_⟩
  cases hk with
  | num ha =>
    refine ⟨_, rfl, _, _, _, _, rfl, rfl, SqT.of ha, at_of rfl rfl, rfl, _, rfl, ifF (by decide) ?_⟩
    refine ⟨_, rfl, _, _, _, _, rfl, rfl, SqT.of ha, at_of rfl rfl, rfl, _, rfl, ifF (by decide) ?_⟩
    refine ⟨_, rfl, _, _, _, _, rfl, rfl, SqT.of ha, at_of rfl rfl, rfl, _, rfl, ifF (by decide) ?_⟩
    exact ⟨Nat.zero_le _, fun r nr => q r _ _ nr upd_same .nil (same_new nr _)⟩
  | text ha =>
    refine ⟨_, rfl, _, _, _, _, rfl, rfl, SqT.of ha, at_of rfl rfl, rfl, _, rfl, ifF (by decide) ?_⟩
    refine ⟨_, rfl, _, _, _, _, rfl, rfl, SqT.of ha, at_of rfl rfl, rfl, _, rfl, ifF (by decide) ?_⟩
    refine ⟨_, rfl, _, _, _, _, rfl, rfl, SqT.of ha, at_of rfl rfl, rfl, _, rfl, ifF (by decide) ?_⟩
    exact ⟨Nat.zero_le _, fun r nr => q r _ _ nr upd_same .nil (same_new nr _)⟩
  | of ha =>
    refine ⟨_, rfl, _, _, _, _, rfl, rfl, SqT.of ha, at_of rfl rfl, rfl, _, rfl, ifF (by decide) ?_⟩
    refine ⟨_, rfl, _, _, _, _, rfl, rfl, SqT.of ha, at_of rfl rfl, rfl, _, rfl, ifF (by decide) ?_⟩
    refine ⟨_, rfl, _, _, _, _, rfl, rfl, SqT.of ha, at_of rfl rfl, rfl, _, rfl, ifF (by decide) ?_⟩
    exact ⟨Nat.zero_le _, fun r nr => q r _ _ nr upd_same .nil (same_new nr _)⟩
  | row ha hk =>
    refine ⟨_, rfl, _, _, _, _, rfl, rfl, SqT.of ha, at_of rfl rfl, rfl, _, rfl, ifT (by decide) ?_⟩
    refine ⟨_, rfl, _, _, _, _, rfl, rfl, SqT.of ha, at_of rfl rfl, (by show 1 ≤ sizeLine; decide), fun r nr => ?_⟩
    exact q r _ _ nr upd_same (.cons (hk.mono (Tups.of_same (same_new nr _))) .nil) (same_new nr _)
  | @calls a b ws v ps r ha hb hp hr2 =>
    refine ⟨_, rfl, _, _, _, _, rfl, rfl, SqT.of ha, at_of rfl rfl, rfl, _, rfl, ifF (by decide) ?_⟩
    refine ⟨_, rfl, _, _, _, _, rfl, rfl, SqT.of ha, at_of rfl rfl, rfl, _, rfl, ifT (by decide) ?_⟩
    refine ⟨_, rfl, _, _, _, _, rfl, rfl, SqT.of ha, at_of rfl rfl, b, ws, rfl, .inl (SqT.of hb), _, rfl, _, _, _, _, rfl, rfl, SqT.of ha, at_of rfl rfl, ?_, fun p np => ?_⟩
    · have h1 := hp.len
      have h2 := Kd.len_sizes ps
      have h3 : (Kd.calls ps r).size = Kd.sizes ps + r.size + 1 := rfl
      rw [List.length_append, h1]
      exact Nat.le_of_lt (line5 (show ps.length + 1 ≤ 100000 by omega))
    · have T := Tups.of_same (same_new np (.lst (ws ++ [v])))
      exact q p _ _ np upd_same ((hp.mono T).app (.cons (hr2.mono T) .nil)) (same_new np _)
  | answers ha hk =>
    refine ⟨_, rfl, _, _, _, _, rfl, rfl, SqT.of ha, at_of rfl rfl, rfl, _, rfl, ifF (by decide) ?_⟩
    refine ⟨_, rfl, _, _, _, _, rfl, rfl, SqT.of ha, at_of rfl rfl, rfl, _, rfl, ifF (by decide) ?_⟩
    refine ⟨_, rfl, _, _, _, _, rfl, rfl, SqT.of ha, at_of rfl rfl, rfl, _, rfl, ifT (by decide) ?_⟩
    refine ⟨_, rfl, _, _, _, _, rfl, rfl, SqT.of ha, at_of rfl rfl, (by show 1 ≤ sizeLine; decide), fun r nr => ?_⟩
    exact q r _ _ nr upd_same (.cons (hk.mono (Tups.of_same (same_new nr _))) .nil) (same_new nr _)
end
end My
namespace My
open PySem L2
/-- _law_names -/
def spNames : Sp := fun vs H Q _ => ∃ (d g u : Addr) (n : Int) (m : Nat) (us : List Str), vs = [.ref d, .int (m : Int), .ref u] ∧ Tray H d g n ∧ n ≤ 800000 ∧ u ≠ d ∧ u ≠ g ∧ H u = some (.lst (us.map V.str)) ∧ us.length + m ≤ 22 ∧ (∀ x ∈ us, LtS x) ∧
  ∀ (r : Addr) (zs : List Str) (H' : Hp), H r = none → H' r = some (.lst (zs.map V.str)) → zs.length = m → (∀ z ∈ zs, Nm z ∧ z ∉ us) → zs.Nodup → Tray H' d g (n + 20 * (m : Int)) → But d g H H' → Q (.ref r) H'
def Pnam (d g u r : Addr) (n : Int) (m : Nat) (us : List Str) (H0 : Hp) (i : Nat) (σ : St) (H : Hp) : Prop :=
  ∃ (zs : List Str) (uk : Option V), σ = [some (.ref d), some (.int (m : Int)), some (.ref u), some (.ref r), uk] ∧ But d g H0 H ∧ H r = some (.lst (zs.map V.str)) ∧ zs.length = i ∧ (∀ z ∈ zs, Nm z ∧ z ∉ us) ∧ zs.Nodup ∧ Tray H d g (n + 20 * (i : Int))
/-- _law_flat_kind -/
def spFlat (e : Nat) : Sp := fun vs H Q _ => ∃ (d g nl : Addr) (n deep : Int) (nms : List Str), vs = [.ref d, .ref nl, .int deep] ∧ deep = (e : Int) ∧ 1 ≤ e ∧ Tray H d g n ∧ n + 2 * (e : Int) ≤ 900000 ∧ nl ≠ d ∧ nl ≠ g ∧ H nl = some (.lst (nms.map V.str)) ∧
  nms.length ≤ 1000 ∧ (∀ x ∈ nms, LtS x) ∧ ∀ (v : V) (k : Kd) (H' : Hp), KdAt H' v k → k.flat = true → k.depth ≤ e → k.size ≤ e → (∀ x ∈ k.names, x ∈ nms) → Tray H' d g (n + 2 * (e : Int)) → But d g H H' → Q v H'
/-- _law_kind -/
def spKind (e : Nat) : Sp := fun vs H Q _ => ∃ (d g nl : Addr) (n deep : Int) (nms : List Str), vs = [.ref d, .ref nl, .int deep] ∧ deep = (e : Int) ∧ 1 ≤ e ∧ Tray H d g n ∧ n + 10 * (e : Int) + 10 ≤ 900000 ∧ nl ≠ d ∧ nl ≠ g ∧ H nl = some (.lst (nms.map V.str)) ∧
  nms.length ≤ 1000 ∧ (∀ x ∈ nms, LtS x) ∧ ∀ (v : V) (k : Kd) (H' : Hp), KdAt H' v k → k.plain = true → k.depth ≤ e → k.size ≤ 5 * e → (∀ x ∈ k.names, x ∈ nms) → Tray H' d g (n + 10 * (e : Int) + 10) → But d g H H' → Q v H'
def Pcalled (d g D8 : Addr) (n : Int) (e : Nat) (nms : List Str) (H0 : Hp) (i : Nat) (H : Hp) : Prop :=
  But d g H0 H ∧ Tray H d g (n + 2 * (e : Int) * (i : Int)) ∧ ∃ vs ks, H D8 = some (.lst vs) ∧ KdsAt H vs ks ∧ ks.length = i ∧ ks.all Kd.flat = true ∧ Kd.depths ks ≤ e ∧ Kd.sizes ks ≤ e * i ∧ (∀ x ∈ Kd.namesL ks, x ∈ nms)
section
variable {P : Program} {w : World} {K : PySem.W.Frag} {mg : Str → Option Value} {base : Heap} {f : Addr} {fd : FuncData}
theorem ok_names (B : Bn mg) (F : Fun K "_law_names" "_law_names" s__law_names f fd) (c__law_name : Cal P w K mg base "_law_name" 2 ["tray", "used"] spName) : FnOk P w K mg base CX0 3 f fd ["tray", "many", "used"] spNames := by
  refine F.ok sc__law_names (fun vs H Q E h => ?_) (fun cdv A outer s H vs Q E hr h => ?_)
  · obtain ⟨d, g, u, n, m, us, rfl, _⟩ := h
    rfl
  obtain ⟨d, g, u, n, m, us, rfl, D, hn, nd, ng, hu, h22, hus, q⟩ := h
  refine ⟨_, (pss_cons (ps_set (i := 3) sc__law_names.nd rfl (Or.inl rfl) (pe_lst pa_nil))
    (pss_cons (ps_for PassesOwn.never rfl (pi_range1 rfl B.b_range (pa_cons (pv 1) pa_nil)) (pg_name (i := 4) sc__law_names.nd rfl (Or.inl rfl)) (pss_one (ps_expr (pe_bm PySem.F.plainAttrs_list PySem.F.slot_list_append PySem.F.type_list_append mt_append (pv 3) (pa_cons (pc c__law_name (hr.mono (by first | decide | omega)) (pa_cons (pv 0) (pa_cons (pe_op op_cat (pv 2) (pv 3)) pa_nil))) pa_nil)))))
    (pss_one (ps_ret (pv 3))))), ?_⟩
  refine ⟨Nat.zero_le _, fun r nr => ⟨_, rfl, _, rfl, by omega, by omega, for_range (lo := 0) (n := (m : Int).toNat) (Pnam d g u r n m us H) ?_ ?_ ?_⟩⟩
  · exact ⟨[], none, rfl, (But.refl d g H).new nr, upd_same, rfl, fun z hz => by simp at hz, List.nodup_nil, (D.new nr).le (by simp)⟩
  · rintro i σ H1 hi ⟨zs, uk, rfl, b1, hr1, lz, az, ndz, D1⟩
    have hi2 : i < m := by omega
    have ner : r ≠ d ∧ r ≠ g := D.ne nr
    have hu1 := b1 _ _ nd ng hu
    refine ⟨_, rfl, tyL hr1, _, rfl, _, rfl, _, rfl, u, r, _, _, rfl, rfl, hu1, hr1, ?_, fun c nc => ?_⟩
    · rw [List.length_map, List.length_map]
      exact Nat.le_of_lt (line5 (by omega))
    have nec := D1.ne nc
    have D2 := D1.new (o := .lst (us.map V.str ++ zs.map V.str)) nc
    have e2 : (upd H1 c (.lst (us.map V.str ++ zs.map V.str))) c = some (.lst ((us ++ zs).map V.str)) := by rw [upd_same, List.map_append]
    have b2 := b1.new (o := .lst (us.map V.str ++ zs.map V.str)) nc
    have hr2 : (upd H1 c (.lst (us.map V.str ++ zs.map V.str))) r = some (.lst (zs.map V.str)) := same_new nc _ _ _ hr1
    generalize upd H1 c (.lst (us.map V.str ++ zs.map V.str)) = H2 at D2 e2 b2 hr2
    refine ⟨d, g, c, n + 20 * (i : Int), us ++ zs, rfl, D2, by omega, nec.1, nec.2, e2, by rw [List.length_append]; omega, fun x hx => ?_, fun z H3 hz1 hz2 D3 B3 => ?_⟩
    · rcases List.mem_append.mp hx with hx | hx
      · exact hus x hx
      · exact (az x hx).1.1
    have hr3 := B3 _ _ ner.1 ner.2 hr2
    refine ⟨r, _, _, rfl, rfl, hr3, line5 (by rw [List.length_map]; omega), zs ++ [z], _, rfl, ?_, ?_, ?_, ?_, ?_, ?_⟩
    · exact (b2.trans B3).atNew nr
    · rw [upd_same, List.map_append]
      rfl
    · rw [List.length_append, lz]
      rfl
    · intro y hy
      rcases List.mem_append.mp hy with hy | hy
      · exact az y hy
      · have e : y = z := by simpa using hy
        rw [e]
        exact ⟨hz1, fun h => hz2 (List.mem_append_left _ h)⟩
    · rw [List.nodup_append]
      refine ⟨ndz, by simp, fun a ha b hb e => ?_⟩
      have eb : b = z := by simpa using hb
      exact hz2 (List.mem_append_right _ (by rw [← eb, ← e]; exact ha))
    · exact (D3.le (by omega)).at ner.1 ner.2
  · rintro σ H1 ⟨zs, uk, rfl, b1, hr1, lz, az, ndz, D1⟩
    refine ⟨_, rfl, ?_⟩
    exact q r zs H1 nr hr1 (by omega) az ndz (D1.le (by omega)) b1
theorem ok_flat (B : Bn mg) (F : Fun K "_law_flat_kind" "_law_flat_kind" s__law_flat_kind f fd) (hm : mg "_law_flat_kind" = some (.ref f)) (hb : Binds K fd ["tray", "names", "deep"] [])
    (c__law_draw : Cal P w K mg base "_law_draw" 1 ["tray", "many"] spDraw) : ∀ e : Nat, FnOk P w K mg base CX0 (e + 1) f fd ["tray", "names", "deep"] (spFlat e)
  | 0 => by
    have no : ∀ vs H Q E, ¬ spFlat 0 vs H Q E := fun vs H Q E h => by
      obtain ⟨d, g, nl, n, deep, nms, _, _, h, _⟩ := h
      omega
    exact ⟨fun vs H Q E h => absurd h (no vs H Q E), fun A outer s H args us vs Q E _ _ _ _ h => absurd h (no vs H Q E)⟩
  | e + 1 => by
    have c__law_flat_kind : Cal P w K mg base "_law_flat_kind" (e + 1) ["tray", "names", "deep"] (spFlat e) := ⟨f, fd, ok_flat B F hm hb c__law_draw e, hm, F.kp, hb⟩
    refine F.ok sc__law_flat_kind (fun vs H Q E h => ?_) (fun cdv A outer s H vs Q E hr h => ?_)
    · obtain ⟨d, g, nl, n, deep, nms, rfl, _⟩ := h
      rfl
    obtain ⟨d, g, nl, n, deep, nms, rfl, he, _, D, hn, nd, ng, hnl, h1000, hlt, q⟩ := h
    refine ⟨_, (pss_cons (ps_set (i := 3) sc__law_flat_kind.nd rfl (Or.inl rfl) (pc c__law_draw (hr.mono (by first | decide | omega)) (pa_cons (pv 0) (pa_cons pe_int pa_nil))))
    (pss_cons (ps_if (PW.pt (pw_and (pt_cmpR op_gt (pv 3) pe_int (nomark _)) (pw_and1 (pt_cmpR op_gt (pv 2) pe_int (nomark _))))) (pss_one (ps_ret (pe_tup (pa_cons pe_str (pa_cons (pc c__law_flat_kind (hr.mono (by first | decide | omega)) (pa_cons (pv 0) (pa_cons (pv 1) (pa_cons (pe_op op_sub (pv 2) pe_int) pa_nil)))) pa_nil))))) pss_nil)
    (pss_cons (ps_if (PW.pt (pw_and (pt_cmpR op_gt (pv 3) pe_int (nomark _)) (pw_and1 (pt_cmpR (neD K rfl hr.units) (pv 1) (pe_lst pa_nil) (nomark _))))) (pss_one (ps_ret (pe_tup (pa_cons pe_str (pa_cons (pe_ix (ixL K rfl) (pv 1) (pc c__law_draw (hr.mono (by first | decide | omega)) (pa_cons (pv 0) (pa_cons (pe_callB (lenSeq K rfl) (by rfl) B.b_len PySem.boot_len (pa_cons (pv 1) pa_nil)) pa_nil))) (fun _ _ => rfl)) pa_nil))))) pss_nil)
    (pss_one (ps_ret (pe_ix (ixL K rfl) (pe_lst (pa_cons (pe_tup (pa_cons pe_str pa_nil)) (pa_cons (pe_tup (pa_cons pe_str pa_nil)) pa_nil))) (pe_op op_mod (pv 3) pe_int) (fun _ _ => rfl))))))), ?_⟩
    refine seq_set ?_
    refine ⟨_, rfl, d, g, 7, n, rfl, D, by decide, by decide, by omega, fun way H1 w0 w1 D1 B1 => ?_⟩
    dsimp only
    have hn1 := B1 _ _ nd ng hnl
    refine seq_abs (fun σ' H' => σ' = [some (.ref d), some (.ref nl), some (.int deep), some (.int way)] ∧ H' = H1) (fun σ2 H2 w2 => ?_) (fun nx hnx => ?_)
    · obtain ⟨rfl, rfl⟩ := w2
      refine seq_abs (fun σ' H' => σ' = [some (.ref d), some (.ref nl), some (.int deep), some (.int way)] ∧ But d g H H' ∧ Tray H' d g (n + 1)) (fun σ3 H3 w3 => ?_) (fun nx hnx => ?_)
      · obtain ⟨rfl, B3, D3⟩ := w3
        refine ⟨(by show 1 ≤ sizeLine; decide), fun a na => ⟨(by show 1 ≤ sizeLine; decide), fun b nb => ⟨(by show 2 ≤ sizeLine; decide), fun l nl2 => ?_⟩⟩⟩
        have s4 := ((same_new na (.tup [V.str "num"])).trans (same_new nb (.tup [V.str "text"]))).trans (same_new nl2 (.lst [.ref a, .ref b]))
        have ea : (upd (upd (upd H3 a (.tup [V.str "num"])) b (.tup [V.str "text"])) l (.lst [.ref a, .ref b])) a = some (.tup [V.str "num"]) := same_new nl2 _ _ _ (same_new nb _ _ _ upd_same)
        have eb : (upd (upd (upd H3 a (.tup [V.str "num"])) b (.tup [V.str "text"])) l (.lst [.ref a, .ref b])) b = some (.tup [V.str "text"]) := same_new nl2 _ _ _ upd_same
        have el : (upd (upd (upd H3 a (.tup [V.str "num"])) b (.tup [V.str "text"])) l (.lst [.ref a, .ref b])) l = some (.lst [.ref a, .ref b]) := upd_same
        generalize upd (upd (upd H3 a (.tup [V.str "num"])) b (.tup [V.str "text"])) l (.lst [.ref a, .ref b]) = H4 at s4 ea eb el
        refine ⟨_, rfl, _, _, rfl, rfl, (show (0 : Int) < 2 by decide), ?_⟩
        have hw : way % 2 = 0 ∨ way % 2 = 1 := by omega
        have fin : ∀ (v : V) (k : Kd), KdAt H4 v k → k.flat = true → k.depth = 1 → k.size = 1 → k.names = [] → Q v H4 := fun v k hk h1 h2 h3 h4 =>
          q v k H4 hk h1 (by omega) (by omega) (by rw [h4]; exact fun x hx => by simp at hx) ((D3.le (by omega)).same s4) (B3.trans (But.of_same s4))
        rcases hw with hw | hw
        · exact ⟨_, _, _, _, rfl, rfl, SqL.of el, at_of (j := 0) hw rfl, fin _ _ (.num ea) rfl rfl rfl rfl⟩
        · exact ⟨_, _, _, _, rfl, rfl, SqL.of el, at_of (j := 1) hw rfl, fin _ _ (.text eb) rfl rfl rfl rfl⟩
      · refine ⟨_, rfl, _, _, rfl, rfl, _, rfl, ite2 (fun c => ?_) (fun c => ?_)⟩
        · refine ⟨_, rfl, Nat.zero_le _, fun p np => ?_⟩
          have D3 := D1.new (o := .lst []) np
          have B3 := B1.new (o := .lst []) np
          have hn3 := B3 _ _ nd ng hnl
          refine ⟨.list (nms.map PyData.str), .list [], .lst (SqL.of hn3) (dp_strs nms), .lst (SqL.of upd_same) .nil, shaped_strs (fun x hx => (hlt x hx).2), rfl, _, rfl, ?_⟩
          rw [eqv_nils]
          generalize upd H2 p (.lst []) = H3 at D3 B3 hn3
          cases nms with
          | nil => exact iteF (hnx _ _ ⟨rfl, B3, D3⟩)
          | cons x0 rest =>
            refine iteT ?_
            have lpos : (0 : Int) < (((x0 :: rest).map V.str).length : Int) := by rw [List.length_map, List.length_cons]; omega
            have l22 : (((x0 :: rest).map V.str).length : Int) ≤ 1000 := by rw [List.length_map]; omega
            refine ⟨_, rfl, _, rfl, _, rfl, nl, _, rfl, .inl (SqL.of hn3), d, g, _, n + 1, rfl, D3, lpos, by omega, by omega, fun r6 H6 z0 z1 D6 B6 => ?_⟩
            rw [List.length_map] at z1
            obtain ⟨x, hx, hxm⟩ := str_at z0 z1
            refine ⟨_, _, _, .str x, rfl, rfl, SqL.of (B6 _ _ nd ng hn3), hx, (by show 2 ≤ sizeLine; decide), fun a na => ?_⟩
            have hns : ∀ y ∈ (Kd.of x).names, y ∈ x0 :: rest := fun y hy => by
              have e1 : y = x := by simpa [Kd.names] using hy
              rw [e1]
              exact hxm
            exact q _ (.of x) _ (.of upd_same) rfl (by show 1 ≤ e + 1; omega) (by show 1 ≤ e + 1; omega) hns ((D6.new na).le (by omega)) ((B3.trans B6).new na)
        · exact iteF (hnx _ _ ⟨rfl, B1, D1⟩)
    · refine ⟨_, rfl, _, _, rfl, rfl, _, rfl, ite2 (fun c => ?_) (fun c => ?_)⟩
      · refine ⟨_, rfl, _, _, rfl, rfl, _, rfl, ite2 (fun c2 => ?_) (fun c2 => ?_)⟩
        · have c2' : 1 < deep := of_decide_eq_true c2
          refine ⟨_, rfl, _, rfl, _, rfl, _, _, rfl, rfl, d, g, nl, n + 1, _, nms, rfl, by omega, by omega, D1, by omega, nd, ng, hn1, h1000, hlt, fun v k H2 hk k1 k2 k3 k4 D2 B2 => ?_⟩
          refine ⟨(by show 2 ≤ sizeLine; decide), fun a na => ?_⟩
          exact q _ (.row k) _ (.row upd_same (hk.mono (Tups.of_same (same_new na _)))) k1 (by show k.depth + 1 ≤ e + 1; omega) (by show k.size + 1 ≤ e + 1; omega) k4 ((D2.new na).le (by omega)) ((B1.trans B2).new na)
        · exact hnx _ _ ⟨rfl, rfl⟩
      · exact iteF (hnx _ _ ⟨rfl, rfl⟩)
end
end My
namespace My
open PySem L2
def spFlatTo (E : Nat) : Sp := fun vs H Q X => ∃ e, e ≤ E ∧ spFlat e vs H Q X
section
variable {P : Program} {w : World} {K : PySem.W.Frag} {mg : Str → Option Value} {base : Heap} {f : Addr} {fd : FuncData}
theorem ok_kind (B : Bn mg) (F : Fun K "_law_kind" "_law_kind" s__law_kind f fd) (hm : mg "_law_kind" = some (.ref f)) (hb : Binds K fd ["tray", "names", "deep"] [])
    (c__law_draw : Cal P w K mg base "_law_draw" 1 ["tray", "many"] spDraw) (c__law_flat_kind : Cal P w K mg base "_law_flat_kind" 6 ["tray", "names", "deep"] (spFlatTo 5)) : ∀ e : Nat, e ≤ 5 → FnOk P w K mg base CX0 (e + 7) f fd ["tray", "names", "deep"] (spKind e)
  | 0, _ => by
    have no : ∀ vs H Q E, ¬ spKind 0 vs H Q E := fun vs H Q E h => by
      obtain ⟨d, g, nl, n, deep, nms, _, _, h, _⟩ := h
      omega
    exact ⟨fun vs H Q E h => absurd h (no vs H Q E), fun A outer s H args us vs Q E _ _ _ _ h => absurd h (no vs H Q E)⟩
  | e + 1, le => by
    have c__law_kind : Cal P w K mg base "_law_kind" (e + 7) ["tray", "names", "deep"] (spKind e) := ⟨f, fd, ok_kind B F hm hb c__law_draw c__law_flat_kind e (by omega), hm, F.kp, hb⟩
    refine F.ok sc__law_kind (fun vs H Q E h => ?_) (fun cdv A outer s H vs Q E hr h => ?_)
    · obtain ⟨d, g, nl, n, deep, nms, rfl, _⟩ := h
      rfl
    obtain ⟨d, g, nl, n, deep, nms, rfl, he, _, D, hn, nd, ng, hnl, h1000, hlt, q⟩ := h
    refine ⟨_, (pss_cons (ps_set (i := 3) sc__law_kind.nd rfl (Or.inl rfl) (pc c__law_draw (hr.mono (by first | decide | omega)) (pa_cons (pv 0) (pa_cons pe_int pa_nil))))
    (pss_cons (ps_if (PW.pt (pw_and (pt_cmpR op_eq (pv 3) pe_int (nomark _)) (pw_and1 (pt_cmpR op_gt (pv 2) pe_int (nomark _))))) (pss_cons (ps_set (i := 4) sc__law_kind.nd rfl (Or.inl rfl) (pc c__law_draw (hr.mono (by first | decide | omega)) (pa_cons (pv 0) (pa_cons pe_int pa_nil))))
    (pss_cons (ps_set (i := 5) sc__law_kind.nd rfl (Or.inl rfl) (pe_callTy (tupleOf K rfl) (by rfl) B.b_tuple (by decide +kernel) (pa_cons (pe_lc (own := [("k", 6)]) (g := (gName 6)) rfl sc__law_kind.nd (pi_range1 rfl B.b_range (pa_cons (pv 4) pa_nil)) (blkOk_by (N := ["tray", "names", "deep", "way", "many", "called", "k"]) (sc := defScope s__law_kind) (by decide +kernel)) (fun _ _ _ _ _ => (pg_name (i := 6) sc__law_kind.nd rfl (Or.inl rfl) (hf := Or.inr rfl))) (fun _ _ _ _ _ => pts_nil) (fun _ _ _ _ _ => (pc c__law_flat_kind (hr.mono (by first | decide | omega)) (pa_cons (pv 0) (pa_cons (pv 1) (pa_cons (pe_op op_sub (pv 2) pe_int) pa_nil)))))) pa_nil)))
    (pss_one (ps_ret (pe_tup (pa_cons pe_str (pa_cons (pv 5) (pa_cons (pc c__law_flat_kind (hr.mono (by first | decide | omega)) (pa_cons (pv 0) (pa_cons (pv 1) (pa_cons (pe_op op_sub (pv 2) pe_int) pa_nil)))) pa_nil)))))))) pss_nil)
    (pss_cons (ps_if (PW.pt (pw_and (pt_cmpR op_eq (pv 3) pe_int (nomark _)) (pw_and1 (pt_cmpR op_gt (pv 2) pe_int (nomark _))))) (pss_one (ps_ret (pe_tup (pa_cons pe_str (pa_cons (pc c__law_kind (hr.mono (by first | decide | omega)) (pa_cons (pv 0) (pa_cons (pv 1) (pa_cons (pe_op op_sub (pv 2) pe_int) pa_nil)))) pa_nil))))) pss_nil)
    (pss_one (ps_ret (pc c__law_flat_kind (hr.mono (by first | decide | omega)) (pa_cons (pv 0) (pa_cons (pv 1) (pa_cons (pv 2) pa_nil))))))))), ?_⟩
    refine seq_set ?_
    refine ⟨_, rfl, d, g, 8, n, rfl, D, by decide, by decide, by omega, fun way H1 w0 w1 D1 B1 => ?_⟩
    dsimp only
    have hn1 := B1 _ _ nd ng hnl
    have hn0 : n + 10 * (e : Int) + 20 ≤ 900000 := by omega
    refine seq_abs (fun σ' H' => σ' = [some (.ref d), some (.ref nl), some (.int deep), some (.int way), none, none, none] ∧ H' = H1) (fun σ2 H2 w2 => ?_) (fun nx hnx => ?_)
    · obtain ⟨rfl, rfl⟩ := w2
      refine seq_abs (fun σ' H' => σ' = [some (.ref d), some (.ref nl), some (.int deep), some (.int way), none, none, none] ∧ H' = H2) (fun σ3 H3 w3 => ?_) (fun nx hnx => ?_)
      · obtain ⟨rfl, rfl⟩ := w3
        refine ⟨_, rfl, _, rfl, _, rfl, e + 1, le, d, g, nl, n + 1, deep, nms, rfl, he, by omega, D1, by omega, nd, ng, hn1, h1000, hlt, fun v k H4 hk k1 k2 k3 k4 D4 B4 => ?_⟩
        exact q v k H4 hk (Kd.plain_of_flat k1) k2 (by omega) k4 (D4.le (by omega)) (B1.trans B4)
      · refine ⟨_, rfl, rfl, _, rfl, ite2 (fun c => ?_) (fun c => ?_)⟩
        · refine ⟨_, rfl, _, _, rfl, rfl, _, rfl, ite2 (fun c2 => ?_) (fun c2 => ?_)⟩
          · have c2' : 1 < deep := of_decide_eq_true c2
            refine ⟨_, rfl, _, rfl, _, rfl, _, _, rfl, rfl, d, g, nl, n + 1, _, nms, rfl, by omega, by omega, D1, by omega, nd, ng, hn1, h1000, hlt, fun v k H4 hk k1 k2 k3 k4 D4 B4 => ?_⟩
            refine ⟨(by show 2 ≤ sizeLine; decide), fun a na => ?_⟩
            exact q _ (.row k) _ (.row upd_same (hk.mono (Tups.of_same (same_new na _)))) k1 (by show k.depth + 1 ≤ e + 1; omega) (by show k.size + 1 ≤ 5 * (e + 1); omega) k4 ((D4.new na).le (by omega)) ((B1.trans B4).new na)
          · exact hnx _ _ ⟨rfl, rfl⟩
        · exact iteF (hnx _ _ ⟨rfl, rfl⟩)
    · refine ⟨_, rfl, rfl, _, rfl, ite2 (fun c => ?_) (fun c => ?_)⟩
      · refine ⟨_, rfl, _, _, rfl, rfl, _, rfl, ite2 (fun c2 => ?_) (fun c2 => ?_)⟩
        · have c2' : 1 < deep := of_decide_eq_true c2
          refine ⟨_, rfl, d, g, 4, n + 1, rfl, D1, by decide, by decide, by omega, fun many H2 m0 m1 D2 B2 => ?_⟩
          have B12 := B1.trans B2
          refine ⟨_, rfl, _, rfl, by omega, by omega, fun D8 nD8 => ?_⟩
          have ne8 := D2.ne nD8
          have hn2 := B12 _ _ nd ng hnl
          refine lc_range (lo := 0) (n := many.toNat) (Pcalled d g D8 (n + 1 + 1) e nms H2) ?_ ?_ ?_
          · exact ⟨(But.refl d g H2).new nD8, (D2.new nD8).le (by simp), [], [], upd_same, .nil, rfl, rfl, Nat.zero_le _, Nat.zero_le _, fun x hx => by simp [Kd.namesL] at hx⟩
          · rintro i H3 hi ⟨b3, D3, vs, ks, hv, kv, lk, ak, dk, sk, nk⟩
            have hi4 : i < 4 := by omega
            have e1 : 2 * (e : Int) * (((i + 1 : Nat)) : Int) = 2 * (e : Int) * (i : Int) + 2 * (e : Int) := by rw [Int.natCast_succ, Int.mul_add, Int.mul_one]
            have e2 : 2 * (e : Int) * (i : Int) ≤ 2 * (e : Int) * 3 := Int.mul_le_mul_of_nonneg_left (by omega) (by omega)
            have e3 : e * (i + 1) = e * i + e := Nat.mul_succ e i
            refine ⟨rfl, _, rfl, _, rfl, _, rfl, _, _, rfl, rfl, e, by omega, d, g, nl, n + 1 + 1 + 2 * (e : Int) * (i : Int), _, nms, rfl, by omega, by omega, D3, by omega, nd, ng, b3 _ _ nd ng hn2, h1000, hlt, fun v k H4 hk k1 k2 k3 k4 D4 B4 => ?_⟩
            have T := (D3.tups B4).trans (Tups.upd (o := .lst (vs ++ [v])) (B4 _ _ ne8.1 ne8.2 hv))
            have T2 := Tups.upd (o := .lst (vs ++ [v])) (B4 _ _ ne8.1 ne8.2 hv)
            refine ⟨vs, B4 _ _ ne8.1 ne8.2 hv, line5 (by rw [kv.len]; omega), (b3.trans B4).atNew nD8, ?_, vs ++ [v], ks ++ [k], upd_same, (kv.mono T).app (.cons (hk.mono T2) .nil), by rw [List.length_append, lk]; rfl, ?_, ?_, ?_, ?_⟩
            · rw [e1]
              exact (D4.le (by omega)).at ne8.1 ne8.2
            · rw [List.all_append, ak]
              simp [k1]
            · rw [Kd.depths_app]
              simp [Kd.depths]
              omega
            · rw [Kd.sizes_app, e3]
              simp [Kd.sizes]
              omega
            · rw [Kd.namesL_app]
              intro x hx
              rcases List.mem_append.mp hx with hx | hx
              · exact nk x hx
              · exact k4 x (by simpa [Kd.namesL] using hx)
          rintro H3 ⟨b3, D3, vs, ks, hv, kv, lk, ak, dk, sk, nk⟩
          have e2 : 2 * (e : Int) * ((many.toNat : Nat) : Int) ≤ 2 * (e : Int) * 3 := Int.mul_le_mul_of_nonneg_left (by omega) (by omega)
          have e4 : e * many.toNat ≤ e * 3 := Nat.mul_le_mul_left e (by omega)
          refine ⟨D8, _, rfl, .inl ⟨SqL.of hv, fun t nt => ?_⟩⟩
          have s4 := same_new nt (.tup vs)
          have ht : (upd H3 t (.tup vs)) t = some (.tup vs) := upd_same
          have b4 := (B12.trans b3).new (o := .tup vs) nt
          have D4 := D3.new (o := .tup vs) nt
          generalize upd H3 t (.tup vs) = H4 at s4 ht b4 D4
          refine ⟨_, rfl, _, rfl, _, rfl, _, rfl, _, _, rfl, rfl, e, by omega, d, g, nl, _, _, nms, rfl, by omega, by omega, D4, by omega, nd, ng, b4 _ _ nd ng hnl, h1000, hlt, fun v k H5 hk k1 k2 k3 k4 D5 B5 => ?_⟩
          refine ⟨(by show 3 ≤ sizeLine; decide), fun a na => ?_⟩
          have T5 := (D4.tups B5).trans (Tups.of_same (same_new na (.tup [.str "calls", .ref t, v])))
          have T0 := (Tups.of_same s4).trans T5
          refine q _ (.calls ks k) _ (.calls upd_same (T5 _ _ ht) (kv.mono T0) (hk.mono (Tups.of_same (same_new na _)))) ?_ ?_ ?_ ?_ ((D5.new na).le (by omega)) ((b4.trans B5).new na)
          · show (ks.all Kd.flat && k.flat && decide (ks.length ≤ 3)) = true
            rw [ak, k1, decide_eq_true (by omega)]
            rfl
          · show max (Kd.depths ks) k.depth + 1 ≤ e + 1
            omega
          · show Kd.sizes ks + k.size + 1 ≤ 5 * (e + 1)
            omega
          · intro x hx
            have hx : x ∈ Kd.namesL ks ++ k.names := hx
            rcases List.mem_append.mp hx with hx | hx
            · exact nk x hx
            · exact k4 x hx
        · exact hnx _ _ ⟨rfl, rfl⟩
      · exact iteF (hnx _ _ ⟨rfl, rfl⟩)
end
end My
namespace My
open PySem L2
/-! what stands in a kind, at whatever depth -/
mutual
def Kd.subs : Kd → List Kd
  | .num => [.num]
  | .text => [.text]
  | .of x => [.of x]
  | .row k => .row k :: Kd.subs k
  | .calls ps r => .calls ps r :: (Kd.subsL ps ++ Kd.subs r)
  | .answers n k => .answers n k :: Kd.subs k
def Kd.subsL : List Kd → List Kd
  | [] => []
  | k :: r => Kd.subs k ++ Kd.subsL r
end
theorem Kd.subsL_app : ∀ (a b : List Kd), Kd.subsL (a ++ b) = Kd.subsL a ++ Kd.subsL b
  | [], b => rfl
  | k :: r, b => by rw [List.cons_append, Kd.subsL, Kd.subsL, Kd.subsL_app r b, List.append_assoc]
theorem Kd.subs_inner (k : Kd) : k.subs = k :: Kd.subsL k.inner := by
  cases k with
  | num => rfl
  | text => rfl
  | of x => rfl
  | row k => simp [Kd.subs, Kd.inner, Kd.subsL]
  | calls ps r => simp [Kd.subs, Kd.inner, Kd.subsL, Kd.subsL_app]
  | answers n k => simp [Kd.subs, Kd.inner, Kd.subsL]
mutual
theorem Kd.subs_len : ∀ (k : Kd), k.subs.length = k.size
  | .num => rfl
  | .text => rfl
  | .of _ => rfl
  | .row k => by simp [Kd.subs, Kd.size, Kd.subs_len k]
  | .calls ps r => by simp [Kd.subs, Kd.size, Kd.subsL_len ps, Kd.subs_len r]
  | .answers n k => by simp [Kd.subs, Kd.size, Kd.subs_len k]
theorem Kd.subsL_len : ∀ (ks : List Kd), (Kd.subsL ks).length = Kd.sizes ks
  | [] => rfl
  | k :: r => by simp [Kd.subsL, Kd.sizes, Kd.subs_len k, Kd.subsL_len r]
end
mutual
theorem Kd.subs_size {x : Kd} : ∀ {k : Kd}, x ∈ k.subs → x.size ≤ k.size
  | .num, h => by have e : x = .num := by simpa [Kd.subs] using h
                  rw [e]; exact Nat.le_refl _
  | .text, h => by have e : x = .text := by simpa [Kd.subs] using h
                   rw [e]; exact Nat.le_refl _
  | .of y, h => by have e : x = .of y := by simpa [Kd.subs] using h
                   rw [e]; exact Nat.le_refl _
  | .row k, h => by
    rcases List.mem_cons.mp (show x ∈ Kd.row k :: k.subs from h) with rfl | h
    · exact Nat.le_refl _
    · exact Nat.le_succ_of_le (Kd.subs_size h)
  | .calls ps r, h => by
    rcases List.mem_cons.mp (show x ∈ Kd.calls ps r :: (Kd.subsL ps ++ r.subs) from h) with rfl | h
    · exact Nat.le_refl _
    · show x.size ≤ Kd.sizes ps + r.size + 1
      rcases List.mem_append.mp h with h | h
      · have := Kd.subsL_size h
        omega
      · have := Kd.subs_size h
        omega
  | .answers n k, h => by
    rcases List.mem_cons.mp (show x ∈ Kd.answers n k :: k.subs from h) with rfl | h
    · exact Nat.le_refl _
    · exact Nat.le_succ_of_le (Kd.subs_size h)
theorem Kd.subsL_size {x : Kd} : ∀ {ks : List Kd}, x ∈ Kd.subsL ks → x.size ≤ Kd.sizes ks
  | [], h => by simp [Kd.subsL] at h
  | k :: r, h => by
    show x.size ≤ k.size + Kd.sizes r
    rcases List.mem_append.mp (show x ∈ k.subs ++ Kd.subsL r from h) with h | h
    · have := Kd.subs_size h
      omega
    · have := Kd.subsL_size h
      omega
end
def Kd.isCalls : Kd → Bool
  | .calls _ _ => true
  | _ => false
def Kd.nameOf : Kd → Option Str
  | .of x => some x
  | _ => none
/-- kinds_in: all of them, in some order -/
def spKindsIn : Sp := fun vs H Q _ => ∃ (v : V) (k : Kd), vs = [v] ∧ KdAt H v k ∧ k.size ≤ 50000 ∧
  ∀ (r : Addr) (ws : List V) (ks : List Kd) (H' : Hp), H r = none → H' r = some (.lst ws) → KdsAt H' ws ks → ks.Perm k.subs → Same H H' → Q (.ref r) H'
/-- calls_in -/
def spCallsIn : Sp := fun vs H Q _ => ∃ (v : V) (k : Kd), vs = [v] ∧ KdAt H v k ∧ k.size ≤ 50000 ∧
  ∀ (r : Addr) (ws : List V) (ks : List Kd) (H' : Hp), H r = none → H' r = some (.lst ws) → KdsAt H' ws ks → ks.Perm (k.subs.filter Kd.isCalls) → Same H H' → Q (.ref r) H'
/-- names_in -/
def spNamesIn : Sp := fun vs H Q _ => ∃ (v : V) (k : Kd), vs = [v] ∧ KdAt H v k ∧ k.size ≤ 50000 ∧
  ∀ (r : Addr) (xs : List Str) (H' : Hp), H r = none → H' r = some (.lst (xs.map V.str)) → xs.Perm (k.subs.filterMap Kd.nameOf) → Same H H' → Q (.ref r) H'
/-- a callback in a callback -/
def Kd.ccc (k : Kd) : Bool := (k.subs.filter Kd.isCalls).any fun c => decide (1 < (c.subs.filter Kd.isCalls).length)
def spCcc : Sp := fun vs H Q _ => ∃ (v : V) (k : Kd), vs = [v] ∧ KdAt H v k ∧ k.size ≤ 50000 ∧ ∀ H', Same H H' → Q (.bl k.ccc) H'
def Wkin (v : V) (k : Kd) (rf rw : Addr) (H0 : Hp) (m : Nat) (σ : St) (H : Hp) : Prop :=
  ∃ (fs : List V) (fk : List Kd) (ws : List V) (wk : List Kd) (u3 : Option V), σ = [some v, some (.ref rf), some (.ref rw), u3] ∧ Same H0 H ∧ H rf = some (.lst fs) ∧ KdsAt H fs fk ∧ H rw = some (.lst ws) ∧ KdsAt H ws wk ∧
    (fk ++ Kd.subsL wk).Perm k.subs ∧ m = Kd.sizes wk
theorem KdsAt.snoc {H : Hp} {x : V} : ∀ {l : List V} {ks : List Kd}, KdsAt H (l ++ [x]) ks → ∃ kl k, ks = kl ++ [k] ∧ KdsAt H l kl ∧ KdAt H x k
  | [], _, .cons h .nil => ⟨[], _, rfl, .nil, h⟩
  | _ :: l, _, .cons h t => by
    obtain ⟨kl, k, e, a, b⟩ := KdsAt.snoc (l := l) t
    exact ⟨_ :: kl, k, by rw [e]; rfl, .cons h a, b⟩
theorem any_perm {α : Type} {f : α → Bool} {a b : List α} (h : a.Perm b) : a.any f = b.any f := by
  rw [Bool.eq_iff_iff, List.any_eq_true, List.any_eq_true]
  constructor
  · rintro ⟨x, m, e⟩
    exact ⟨x, h.mem_iff.mp m, e⟩
  · rintro ⟨x, m, e⟩
    exact ⟨x, h.mem_iff.mpr m, e⟩
theorem all_perm {α : Type} {f : α → Bool} {a b : List α} (h : a.Perm b) : a.all f = b.all f := by
  rw [Bool.eq_iff_iff, List.all_eq_true, List.all_eq_true]
  constructor
  · intro z x m
    exact z x (h.mem_iff.mpr m)
  · intro z x m
    exact z x (h.mem_iff.mp m)
theorem all_perm2 {α : Type} {f g : α → Bool} {a b : List α} (h : a.Perm b) (e : ∀ x, f x = g x) : a.all f = b.all g := by
  rw [funext e]
  exact all_perm h
def Pfil (H0 : Hp) (D : Addr) (ks : List Kd) (i : Nat) (H : Hp) : Prop := Same H0 H ∧ ∃ ws, H D = some (.lst ws) ∧ KdsAt H ws ((ks.take i).filter Kd.isCalls)
def Pnms (H0 : Hp) (D : Addr) (ks : List Kd) (i : Nat) (H : Hp) : Prop := Same H0 H ∧ H D = some (.lst (((ks.take i).filterMap Kd.nameOf).map V.str))
def Pbls (H0 : Hp) (D : Addr) (bs : List Bool) (i : Nat) (H : Hp) : Prop := Same H0 H ∧ H D = some (.lst ((bs.take i).map V.bl))
/-- a kind's head word -/
theorem KdAt.head {H : Hp} {v : V} {k : Kd} (h : KdAt H v k) : ∃ a w r, v = .ref a ∧ H a = some (.tup (.str w :: r)) ∧ decide (V.str w = V.str "calls") = k.isCalls ∧ decide (V.str w = V.str "of") = k.nameOf.isSome ∧
    (∀ x, k.nameOf = some x → r = [.str x]) ∧ (∀ ps q, k = .calls ps q → ∃ b vs u, r = [.ref b, u] ∧ H b = some (.tup vs) ∧ vs.length = ps.length) := by
  cases h with
  | num h => exact ⟨_, _, _, rfl, h, by decide, by decide, fun x e => (by cases e), fun _ _ e => (by cases e)⟩
  | text h => exact ⟨_, _, _, rfl, h, by decide, by decide, fun x e => (by cases e), fun _ _ e => (by cases e)⟩
  | @of a x h => exact ⟨_, _, _, rfl, h, (show decide (V.str "of" = V.str "calls") = false by decide), (show decide (V.str "of" = V.str "of") = true by decide), fun x e => (by cases e; rfl), fun _ _ e => (by cases e)⟩
  | row h hk => exact ⟨_, _, _, rfl, h, (show decide (V.str "row" = V.str "calls") = false by decide), (show decide (V.str "row" = V.str "of") = false by decide), fun x e => (by cases e), fun _ _ e => (by cases e)⟩
  | calls h hb hp hr => exact ⟨_, _, _, rfl, h, (show decide (V.str "calls" = V.str "calls") = true by decide), (show decide (V.str "calls" = V.str "of") = false by decide), fun x e => (by cases e), fun _ _ e => (by cases e; exact ⟨_, _, _, rfl, hb, hp.len⟩)⟩
  | answers h hk => exact ⟨_, _, _, rfl, h, (show decide (V.str "answers" = V.str "calls") = false by decide), (show decide (V.str "answers" = V.str "of") = false by decide), fun x e => (by cases e), fun _ _ e => (by cases e)⟩
section
variable {P : Program} {w : World} {K : PySem.W.Frag} {mg : Str → Option Value} {base : Heap} {f : Addr} {fd : FuncData}
theorem ok_kinds_in (F : Fun K "kinds_in" "kinds_in" s_kinds_in f fd) (c_kinds_directly_in : Cal P w K mg base "kinds_directly_in" 1 ["kind"] spInner) : FnOk P w K mg base CX0 2 f fd ["kind"] spKindsIn := by
  refine F.ok sc_kinds_in (fun vs H Q E h => ?_) (fun cdv A outer s H vs Q E hr h => ?_)
  · obtain ⟨v, k, rfl, _⟩ := h
    rfl
  obtain ⟨v, k, rfl, hk, hs, q⟩ := h
  refine ⟨_, (pss_cons (ps_set (i := 1) sc_kinds_in.nd rfl (Or.inl rfl) (pe_lst pa_nil))
    (pss_cons (ps_set (i := 2) sc_kinds_in.nd rfl (Or.inl rfl) (pe_lst (pa_cons (pv 0) pa_nil)))
    (pss_cons (ps_while PassesOwn.never (truth K rfl (pv 2)) (pss_cons (ps_set (i := 3) sc_kinds_in.nd rfl (Or.inl rfl) (pe_bm0 PySem.F.plainAttrs_list PySem.F.slot_list_pop PySem.F.type_list_pop mt_pop (pv 2)))
    (pss_cons (ps_expr (pe_bm PySem.F.plainAttrs_list PySem.F.slot_list_append PySem.F.type_list_append mt_append (pv 1) (pa_cons (pv 3) pa_nil)))
    (pss_one (ps_expr (pe_bm PySem.F.plainAttrs_list PySem.F.slot_list_extend PySem.F.type_list_extend mt_extend (pv 2) (pa_cons (pc c_kinds_directly_in (hr.mono (by first | decide | omega)) (pa_cons (pv 3) pa_nil)) pa_nil)))))))
    (pss_one (ps_ret (pv 1)))))), ?_⟩
  refine ⟨Nat.zero_le _, fun rf nrf => ⟨_, rfl, (by show 1 ≤ sizeLine; decide), fun rw nrw => ?_⟩⟩
  have s2 := (same_new nrf (.lst [])).trans (same_new nrw (.lst [v]))
  have hrf : (upd (upd H rf (.lst [])) rw (.lst [v])) rf = some (.lst []) := same_new nrw _ _ _ upd_same
  have hrw : (upd (upd H rf (.lst [])) rw (.lst [v])) rw = some (.lst [v]) := upd_same
  have nfw : rf ≠ rw := ne_of_none (H := upd H rf (.lst [])) upd_same nrw
  have nrw0 : H rw = none := (same_new nrf (.lst [])).free nrw
  generalize upd (upd H rf (.lst [])) rw (.lst [v]) = Hs at s2 hrf hrw
  refine ⟨Wkin v k rf rw H, ⟨Kd.sizes [k], [], [], [v], [k], none, rfl, s2, hrf, .nil, hrw, .cons (hk.mono (Tups.of_same s2)) .nil, by simp [Kd.subsL], rfl⟩, fun m σ H1 w1 => ?_⟩
  obtain ⟨fs, fk, ws, wk, u3, rfl, s1, hf, kf, hw, kw, pm, rfl⟩ := w1
  refine ⟨_, rfl, _, .inl ⟨ws, SqL.of hw, rfl⟩, ?_⟩
  by_cases hn : ws = []
  · subst hn
    refine iteF ⟨_, rfl, ?_⟩
    cases kw
    rw [Kd.subsL, List.append_nil] at pm
    exact q rf fs fk H1 nrf hf kf pm s1
  · have e : ws = ws.dropLast ++ [ws.getLast hn] := (List.dropLast_concat_getLast hn).symm
    generalize ws.dropLast = l at e
    generalize ws.getLast hn = x at e
    subst e
    obtain ⟨kl, kx, rfl, hkl, hkx⟩ := kw.snoc
    refine ifT (by cases l <;> rfl) ?_
    have hz : Kd.sizes (kl ++ [kx]) = Kd.sizes kl + kx.size := by rw [Kd.sizes_app]; simp [Kd.sizes]
    have hzi := Kd.size_inner kx
    have plen := pm.length_eq
    rw [List.length_append, Kd.subsL_len, Kd.subs_len, hz] at plen
    have lf := kf.len
    have ll := hkl.len
    have l1 := Kd.len_sizes kl
    have l2 := Kd.len_sizes kx.inner
    refine ⟨fun σ' H' => ∃ m', m' < Kd.sizes (kl ++ [kx]) ∧ Wkin v k rf rw H m' σ' H', fun _ _ h => h, ?_⟩
    refine ⟨_, rfl, tyL hw, rw, _, x, rfl, rfl, hw, by simp, ?_⟩
    rw [List.dropLast_concat]
    have T2 : Tups H1 (upd H1 rw (.lst l)) := Tups.upd hw
    have s3 : Same H (upd H1 rw (.lst l)) := Same.atNew s1 nrw0
    have hf2 : (upd H1 rw (.lst l)) rf = some (.lst fs) := by rw [upd_ne nfw]; exact hf
    have hw2 : (upd H1 rw (.lst l)) rw = some (.lst l) := upd_same
    generalize upd H1 rw (.lst l) = H2 at T2 s3 hf2 hw2
    refine ⟨_, rfl, tyL hf2, _, rfl, rf, fs, x, rfl, rfl, hf2, line5 (by omega), ?_⟩
    have T3 : Tups H2 (upd H2 rf (.lst (fs ++ [x]))) := Tups.upd hf2
    have s4 : Same H (upd H2 rf (.lst (fs ++ [x]))) := Same.atNew s3 nrf
    have hf3 : (upd H2 rf (.lst (fs ++ [x]))) rf = some (.lst (fs ++ [x])) := upd_same
    have hw3 : (upd H2 rf (.lst (fs ++ [x]))) rw = some (.lst l) := by rw [upd_ne nfw.symm]; exact hw2
    generalize upd H2 rf (.lst (fs ++ [x])) = H3 at T3 s4 hf3 hw3
    have T13 := T2.trans T3
    refine ⟨_, rfl, tyL hw3, _, rfl, x, kx, rfl, hkx.mono T13, by omega, fun r ys H4 nr hr4 kys s5 => ?_⟩
    have ly := kys.len
    refine ⟨rw, r, l, ys, rfl, rfl, s5 _ _ hw3, hr4, Nat.le_of_lt (line5 (by omega)), Kd.sizes (kl ++ kx.inner), ?_, fs ++ [x], fk ++ [kx], l ++ ys, kl ++ kx.inner, _, rfl, Same.atNew (s4.trans s5) nrw0, ?_, ?_, upd_same, ?_, ?_, rfl⟩
    · rw [Kd.sizes_app, hz]
      omega
    · rw [upd_ne nfw]
      exact s5 _ _ hf3
    · have T := T13.trans ((Tups.of_same s5).trans (Tups.upd (o := .lst (l ++ ys)) (s5 _ _ hw3)))
      exact (kf.mono T).app (.cons (hkx.mono T) .nil)
    · have T := T13.trans ((Tups.of_same s5).trans (Tups.upd (o := .lst (l ++ ys)) (s5 _ _ hw3)))
      exact (hkl.mono T).app (kys.mono (Tups.upd (s5 _ _ hw3)))
    · refine List.Perm.trans ?_ pm
      rw [Kd.subsL_app, Kd.subsL_app]
      have e : Kd.subsL [kx] = kx :: Kd.subsL kx.inner := by simp [Kd.subsL, Kd.subs_inner kx]
      rw [e, List.append_assoc]
      refine List.Perm.append_left _ ?_
      refine List.Perm.trans ?_ List.perm_middle.symm
      exact List.Perm.refl _
theorem ok_calls_in (F : Fun K "calls_in" "calls_in" s_calls_in f fd) (c_kinds_in : Cal P w K mg base "kinds_in" 2 ["kind"] spKindsIn) : FnOk P w K mg base CX0 3 f fd ["kind"] spCallsIn := by
  refine F.ok sc_calls_in (fun vs H Q E h => ?_) (fun cdv A outer s H vs Q E hr h => ?_)
  · obtain ⟨v, k, rfl, _⟩ := h
    rfl
  obtain ⟨v, k, rfl, hk, hs, q⟩ := h
  refine ⟨_, (pss_one (ps_ret (pe_lc (own := [("each", 1)]) (g := (gName 1)) rfl sc_calls_in.nd (piL K rfl (pc c_kinds_in (hr.mono (by first | decide | omega)) (pa_cons (pv 0) pa_nil))) (blkOk_by (N := ["kind", "each"]) (sc := defScope s_calls_in) (by decide +kernel)) (fun _ _ _ _ _ => (pg_name (i := 1) sc_calls_in.nd rfl (Or.inl rfl) (hf := Or.inr rfl))) (fun _ _ _ _ _ => (pts_one (pt_cmpR op_eq (pe_ix (ixT K rfl) (pv 1) pe_int (fun _ _ => rfl)) pe_str (nomark _)))) (fun _ _ _ _ _ => (pv 1))))), ?_⟩
  refine ⟨_, rfl, v, k, rfl, hk, hs, fun r ws ks H1 nr hr1 kws pm s1 => ⟨r, rfl, ⟨_, SqL.of hr1⟩, fun D nD => lc_list (xs := ws) (Pfil H1 D ks) ?_ ?_ ?_ ?_⟩⟩
  · exact ⟨same_new nD _, [], upd_same, .nil⟩
  · exact fun i H2 _ p => SqL.of (p.1 _ _ hr1)
  · rintro i x H2 hx ⟨s2, acc, hacc, kacc⟩
    obtain ⟨kx, hkx, kdx⟩ := kws.get i x hx
    have kd2 := kdx.mono (Tups.of_same s2)
    obtain ⟨a, w, rr, rfl, ha, e1, _, _, _⟩ := kd2.head
    have lz := kacc.len
    have l2 : ((ks.take i).filter Kd.isCalls).length ≤ 50000 := by
      have h1 := List.length_filter_le Kd.isCalls (ks.take i)
      have h2 := List.length_take_le' i ks
      have h3 := pm.length_eq
      rw [Kd.subs_len] at h3
      omega
    refine ⟨rfl, _, rfl, _, _, _, _, rfl, rfl, SqT.of ha, at_of rfl rfl, rfl, _, rfl, ?_⟩
    rw [e1]
    cases hc : kx.isCalls with
    | true =>
      refine iteT ⟨_, rfl, _, hacc, line5 (by omega), Same.atNew s2 nD, _, upd_same, ?_⟩
      rw [← take_next hkx, List.filter_append]
      have T := Tups.upd (o := .lst (acc ++ [V.ref a])) hacc
      exact (kacc.mono T).app (by simp only [List.filter_cons, hc, if_true, List.filter_nil]; exact .cons (kd2.mono T) .nil)
    | false =>
      refine iteF ⟨s2, acc, hacc, ?_⟩
      rw [← take_next hkx, List.filter_append]
      have e : [kx].filter Kd.isCalls = [] := by simp [hc]
      rw [e, List.append_nil]
      exact kacc
  · rintro H2 ⟨s2, acc, hacc, kacc⟩
    rw [kws.len, List.take_length] at kacc
    exact q D acc _ H2 (s1.free nD) hacc kacc (pm.filter _) (s1.trans s2)
theorem ok_ccc (B : Bn mg) (F : Fun K "has_calls_in_calls" "has_calls_in_calls" s_has_calls_in_calls f fd) (c_calls_in : Cal P w K mg base "calls_in" 3 ["kind"] spCallsIn) : FnOk P w K mg base CX0 4 f fd ["kind"] spCcc := by
  refine F.ok sc_has_calls_in_calls (fun vs H Q E h => ?_) (fun cdv A outer s H vs Q E hr h => ?_)
  · obtain ⟨v, k, rfl, _⟩ := h
    rfl
  obtain ⟨v, k, rfl, hk, hs, q⟩ := h
  refine ⟨_, (pss_one (ps_ret (pe_callB (anyOf K rfl rfl) (by rfl) B.b_any (by decide +kernel) (pa_cons (pe_lc (own := [("each", 1)]) (g := (gName 1)) rfl sc_has_calls_in_calls.nd (piL K rfl (pc c_calls_in (hr.mono (by first | decide | omega)) (pa_cons (pv 0) pa_nil))) (blkOk_by (N := ["kind", "each"]) (sc := defScope s_has_calls_in_calls) (by decide +kernel)) (fun _ _ _ _ _ => (pg_name (i := 1) sc_has_calls_in_calls.nd rfl (Or.inl rfl) (hf := Or.inr rfl))) (fun _ _ _ _ _ => pts_nil) (fun _ _ _ _ _ => (pe_cmpR op_gt (pe_callB (lenSeq K rfl) (by rfl) B.b_len PySem.boot_len (pa_cons (pc c_calls_in (hr.mono (by first | decide | omega)) (pa_cons (pv 1) pa_nil)) pa_nil)) pe_int (nomark _)))) pa_nil)))), ?_⟩
  refine ⟨_, rfl, v, k, rfl, hk, hs, fun r ws ks H1 nr hr1 kws pm s1 => ⟨r, rfl, ⟨_, SqL.of hr1⟩, fun D nD => lc_list (xs := ws) (Pbls H1 D (ks.map fun c => decide (1 < (c.subs.filter Kd.isCalls).length))) ?_ ?_ ?_ ?_⟩⟩
  · exact ⟨same_new nD _, upd_same⟩
  · exact fun i H2 _ p => SqL.of (p.1 _ _ hr1)
  · rintro i x H2 hx ⟨s2, hacc⟩
    obtain ⟨kx, hkx, kdx⟩ := kws.get i x hx
    have hkm : kx ∈ k.subs := (List.mem_filter.mp (pm.mem_iff.mp (List.mem_of_getElem? hkx))).1
    have hil : i < ks.length := (List.getElem?_eq_some_iff.mp hkx).1
    have hle := pm.length_eq
    have hfl := List.length_filter_le Kd.isCalls k.subs
    rw [Kd.subs_len] at hfl
    have hsz : kx.size ≤ 50000 := Nat.le_trans (Kd.subs_size hkm) hs
    refine ⟨rfl, _, rfl, x, kx, rfl, kdx.mono (Tups.of_same s2), hsz, fun r2 ws2 ks2 H3 nr2 hr3 kws2 pm2 s3 => ⟨r2, _, rfl, .inl (SqL.of hr3), _, _, rfl, rfl, _, s3 _ _ hacc, ?_, Same.atNew (s2.trans s3) nD, ?_⟩⟩
    · rw [List.length_map]
      have h2 := List.length_take_le' i (ks.map fun c => decide (1 < (c.subs.filter Kd.isCalls).length))
      rw [List.length_map] at h2
      exact line5 (by omega)
    · have hb : (ks.map fun c => decide (1 < (c.subs.filter Kd.isCalls).length))[i]? = some (decide (1 < (kx.subs.filter Kd.isCalls).length)) := by rw [List.getElem?_map, hkx]; rfl
      rw [upd_same, ← take_next hb, List.map_append]
      have e : (decide ((1 : Int) < ((ws2.length : Nat) : Int))) = decide (1 < (kx.subs.filter Kd.isCalls).length) := by
        rw [kws2.len, pm2.length_eq]
        exact decide_eq_decide.mpr (by omega)
      show some (HO.lst (_ ++ [V.bl (decide ((1 : Int) < ((ws2.length : Nat) : Int)))])) = _
      rw [e]
      rfl
  · rintro H2 ⟨s2, hacc⟩
    have hl : ws.length = (ks.map fun c => decide (1 < (c.subs.filter Kd.isCalls).length)).length := by rw [List.length_map, kws.len]
    rw [hl, List.take_length] at hacc
    refine ⟨D, _, rfl, SqL.of hacc, ?_⟩
    have e : (ks.map fun c => decide (1 < (c.subs.filter Kd.isCalls).length)).any id = k.ccc := by
      unfold Kd.ccc
      rw [List.any_map, ← any_perm pm]
      rfl
    rw [e]
    exact q H2 (s1.trans s2)
end
end My
namespace My
open PySem L2
/-- a dict whose text keys are these names -/
def DKeys (H : Hp) (a : Addr) (ns : List Str) : Prop := ∃ kvs, Rd H a (.dK kvs) ∧ ∀ x : Str, (valV kvs (Sum.inr x : Key)).isSome = decide (x ∈ ns)
theorem rdSame {H H' : Hp} {a : Addr} {o : HO} (h : Rd H a o) (s : Same H H') : Rd H' a o := by
  rcases h with h | ⟨u, h⟩
  · exact .inl (s _ _ h)
  · exact .inr ⟨u, s _ _ h⟩
theorem DKeys.same {H H' : Hp} {a : Addr} {ns : List Str} (h : DKeys H a ns) (s : Same H H') : DKeys H' a ns := by
  obtain ⟨kvs, r, k⟩ := h
  exact ⟨kvs, rdSame r s, k⟩
theorem DKeys.get {H : Hp} {a : Addr} {ns : List Str} (h : DKeys H a ns) (x : Str) : ∃ o, DGet H a (.str x) o ∧ o.isSome = decide (x ∈ ns) := by
  obtain ⟨kvs, r, k⟩ := h
  exact ⟨_, .inl ⟨kvs, .inr x, r, rfl, rfl⟩, k x⟩
def Kd.arity : Kd → Nat
  | .calls ps _ => ps.length
  | _ => 0
/-- a kind that may stand in a declaration or a door, over these names -/
def Kd.sound (ns : List Str) (k : Kd) : Bool :=
  decide (k.depth ≤ 4) && (!k.ccc && ((k.subs.filter Kd.isCalls).all (fun c => decide (c.arity ≤ 3)) && (k.subs.filterMap Kd.nameOf).all fun x => decide (x ∈ ns)))
def spSound : Sp := fun vs H Q _ => ∃ (da : Addr) (ns : List Str) (v : V) (k : Kd), vs = [.ref da, v] ∧ DKeys H da ns ∧ KdAt H v k ∧ k.size ≤ 50000 ∧ ∀ H', Same H H' → Q (.bl (k.sound ns)) H'
/-- a name -/
def nmOk (z : Str) : Bool := !(decide (z ∈ (["num", "text"] : List Str))) && (decide (1 ≤ z.length) && decide (z.length ≤ 8)) && z.cps.toList.all fun c => decide (c ∈ abc.cps.toList)
def spIsName : Sp := fun vs H Q _ => ∃ (z : Str), vs = [.str z] ∧ z.length ≤ 100000 ∧ ∀ H', Same H H' → Q (.bl (nmOk z)) H'
def spTwice (K : PySem.W.Frag) : Sp := fun vs H Q _ => ∃ (l : Addr) (xs : List Str), vs = [.ref l] ∧ (SqL K H l (xs.map V.str) ∨ SqT K H l (xs.map V.str)) ∧ xs.length ≤ 1000 ∧ ∀ H', Same H H' → Q (.bl (!decide xs.Nodup)) H'
/-- names of rows -/
def nmsOk (xs : List Str) : Bool := decide (xs.length ≤ 6) && (xs.all nmOk && decide xs.Nodup)
def spNamesSound (K : PySem.W.Frag) : Sp := fun vs H Q _ => ∃ (l : Addr) (xs : List Str), vs = [.ref l] ∧ SqL K H l (xs.map V.str) ∧ xs.length ≤ 1000 ∧ (∀ x ∈ xs, x.length ≤ 100000) ∧ ∀ H', Same H H' → Q (.bl (nmsOk xs)) H'
section
variable {P : Program} {w : World} {K : PySem.W.Frag} {mg : Str → Option Value} {base : Heap} {f : Addr} {fd : FuncData} {aT aF : Addr}
theorem ok_is_name (B : Bn mg) (M : Mn K mg aT aF) (F : Fun K "is_name" "is_name" s_is_name f fd) : FnOk P w K mg base CX0 1 f fd ["text"] spIsName := by
  refine F.ok sc_is_name (fun vs H Q E h => ?_) (fun cdv A outer s H vs Q E hr h => ?_)
  · obtain ⟨z, rfl, _⟩ := h
    rfl
  obtain ⟨z, rfl, hz, q⟩ := h
  refine ⟨_, (pss_cons (ps_if (PW.pt (pw_or (pt_cmpR (inSeq K rfl) (pv 0) (pgT M.m_TAKEN) (by rfl)) (pw_or1 (pt_not (pt_chain op_le op_le pe_int (pe_callB call_len_str (by rfl) B.b_len PySem.boot_len (pa_cons (pv 0) pa_nil)) (pgI M.m_LONGEST)))))) (pss_one (ps_ret pe_bl)) pss_nil)
    (pss_one (ps_ret (pe_callB (allOf K rfl rfl) (by rfl) B.b_all (by decide +kernel) (pa_cons (pe_lc (own := [("sign", 1)]) (g := (gName 1)) rfl sc_is_name.nd (pi_str (pv 0)) (blkOk_by (N := ["text", "sign"]) (sc := defScope s_is_name) (by decide +kernel)) (fun _ _ _ _ _ => (pg_name (i := 1) sc_is_name.nd rfl (Or.inl rfl) (hf := Or.inr rfl))) (fun _ _ _ _ _ => pts_nil) (fun _ _ _ _ _ => (pe_cmpR op_in_sign (pv 1) (pgS M.m_LETTERS) (by rfl)))) pa_nil))))), ?_⟩
  have hzl : z.length ≤ sizeLine := Nat.le_of_lt (line5 hz)
  refine ⟨_, rfl, aT, _, rfl, .inr (M.q_TAKEN H), rfl, by rfl, _, rfl, ?_⟩
  have e0 : (if false = true then !inV (.str z) [V.str "num", V.str "text"] else inV (.str z) [V.str "num", V.str "text"]) = decide (z ∈ (["num", "text"] : List Str)) := inV_str (us := ["num", "text"])
  rw [e0]
  cases c0 : decide (z ∈ (["num", "text"] : List Str)) with
  | true =>
    refine iteT ?_
    have e : nmOk z = false := by unfold nmOk; rw [c0]; rfl
    rw [← e]
    exact q H (Same.refl _)
  | false =>
    refine iteF ?_
    refine ⟨_, rfl, _, rfl, hzl, _, _, rfl, rfl, _, rfl, ?_⟩
    have e1 : decide ((1 : Int) ≤ ((z.length : Nat) : Int)) = decide (1 ≤ z.length) := decide_eq_decide.mpr (by omega)
    have e2 : decide (((z.length : Nat) : Int) ≤ 8) = decide (z.length ≤ 8) := decide_eq_decide.mpr (by omega)
    rw [e1]
    cases c1 : decide (1 ≤ z.length) with
    | false =>
      refine iteF ⟨_, rfl, ?_⟩
      refine iteT ?_
      have e : nmOk z = false := by unfold nmOk; rw [c0, c1]; rfl
      rw [← e]
      exact q H (Same.refl _)
    | true =>
      refine iteT ⟨_, _, rfl, rfl, _, rfl, ?_⟩
      rw [e2]
      cases c2 : decide (z.length ≤ 8) with
      | false =>
        refine iteT ?_
        have e : nmOk z = false := by unfold nmOk; rw [c0, c1, c2]; rfl
        rw [← e]
        exact q H (Same.refl _)
      | true =>
        refine iteF ?_
        refine ⟨_, rfl, z, rfl, fun D nD => ⟨fun i m H' => m = z.cps.toList.length - i ∧ i ≤ z.cps.toList.length ∧ Pbls H D (z.cps.toList.map fun c => decide (c ∈ abc.cps.toList)) i H', ⟨z.cps.toList.length, by simp, Nat.zero_le _, same_new nD _, upd_same⟩, ?_⟩⟩
        rintro i m H1 ⟨rfl, hi, s1, hacc⟩
        have hsz : z.cps.toList.length = z.cps.size := Array.length_toList
        have hzs : z.cps.size ≤ 100000 := hz
        by_cases hlt : i < z.cps.toList.length
        · refine .inr ⟨by show i < z.cps.size; omega, Pbls H D (z.cps.toList.map fun c => decide (c ∈ abc.cps.toList)) (i + 1), fun H' p' => ⟨z.cps.toList.length - (i + 1), by omega, rfl, hlt, p'⟩, fun x H' y => ?_⟩
          obtain ⟨e, c, hc, rfl⟩ := y
          subst e
          have hc2 : z.cps.toList[i]? = some c := by rw [Array.getElem?_toList]; exact hc
          refine ⟨rfl, _, rfl, c, _, rfl, rfl, _, hacc, ?_, Same.atNew s1 nD, ?_⟩
          · rw [List.length_map]
            have h2 := List.length_take_le' i (z.cps.toList.map fun c => decide (c ∈ abc.cps.toList))
            rw [List.length_map] at h2
            exact line5 (by omega)
          · have hb2 : (z.cps.toList.map fun c => decide (c ∈ abc.cps.toList))[i]? = some (decide (c ∈ abc.cps.toList)) := by rw [List.getElem?_map, hc2]; rfl
            rw [upd_same, ← take_next hb2, List.map_append]
            rfl
        · have e : i = z.cps.toList.length := by omega
          subst e
          refine .inl ⟨by show z.cps.size ≤ _; omega, ?_⟩
          have hl2 : z.cps.toList.length = (z.cps.toList.map fun c => decide (c ∈ abc.cps.toList)).length := by rw [List.length_map]
          rw [hl2, List.take_length] at hacc
          refine ⟨D, _, rfl, SqL.of hacc, ?_⟩
          have e : (z.cps.toList.map fun c => decide (c ∈ abc.cps.toList)).all id = nmOk z := by
            unfold nmOk
            rw [c0, c1, c2, List.all_map]
            rfl
          rw [e]
          exact q H1 s1
end
end My
namespace My
open PySem L2
/-! (the same as in F6 and F17, where those are not there) -/
theorem Kd.namesL_mem {x : Str} : ∀ {ks : List Kd} {k : Kd}, k ∈ ks → x ∈ k.names → x ∈ Kd.namesL ks
  | y :: r, k, h, hx => by
    show x ∈ y.names ++ Kd.namesL r
    rcases List.mem_cons.mp h with rfl | h
    · exact List.mem_append_left _ hx
    · exact List.mem_append_right _ (Kd.namesL_mem h hx)
theorem Kd.depths_mem : ∀ {ks : List Kd} {k : Kd}, k ∈ ks → k.depth ≤ Kd.depths ks
  | y :: r, k, h => by
    rw [Kd.depths]
    rcases List.mem_cons.mp h with rfl | h
    · omega
    · have := Kd.depths_mem h
      omega
theorem flat_calls : ∀ {k : Kd}, k.flat = true → k.subs.filter Kd.isCalls = []
  | .num, _ => rfl
  | .text, _ => rfl
  | .of _, _ => rfl
  | .row k, h => by
    show (Kd.row k :: k.subs).filter Kd.isCalls = []
    rw [List.filter_cons_of_neg (by simp [Kd.isCalls])]
    exact flat_calls (k := k) h
theorem flats_calls : ∀ {ks : List Kd}, ks.all Kd.flat = true → (Kd.subsL ks).filter Kd.isCalls = []
  | [], _ => rfl
  | k :: r, h => by
    rw [List.all_cons, Bool.and_eq_true_iff] at h
    show (k.subs ++ Kd.subsL r).filter Kd.isCalls = []
    rw [List.filter_append, flat_calls h.1, flats_calls h.2]
    rfl
theorem plain_calls : ∀ {k : Kd}, k.plain = true → k.subs.filter Kd.isCalls = [] ∨ ∃ c : Kd, k.subs.filter Kd.isCalls = [c] ∧ c.subs.filter Kd.isCalls = [c] ∧ c.arity ≤ 3
  | .num, _ => .inl rfl
  | .text, _ => .inl rfl
  | .of _, _ => .inl rfl
  | .row k, h => by
    have e : (Kd.row k).subs.filter Kd.isCalls = k.subs.filter Kd.isCalls := by
      show (Kd.row k :: k.subs).filter Kd.isCalls = _
      rw [List.filter_cons_of_neg (by simp [Kd.isCalls])]
    rw [e]
    exact plain_calls (k := k) h
  | .calls ps r, h => by
    have h : (ps.all Kd.flat && r.flat && decide (ps.length ≤ 3)) = true := h
    rw [Bool.and_eq_true_iff, Bool.and_eq_true_iff, decide_eq_true_iff] at h
    have e : (Kd.calls ps r).subs.filter Kd.isCalls = [Kd.calls ps r] := by
      show (Kd.calls ps r :: (Kd.subsL ps ++ r.subs)).filter Kd.isCalls = _
      rw [List.filter_cons_of_pos (by rfl), List.filter_append, flats_calls h.1.1, flat_calls h.1.2]
      rfl
    exact .inr ⟨_, e, e, h.2⟩
end My
namespace My
open PySem L2
/-! signs of texts, writings of kinds -/
abbrev cl (x : Str) : List Nat := x.cps.toList
def ofL (l : List Nat) : Str := ⟨l.toArray⟩
theorem cl_ofL (l : List Nat) : cl (ofL l) = l := by simp [ofL]
theorem cl_app (x y : Str) : cl (x ++ y) = cl x ++ cl y := by
  show (x.cps ++ y.cps).toList = _
  rw [Array.toList_append]
theorem cl_len (x : Str) : (cl x).length = x.length := Array.length_toList
theorem str_ext {x y : Str} (h : cl x = cl y) : x = y := by
  cases x with
  | mk a =>
    cases y with
    | mk b =>
      have e : a = b := Array.toList_inj.mp h
      rw [e]
theorem ofL_cl (x : Str) : ofL (cl x) = x := str_ext (cl_ofL _)
theorem cl_nil : cl Str.empty = [] := rfl
/-- texts with a text between them -/
def glue (sep : List Nat) : List (List Nat) → List Nat
  | [] => []
  | x :: r => x ++ (r.flatMap fun y => sep ++ y)
theorem cl_join (sep : Str) : ∀ ys : List Str, cl (Str.join sep ys) = glue (cl sep) (ys.map cl)
  | [] => rfl
  | [x] => by simp [Str.join, glue]
  | x :: y :: r => by
    have ih := cl_join sep (y :: r)
    show cl ((x ++ sep) ++ Str.join sep (y :: r)) = _
    rw [cl_app, cl_app, ih]
    simp [glue]
theorem txt_join (sep : Str) (ys : List Str) : cl (Txt.join sep ys) = glue (cl sep) (ys.map cl) := by
  rw [show Txt.join sep ys = Str.join sep ys from PySem.StrLaws.glued_eq_join _ _, cl_join]
theorem txt_join_len (sep : Str) (ys : List Str) : (Txt.join sep ys).length ≤ (ys.map (·.length)).sum + ys.length * sep.length := by
  rw [show Txt.join sep ys = Str.join sep ys from PySem.StrLaws.glued_eq_join _ _]
  exact PySem.StrLaws.join_length_le sep ys
mutual
/-- the writing of a kind -/
def Kd.sh : Kd → List Nat
  | .num => [110, 117, 109]
  | .text => [116, 101, 120, 116]
  | .of x => cl x
  | .row k => 91 :: (Kd.sh k ++ [93])
  | .calls ps r => 40 :: (Kd.shs ps ++ (45 :: 62 :: 32 :: (Kd.sh r ++ [41])))
  | .answers _ k => Kd.sh k
/-- what is called with, a blank behind -/
def Kd.shs : List Kd → List Nat
  | [] => []
  | k :: r => Kd.sh k ++ (Kd.sht r ++ [32])
/-- the further ones -/
def Kd.sht : List Kd → List Nat
  | [] => []
  | k :: r => 44 :: 32 :: (Kd.sh k ++ Kd.sht r)
end
theorem Kd.sht_glue : ∀ (r : List Kd), Kd.sht r = (r.map Kd.sh).flatMap fun y => [44, 32] ++ y
  | [] => rfl
  | k :: r => by simp [Kd.sht, Kd.sht_glue r]
theorem Kd.shs_glue (ks : List Kd) : Kd.shs ks = if ks = [] then [] else glue [44, 32] (ks.map Kd.sh) ++ [32] := by
  cases ks with
  | nil => rfl
  | cons k r => simp [Kd.shs, glue, Kd.sht_glue]
mutual
theorem Kd.sh_len : ∀ (k : Kd), (∀ x ∈ k.names, LtS x) → (Kd.sh k).length + 2 ≤ 14 * k.size
  | .num, _ => by simp [Kd.sh, Kd.size]
  | .text, _ => by simp [Kd.sh, Kd.size]
  | .of x, h => by
    have := (h x (by simp [Kd.names])).1
    simp only [Kd.sh, Kd.size]
    rw [cl_len]
    omega
  | .row k, h => by
    have := Kd.sh_len k h
    simp only [Kd.sh, Kd.size, List.length_cons, List.length_append, List.length_nil]
    omega
  | .calls ps r, h => by
    have h1 := Kd.shs_len ps fun x hx => h x (by simp [Kd.names, hx])
    have h2 := Kd.sh_len r fun x hx => h x (by simp [Kd.names, hx])
    simp only [Kd.sh, Kd.size, List.length_cons, List.length_append, List.length_nil]
    omega
  | .answers _ k, h => by
    have := Kd.sh_len k h
    simp only [Kd.sh, Kd.size]
    omega
theorem Kd.shs_len : ∀ (ks : List Kd), (∀ x ∈ Kd.namesL ks, LtS x) → (Kd.shs ks).length ≤ 14 * Kd.sizes ks + 1
  | [], _ => by simp [Kd.shs]
  | k :: r, h => by
    have h1 := Kd.sh_len k fun x hx => h x (by simp [Kd.namesL, hx])
    have h2 := Kd.sht_len r fun x hx => h x (by simp [Kd.namesL, hx])
    simp only [Kd.shs, Kd.sizes, List.length_append, List.length_cons, List.length_nil]
    omega
theorem Kd.sht_len : ∀ (ks : List Kd), (∀ x ∈ Kd.namesL ks, LtS x) → (Kd.sht ks).length ≤ 14 * Kd.sizes ks
  | [], _ => by simp [Kd.sht]
  | k :: r, h => by
    have h1 := Kd.sh_len k fun x hx => h x (by simp [Kd.namesL, hx])
    have h2 := Kd.sht_len r fun x hx => h x (by simp [Kd.namesL, hx])
    simp only [Kd.sht, Kd.sizes, List.length_append, List.length_cons]
    omega
end
/-- a small letter -/
def isLt (c : Nat) : Bool := decide (97 ≤ c ∧ c ≤ 122)
theorem in_abc (c : Nat) : decide (c ∈ abc.cps.toList) = isLt c := by
  rw [abc_list]
  unfold isLt
  refine decide_eq_decide.mpr ⟨fun h => ?_, fun h => ?_⟩
  · obtain ⟨k, hk, rfl⟩ := List.mem_map.mp h
    have := List.mem_range.mp hk
    omega
  · exact List.mem_map.mpr ⟨c - 97, List.mem_range.mpr (by omega), by omega⟩
/-- what stands behind a word: no letter -/
def Brk (l : List Nat) : Prop := ∀ c r, l = c :: r → isLt c = false
theorem Brk.nil : Brk [] := fun c r h => by cases h
theorem Brk.cons {c : Nat} {r : List Nat} (h : isLt c = false) : Brk (c :: r) := fun a b e => by
  injection e with e1 e2
  rw [← e1]
  exact h
theorem take_word : ∀ {w l : List Nat}, (∀ c ∈ w, isLt c = true) → Brk l → (w ++ l).takeWhile isLt = w ∧ (w ++ l).dropWhile isLt = l
  | [], l, _, b => by
    cases l with
    | nil => simp
    | cons c r => simp [b c r rfl]
  | c :: w, l, h, b => by
    obtain ⟨h1, h2⟩ := take_word (w := w) (fun x hx => h x (by simp [hx])) b
    have hc := h c (by simp)
    constructor
    · rw [List.cons_append, List.takeWhile_cons_of_pos hc, h1]
    · rw [List.cons_append, List.dropWhile_cons_of_pos hc, h2]
theorem lt_word {x : Str} (h : LtA x) : ∀ c ∈ cl x, isLt c = true := fun c hc => decide_eq_true (h c hc)
/-- startswith from a place -/
theorem starts_at {x y : Str} {i : Nat} (h : i ≤ x.length) : Txt.startswith3 x y (i : Int) = decide (cl y <+: (cl x).drop i) := by
  have e : fromIndex x.length (i : Int) = i := by
    unfold fromIndex
    rw [if_neg (by omega)]
    omega
  unfold Txt.startswith3
  rw [e]
  rw [Bool.eq_iff_iff, Bool.and_eq_true_iff, decide_eq_true_iff, decide_eq_true_iff]
  unfold Builtin.Str.subAt
  have hx : x.length = (cl x).length := (cl_len x).symm
  have hy : y.length = (cl y).length := (cl_len y).symm
  rw [beq_iff_eq, ← Array.toList_inj, Array.toList_extract, List.extract_eq_take_drop, hx, hy]
  rw [Nat.add_sub_cancel_left]
  constructor
  · rintro ⟨h1, h2⟩
    exact ⟨((cl x).drop i).drop (cl y).length, (congrArg (· ++ ((cl x).drop i).drop (cl y).length) h2.symm).trans (List.take_append_drop (cl y).length ((cl x).drop i))⟩
  · rintro ⟨t, ht⟩
    have hl := congrArg List.length ht
    rw [List.length_append, List.length_drop] at hl
    refine ⟨by omega, ?_⟩
    rw [← ht, List.take_left]
end My
namespace My
open PySem L2
/-! a reader's place in a text -/
structure ScnC (K : PySem.W.Frag) (Z : Addr) : Prop where
  cl : Cls K Z
  nText : NoAttr K Z "text"
  nAt : NoAttr K Z "at"
/-- at z a reader of tx, the signs l left -/
def Rst (H : Hp) (Z z : Addr) (tx : Str) (l : List Nat) : Prop := ∃ (dx : Addr) (i : Nat), H z = some (.ins Z dx [("text", .str tx), ("at", .int (i : Int))]) ∧ i ≤ tx.length ∧ (cl tx).drop i = l
/-- all but z stays -/
def Bz (z : Addr) (H H' : Hp) : Prop := ∀ b o, b ≠ z → H b = some o → H' b = some o
theorem Bz.refl (z : Addr) (H : Hp) : Bz z H H := fun _ _ _ h => h
theorem Bz.trans {z : Addr} {H H1 H2 : Hp} (a : Bz z H H1) (b : Bz z H1 H2) : Bz z H H2 := fun x o n h => b x o n (a x o n h)
theorem Bz.of_same {z : Addr} {H H1 : Hp} (a : Same H H1) : Bz z H H1 := fun x o _ h => a x o h
theorem Bz.at {z : Addr} {H H1 : Hp} {o : HO} (a : Bz z H H1) : Bz z H (upd H1 z o) := fun x u n h => by
  rw [upd_ne n]
  exact a x u n h
theorem Bz.atNew {z p : Addr} {H H1 : Hp} {o : HO} (a : Bz z H H1) (h : H p = none) : Bz z H (upd H1 p o) := fun x u n e => by
  rw [upd_ne (ne_of_none e h)]
  exact a x u n e
theorem Bz.tups {z Z : Addr} {tx : Str} {l : List Nat} {H H' : Hp} (b : Bz z H H') (r : Rst H Z z tx l) : Tups H H' := by
  obtain ⟨dx, i, h, _⟩ := r
  exact fun a xs e => b a _ (ne_of e h (by intro z; cases z)) e
theorem Rst.same {H H' : Hp} {Z z : Addr} {tx : Str} {l : List Nat} (r : Rst H Z z tx l) (s : Same H H') : Rst H' Z z tx l := by
  obtain ⟨dx, i, h, a, b⟩ := r
  exact ⟨dx, i, s _ _ h, a, b⟩
theorem Rst.ne {H : Hp} {Z z p : Addr} {tx : Str} {l : List Nat} (r : Rst H Z z tx l) (h : H p = none) : p ≠ z := by
  obtain ⟨dx, i, e, _⟩ := r
  exact (ne_of_none e h).symm
theorem Rst.put {H : Hp} {Z z p : Addr} {tx : Str} {l : List Nat} {o : HO} (r : Rst H Z z tx l) (n : p ≠ z) : Rst (upd H p o) Z z tx l := by
  obtain ⟨dx, i, h, a, b⟩ := r
  exact ⟨dx, i, by rw [upd_ne n.symm]; exact h, a, b⟩
def spScan (Z : Addr) : Sp := fun vs H Q _ => ∃ (z dx : Addr) (tx : Str), vs = [.ref z, .str tx] ∧ H z = some (.ins Z dx []) ∧ ∀ H', Rst H' Z z tx (cl tx) → Bz z H H' → Q .non H'
def spTakes (Z : Addr) : Sp := fun vs H Q _ => ∃ (z : Addr) (tx sg : Str) (l : List Nat), vs = [.ref z, .str sg] ∧ Rst H Z z tx l ∧ sg.length ≤ 1000 ∧
  (∀ l', l = cl sg ++ l' → ∀ H', Rst H' Z z tx l' → Bz z H H' → Q (.bl true) H') ∧ ((¬ cl sg <+: l) → Q (.bl false) H)
def spNeeds (Z : Addr) : Sp := fun vs H Q _ => ∃ (z : Addr) (tx sg : Str) (l l' : List Nat), vs = [.ref z, .str sg] ∧ Rst H Z z tx l ∧ sg.length ≤ 1000 ∧ l = cl sg ++ l' ∧
  ∀ H', Rst H' Z z tx l' → Bz z H H' → Q .non H'
def spEnds (Z : Addr) : Sp := fun vs H Q _ => ∃ (z : Addr) (tx : Str), vs = [.ref z] ∧ Rst H Z z tx [] ∧ tx.length ≤ 100000 ∧ Q .non H
def spRun (Z : Addr) : Sp := fun vs H Q _ => ∃ (z : Addr) (tx sg : Str) (l : List Nat), vs = [.ref z, .str sg] ∧ Rst H Z z tx l ∧ tx.length ≤ 100000 ∧
  ∀ H', Rst H' Z z tx (l.dropWhile fun c => decide (c ∈ cl sg)) → Bz z H H' → Q (.str (ofL (l.takeWhile fun c => decide (c ∈ cl sg)))) H'
def spLetters (Z : Addr) : Sp := fun vs H Q _ => ∃ (z : Addr) (tx : Str) (l : List Nat), vs = [.ref z] ∧ Rst H Z z tx l ∧ tx.length ≤ 100000 ∧
  ∀ H', Rst H' Z z tx (l.dropWhile isLt) → Bz z H H' → Q (.str (ofL (l.takeWhile isLt))) H'
def Wrun (Z z : Addr) (tx sg : Str) (dx : Addr) (i0 : Nat) (l : List Nat) (H0 : Hp) (m : Nat) (σ : St) (H : Hp) : Prop :=
  ∃ (i : Nat), σ = [some (.ref z), some (.str sg), some (.int (i0 : Int))] ∧ H z = some (.ins Z dx [("text", .str tx), ("at", .int (i : Int))]) ∧ i0 ≤ i ∧ i ≤ tx.length ∧ Bz z H0 H ∧ m = tx.length - i ∧
    l.takeWhile (fun c => decide (c ∈ cl sg)) = (((cl tx).drop i0).take (i - i0)) ++ ((cl tx).drop i).takeWhile (fun c => decide (c ∈ cl sg)) ∧ l.dropWhile (fun c => decide (c ∈ cl sg)) = ((cl tx).drop i).dropWhile (fun c => decide (c ∈ cl sg))
theorem drop_at {α : Type} {l : List α} {i : Nat} {x : α} (h : l[i]? = some x) : l.drop i = x :: l.drop (i + 1) := by
  obtain ⟨hi, e⟩ := List.getElem?_eq_some_iff.mp h
  rw [List.drop_eq_getElem_cons hi, e]
section
variable {P : Program} {w : World} {K : PySem.W.Frag} {mg : Str → Option Value} {base : Heap} {f : Addr} {fd : FuncData} {aT aF Z : Addr}
theorem ok_scan (cz : ScnC K Z) (F : Fun K "__init__" "Scanner.__init__" s_Scanner___init__ f fd) : FnOk P w K mg base CX0 1 f fd ["self", "text"] (spScan Z) := by
  refine F.ok sc_Scanner___init__ (fun vs H Q E h => ?_) (fun cdv A outer s H vs Q E hr h => ?_)
  · obtain ⟨z, dx, tx, rfl, _⟩ := h
    rfl
  obtain ⟨z, dx, tx, rfl, hz, q⟩ := h
  refine ⟨_, (pss_cons (ps_fld (pv 0) (pv 1) rfl)
    (pss_one (ps_fld (pv 0) pe_int rfl))), ?_⟩
  refine ⟨_, rfl, _, rfl, z, Z, dx, _, rfl, hz, cz.cl, cz.nText, (by simp), ?_⟩
  refine ⟨_, rfl, z, Z, dx, _, rfl, upd_same, cz.cl, cz.nAt, (by simp [putF]), ?_⟩
  exact q _ ⟨dx, 0, upd_same, Nat.zero_le _, rfl⟩ ((Bz.refl z H).at.at)
theorem ok_takes (B : Bn mg) (cz : ScnC K Z) (F : Fun K "takes" "Scanner.takes" s_Scanner_takes f fd) : FnOk P w K mg base CX0 1 f fd ["self", "sign"] (spTakes Z) := by
  refine F.ok sc_Scanner_takes (fun vs H Q E h => ?_) (fun cdv A outer s H vs Q E hr h => ?_)
  · obtain ⟨z, tx, sg, l, rfl, _⟩ := h
    rfl
  obtain ⟨z, tx, sg, l, rfl, hR, hsg, q1, q0⟩ := h
  refine ⟨_, (pss_cons (ps_if (pt_not (pt_val (pe_bm PySem.F.plainAttrs_str PySem.F.slot_str_startswith PySem.F.type_str_startswith mt_startswith3 (pe_fld (pv 0) rfl) (pa_cons (pv 1) (pa_cons (pe_fld (pv 0) rfl) pa_nil))))) (pss_one (ps_ret pe_bl)) pss_nil)
    (pss_cons (ps_fldaug (pv 0) (pe_callB call_len_str (by rfl) B.b_len PySem.boot_len (pa_cons (pv 1) pa_nil)) in_add)
    (pss_one (ps_ret pe_bl)))), ?_⟩
  obtain ⟨dx, i, hz, hi, hl⟩ := id hR
  have hsl : sg.length ≤ sizeLine := Nat.le_of_lt (line5 (by omega))
  refine ⟨_, rfl, z, Z, dx, _, _, rfl, hz, cz.cl, cz.nText, rfl, rfl, _, rfl, _, rfl, z, Z, dx, _, _, rfl, hz, cz.cl, cz.nAt, rfl, _, _, _, rfl, rfl, _, rfl, ?_⟩
  rw [starts_at hi, hl]
  by_cases c : cl sg <+: l
  · rw [decide_eq_true c]
    refine iteF ?_
    obtain ⟨l', rfl⟩ := c
    refine ⟨_, rfl, z, Z, dx, _, _, rfl, hz, cz.cl, cz.nAt, rfl, _, rfl, _, rfl, hsl, _, _, rfl, rfl, dx, _, hz, (by simp), ?_⟩
    refine q1 l' rfl _ ⟨dx, i + sg.length, ?_, ?_, ?_⟩ (Bz.refl z H).at
    · rw [upd_same]
      rfl
    · have := congrArg List.length hl
      rw [List.length_drop, List.length_append, cl_len, cl_len] at this
      omega
    · rw [← List.drop_drop, hl, ← cl_len sg, List.drop_left]
  · rw [decide_eq_false c]
    exact iteT (q0 c)
theorem ok_needs (cz : ScnC K Z) (F : Fun K "needs" "Scanner.needs" s_Scanner_needs f fd) {ft : Addr} {fdt : FuncData} (m_takes : Meth K Z "takes" ft) (f_takes : FnOk P w K mg base CX0 1 ft fdt ["self", "sign"] (spTakes Z))
    (bm_takes : Binds K fdt ["self", "sign"] []) : FnOk P w K mg base CX0 2 f fd ["self", "sign"] (spNeeds Z) := by
  refine F.ok sc_Scanner_needs (fun vs H Q E h => ?_) (fun cdv A outer s H vs Q E hr h => ?_)
  · obtain ⟨z, tx, sg, l, l', rfl, _⟩ := h
    rfl
  obtain ⟨z, tx, sg, l, l', rfl, hR, hsg, rfl, q⟩ := h
  refine ⟨_, (pss_one (ps_if (pt_not (pt_val (pe_meth (pv 0) cz.cl m_takes f_takes (hr.mono (by first | decide | omega)) bm_takes .nil pass0 (pa_cons (pv 1) pa_nil)))) (pss_one ps_never) pss_nil)), ?_⟩
  obtain ⟨dx, i, hz, hi, hl⟩ := id hR
  refine ⟨_, rfl, z, dx, _, rfl, hz, rfl, _, rfl, z, tx, sg, _, rfl, hR, hsg, fun l2 e H' r b => ?_, fun n => absurd (List.prefix_append _ _) n⟩
  have e2 := List.append_cancel_left e
  subst e2
  exact ⟨_, rfl, iteF (q H' r b)⟩
theorem ok_ends (B : Bn mg) (cz : ScnC K Z) (F : Fun K "ends" "Scanner.ends" s_Scanner_ends f fd) : FnOk P w K mg base CX0 1 f fd ["self"] (spEnds Z) := by
  refine F.ok sc_Scanner_ends (fun vs H Q E h => ?_) (fun cdv A outer s H vs Q E hr h => ?_)
  · obtain ⟨z, tx, rfl, _⟩ := h
    rfl
  obtain ⟨z, tx, rfl, hR, htx, q⟩ := h
  refine ⟨_, (pss_one (ps_if (pt_cmpR op_lt (pe_fld (pv 0) rfl) (pe_callB call_len_str (by rfl) B.b_len PySem.boot_len (pa_cons (pe_fld (pv 0) rfl) pa_nil)) (nomark _)) (pss_one ps_never) pss_nil)), ?_⟩
  obtain ⟨dx, i, hz, hi, hl⟩ := id hR
  refine ⟨_, rfl, z, Z, dx, _, _, rfl, hz, cz.cl, cz.nAt, rfl, _, rfl, z, Z, dx, _, _, rfl, hz, cz.cl, cz.nText, rfl, _, rfl, Nat.le_of_lt (line5 htx), _, _, rfl, rfl, _, rfl, ?_⟩
  have hlen := congrArg List.length hl
  rw [List.length_drop, cl_len, List.length_nil] at hlen
  rw [decide_eq_false (by omega)]
  exact iteF q
theorem ok_run (B : Bn mg) (cz : ScnC K Z) (F : Fun K "run_of" "Scanner.run_of" s_Scanner_run_of f fd) : FnOk P w K mg base CX0 1 f fd ["self", "signs"] (spRun Z) := by
  refine F.ok sc_Scanner_run_of (fun vs H Q E h => ?_) (fun cdv A outer s H vs Q E hr h => ?_)
  · obtain ⟨z, tx, sg, l, rfl, _⟩ := h
    rfl
  obtain ⟨z, tx, sg, l, rfl, hR, htx, q⟩ := h
  refine ⟨_, (pss_cons (ps_set (i := 2) sc_Scanner_run_of.nd rfl (Or.inl rfl) (pe_fld (pv 0) rfl))
    (pss_cons (ps_while PassesOwn.never (PW.pt (pw_and (pt_cmpR op_lt (pe_fld (pv 0) rfl) (pe_callB call_len_str (by rfl) B.b_len PySem.boot_len (pa_cons (pe_fld (pv 0) rfl) pa_nil)) (nomark _)) (pw_and1 (pt_cmpR op_in_sign (pe_ix ix_str (pe_fld (pv 0) rfl) (pe_fld (pv 0) rfl) (fun _ _ => rfl)) (pv 1) (by rfl))))) (pss_one (ps_fldaug (pv 0) pe_int in_add)))
    (pss_one (ps_ret (pe_slice sl_str (pe_fld (pv 0) rfl) (po_some (pv 2)) (po_some (pe_fld (pv 0) rfl))))))), ?_⟩
  obtain ⟨dx, i0, hz, hi0, hl0⟩ := hR
  have htl : tx.length ≤ sizeLine := Nat.le_of_lt (line5 htx)
  refine ⟨_, rfl, z, Z, dx, _, _, rfl, hz, cz.cl, cz.nAt, rfl, ?_⟩
  refine ⟨Wrun Z z tx sg dx i0 l H, ⟨tx.length - i0, i0, rfl, hz, Nat.le_refl _, hi0, Bz.refl z H, rfl, by rw [Nat.sub_self, hl0]; rfl, by rw [hl0]⟩, fun m σ H1 w1 => ?_⟩
  obtain ⟨i, rfl, hz1, h1, h2, B1, rfl, h3, h4⟩ := w1
  have fin : (cl tx).drop i = ((cl tx).drop i).dropWhile (fun c => decide (c ∈ cl sg)) → ((cl tx).drop i).takeWhile (fun c => decide (c ∈ cl sg)) = [] →
      Q (.str (cutS tx (some (i0 : Int)) (some (i : Int)))) H1 := fun e1 e2 => by
    rw [e2, List.append_nil] at h3
    rw [← e1] at h4
    have ec : cutS tx (some (i0 : Int)) (some (i : Int)) = ofL (l.takeWhile fun c => decide (c ∈ cl sg)) := by
      rw [h3]
      unfold cutS ofL
      rw [HT.sIx_nat, HT.sIx_nat, Nat.min_eq_left hi0, Nat.min_eq_left h2]
    rw [ec]
    exact q H1 ⟨dx, i, hz1, h2, h4.symm⟩ B1
  refine ⟨_, rfl, z, Z, dx, _, _, rfl, hz1, cz.cl, cz.nAt, rfl, _, rfl, z, Z, dx, _, _, rfl, hz1, cz.cl, cz.nText, rfl, _, rfl, htl, _, _, rfl, rfl, _, rfl, ?_⟩
  by_cases c : i < tx.length
  · rw [decide_eq_true (by omega)]
    have hil : i < (cl tx).length := by rw [cl_len]; exact c
    have hat : (cl tx)[i]? = some ((cl tx)[i]) := List.getElem?_eq_getElem hil
    generalize (cl tx)[i] = g at hat
    have hd := drop_at hat
    refine iteT ⟨_, rfl, z, Z, dx, _, _, rfl, hz1, cz.cl, cz.nText, rfl, _, rfl, z, Z, dx, _, _, rfl, hz1, cz.cl, cz.nAt, rfl, _, _, g, rfl, rfl, htl, atI_nat hat, _, rfl, g, sg, rfl, rfl, _, rfl, ?_⟩
    by_cases c2 : g ∈ cl sg
    · rw [decide_eq_true c2]
      refine iteT ⟨fun σ' H' => ∃ m', m' < tx.length - i ∧ Wrun Z z tx sg dx i0 l H m' σ' H', fun _ _ h => h, ?_⟩
      refine ⟨_, rfl, z, Z, dx, _, _, rfl, hz1, cz.cl, cz.nAt, rfl, _, _, rfl, rfl, dx, _, hz1, (by simp), ?_⟩
      refine ⟨tx.length - (i + 1), by omega, i + 1, rfl, ?_, by omega, by omega, B1.at, rfl, ?_, ?_⟩
      · rw [upd_same]
        rfl
      · rw [h3, hd, List.takeWhile_cons_of_pos (by simpa using c2)]
        have e : i + 1 - i0 = (i - i0) + 1 := by omega
        have e3 : ((cl tx).drop i0)[i - i0]? = some g := by
          rw [List.getElem?_drop]
          rw [show i0 + (i - i0) = i by omega]
          exact hat
        rw [e, ← take_next e3, List.append_assoc]
        rfl
      · rw [h4, hd, List.dropWhile_cons_of_pos (by simpa using c2)]
    · rw [decide_eq_false c2]
      refine iteF ?_
      refine ⟨_, rfl, z, Z, dx, _, _, rfl, hz1, cz.cl, cz.nText, rfl, _, rfl, _, rfl, _, rfl, z, Z, dx, _, _, rfl, hz1, cz.cl, cz.nAt, rfl, _, rfl, _, rfl, htl, ?_⟩
      exact fin (by rw [hd, List.dropWhile_cons_of_neg (by simpa using c2)]) (by rw [hd, List.takeWhile_cons_of_neg (by simpa using c2)])
  · rw [decide_eq_false (by omega)]
    refine iteF (iteF ?_)
    have e : (cl tx).drop i = [] := List.drop_eq_nil_of_le (by rw [cl_len]; omega)
    refine ⟨_, rfl, z, Z, dx, _, _, rfl, hz1, cz.cl, cz.nText, rfl, _, rfl, _, rfl, _, rfl, z, Z, dx, _, _, rfl, hz1, cz.cl, cz.nAt, rfl, _, rfl, _, rfl, htl, ?_⟩
    exact fin (by rw [e]; rfl) (by rw [e]; rfl)
theorem ok_letters (M : Mn K mg aT aF) (F : Fun K "letters" "Scanner.letters" s_Scanner_letters f fd) {ft : Addr} {fdt : FuncData} (cz : ScnC K Z) (m_run_of : Meth K Z "run_of" ft) (f_run_of : FnOk P w K mg base CX0 1 ft fdt ["self", "signs"] (spRun Z))
    (bm_run_of : Binds K fdt ["self", "signs"] []) : FnOk P w K mg base CX0 2 f fd ["self"] (spLetters Z) := by
  refine F.ok sc_Scanner_letters (fun vs H Q E h => ?_) (fun cdv A outer s H vs Q E hr h => ?_)
  · obtain ⟨z, tx, l, rfl, _⟩ := h
    rfl
  obtain ⟨z, tx, l, rfl, hR, htx, q⟩ := h
  refine ⟨_, (pss_one (ps_ret (pe_meth (pv 0) cz.cl m_run_of f_run_of (hr.mono (by first | decide | omega)) bm_run_of .nil pass0 (pa_cons (pgS M.m_LETTERS) pa_nil)))), ?_⟩
  obtain ⟨dx, i, hz, hi, hl⟩ := id hR
  refine ⟨_, rfl, z, dx, _, rfl, hz, rfl, z, tx, abc, l, rfl, hR, htx, fun H' r b => ?_⟩
  have e : (fun c => decide (c ∈ cl abc)) = isLt := funext in_abc
  rw [e] at r ⊢
  exact q H' r b
end
end My
namespace My
open PySem L2
/-! kinds read from their writings -/
def spKindAt (Z : Addr) (e : Nat) : Sp := fun vs H Q _ => ∃ (z : Addr) (tx : Str) (l' : List Nat) (k : Kd), vs = [.ref z, .int (e : Int)] ∧ Rst H Z z tx (k.sh ++ l') ∧ Brk l' ∧ k.plain = true ∧ k.depth ≤ e ∧ (∀ x ∈ k.names, Nm x) ∧ tx.length ≤ 100000 ∧
  ∀ v H', KdAt H' v k → Rst H' Z z tx l' → Bz z H H' → Q v H'
def spBackAt (Z : Addr) (e : Nat) : Sp := fun vs H Q _ => ∃ (z : Addr) (tx : Str) (l' : List Nat) (ps : List Kd) (r : Kd), vs = [.ref z, .int (e : Int)] ∧ Rst H Z z tx (Kd.shs ps ++ (45 :: 62 :: 32 :: (r.sh ++ 41 :: l'))) ∧ ps.all Kd.flat = true ∧ r.flat = true ∧ ps.length ≤ 3 ∧
  Kd.depths ps ≤ e ∧ r.depth ≤ e ∧ (∀ x ∈ Kd.namesL ps, Nm x) ∧ (∀ x ∈ r.names, Nm x) ∧ tx.length ≤ 100000 ∧ ∀ v H', KdAt H' v (.calls ps r) → Rst H' Z z tx l' → Bz z H H' → Q v H'
theorem Nm.cons {x : Str} (h : Nm x) : ∃ c r, cl x = c :: r := by
  cases e : cl x with
  | nil => exact absurd (str_ext (x := x) (y := "") e) h.2.1
  | cons c r => exact ⟨c, r, rfl⟩
theorem Kd.sh_head {k : Kd} (hp : k.plain = true) (hn : ∀ x ∈ k.names, Nm x) : ∃ c r, k.sh = c :: r ∧ (isLt c = true ∨ c = 91 ∨ c = 40) ∧ (c = 91 → ∃ j, k = .row j) ∧ (c = 40 → ∃ ps q, k = .calls ps q) := by
  cases k with
  | num => exact ⟨_, _, rfl, .inl (by decide), fun h => absurd h (by decide), fun h => absurd h (by decide)⟩
  | text => exact ⟨_, _, rfl, .inl (by decide), fun h => absurd h (by decide), fun h => absurd h (by decide)⟩
  | of x =>
    have nx := hn x (by simp [Kd.names])
    obtain ⟨c, r, e⟩ := nx.cons
    have hc := nx.1.2 c (show c ∈ cl x by rw [e]; simp)
    exact ⟨c, r, e, .inl (decide_eq_true hc), fun h => by omega, fun h => by omega⟩
  | row j => exact ⟨_, _, rfl, .inr (.inl rfl), fun _ => ⟨j, rfl⟩, fun h => absurd h (by decide)⟩
  | calls ps q => exact ⟨_, _, rfl, .inr (.inr rfl), fun h => absurd h (by decide), fun _ => ⟨ps, q, rfl⟩⟩
  | answers n j => exact absurd hp (by simp [Kd.plain])
theorem no_pre {c d : Nat} {r s : List Nat} (h : c ≠ d) : ¬ (c :: r) <+: (d :: s) := by
  rintro ⟨t, e⟩
  injection e with e1 _
  exact h e1
/-- a word's kind -/
theorem nm_ok {x : Str} (h : Nm x) : nmOk x = true := by
  unfold nmOk
  obtain ⟨⟨h8, hl⟩, h0, h1, h2⟩ := h
  have e1 : decide (x ∈ (["num", "text"] : List Str)) = false := decide_eq_false (by simp [h1, h2])
  have e2 : decide (1 ≤ x.length) = true := by
    refine decide_eq_true ?_
    rcases Nat.eq_zero_or_pos x.length with z | z
    · exact absurd (str_ext (x := x) (y := "") (List.eq_nil_of_length_eq_zero (by rw [cl_len]; exact z))) h0
    · exact z
  rw [e1, e2, decide_eq_true h8]
  simp only [Bool.not_false, Bool.true_and]
  rw [List.all_eq_true]
  intro c hc
  rw [in_abc]
  exact decide_eq_true (hl c hc)
def Wback (Z z p : Addr) (tx : Str) (e : Nat) (ps : List Kd) (tl : List Nat) (H0 : Hp) (m : Nat) (σ : St) (H : Hp) : Prop :=
  ∃ (vs : List V) (k1 k2 : List Kd), σ = [some (.ref z), some (.int (e : Int)), some (.ref p), none] ∧ ps = k1 ++ k2 ∧ H p = some (.lst vs) ∧ KdsAt H vs k1 ∧ Rst H Z z tx (Kd.sht k2 ++ 32 :: tl) ∧ Bz z H0 H ∧ m = k2.length
section
variable {P : Program} {w : World} {K : PySem.W.Frag} {mg : Str → Option Value} {base : Heap} {f : Addr} {fd : FuncData} {aT aF Z : Addr} {ft fn fl : Addr} {fdt fdn fdl : FuncData}
theorem ok_back (B : Bn mg) (cz : ScnC K Z) (F : Fun K "callback_at" "callback_at" s_callback_at f fd) (m_takes : Meth K Z "takes" ft) (f_takes : FnOk P w K mg base CX0 1 ft fdt ["self", "sign"] (spTakes Z)) (bm_takes : Binds K fdt ["self", "sign"] [])
    (m_needs : Meth K Z "needs" fn) (f_needs : FnOk P w K mg base CX0 2 fn fdn ["self", "sign"] (spNeeds Z)) (bm_needs : Binds K fdn ["self", "sign"] []) {n e : Nat} (n2 : 2 ≤ n) (c_kind_at : Cal P w K mg base "kind_at" n ["scan", "levels"] (spKindAt Z e)) :
    FnOk P w K mg base CX0 (n + 1) f fd ["scan", "levels"] (spBackAt Z e) := by
  refine F.ok sc_callback_at (fun vs H Q E h => ?_) (fun cdv A outer s H vs Q E hr h => ?_)
  · obtain ⟨z, tx, l', ps, r, rfl, _⟩ := h
    rfl
  obtain ⟨z, tx, l', ps, r, rfl, hR, hf, rf, h3, hd, rd, hn, rn, htx, q⟩ := h
  refine ⟨_, (pss_cons (ps_set (i := 2) sc_callback_at.nd rfl (Or.inl rfl) (pe_lst pa_nil))
    (pss_cons (ps_if (pt_not (pt_val (pe_meth (pv 0) cz.cl m_takes f_takes (hr.mono (by first | decide | omega)) bm_takes .nil pass0 (pa_cons pe_str pa_nil)))) (pss_cons (ps_expr (pe_bm PySem.F.plainAttrs_list PySem.F.slot_list_append PySem.F.type_list_append mt_append (pv 2) (pa_cons (pc c_kind_at (hr.mono (by first | decide | omega)) (pa_cons (pv 0) (pa_cons (pv 1) pa_nil))) pa_nil)))
    (pss_cons (ps_while PassesOwn.never (pt_val (pe_meth (pv 0) cz.cl m_takes f_takes (hr.mono (by first | decide | omega)) bm_takes .nil pass0 (pa_cons pe_str pa_nil))) (pss_one (ps_expr (pe_bm PySem.F.plainAttrs_list PySem.F.slot_list_append PySem.F.type_list_append mt_append (pv 2) (pa_cons (pc c_kind_at (hr.mono (by first | decide | omega)) (pa_cons (pv 0) (pa_cons (pv 1) pa_nil))) pa_nil)))))
    (pss_one (ps_expr (pe_meth (pv 0) cz.cl m_needs f_needs (hr.mono (by first | decide | omega)) bm_needs .nil pass0 (pa_cons pe_str pa_nil)))))) pss_nil)
    (pss_cons (ps_set (i := 3) sc_callback_at.nd rfl (Or.inl rfl) (pc c_kind_at (hr.mono (by first | decide | omega)) (pa_cons (pv 0) (pa_cons (pv 1) pa_nil))))
    (pss_cons (ps_expr (pe_meth (pv 0) cz.cl m_needs f_needs (hr.mono (by first | decide | omega)) bm_needs .nil pass0 (pa_cons pe_str pa_nil)))
    (pss_one (ps_ret (pe_tup (pa_cons pe_str (pa_cons (pe_callTy (tupleOf K rfl) (by rfl) B.b_tuple (by decide +kernel) (pa_cons (pv 2) pa_nil)) (pa_cons (pv 3) pa_nil)))))))))), ?_⟩
  refine seq_set ?_
  refine ⟨Nat.zero_le _, fun p np => ?_⟩
  dsimp only
  have npz := hR.ne np
  have R1 := hR.put (o := .lst []) npz
  have b1 : Bz z H (upd H p (.lst [])) := (Bz.refl z H).atNew np
  have hp1 : (upd H p (.lst [])) p = some (.lst []) := upd_same
  generalize upd H p (.lst []) = H1 at R1 b1 hp1
  -- what comes behind the called ones
  refine seq_abs (fun σ' H' => ∃ vs, σ' = [some (.ref z), some (.int (e : Int)), some (.ref p), none] ∧ H' p = some (.lst vs) ∧ KdsAt H' vs ps ∧ Rst H' Z z tx (r.sh ++ 41 :: l') ∧ Bz z H H') (fun σ2 H2 w2 => ?_) (fun nx hnx => ?_)
  · obtain ⟨vs, rfl, hp2, kv, R2, b2⟩ := w2
    refine ⟨_, rfl, _, rfl, z, tx, 41 :: l', r, rfl, R2, .cons (by decide), Kd.plain_of_flat rf, rd, rn, htx, fun v H3 hv R3 b3 => ?_⟩
    have T3 := b3.tups R2
    obtain ⟨dx3, i3, hz3, _, _⟩ := id R3
    refine ⟨_, rfl, z, dx3, _, rfl, hz3, rfl, z, tx, ")", _, l', rfl, R3, (by decide), rfl, fun H4 R4 b4 => ?_⟩
    have T4 := b4.tups R3
    have hp4 := b4 _ _ npz (b3 _ _ npz hp2)
    refine ⟨_, rfl, p, vs, rfl, .inl ⟨SqL.of hp4, fun t nt => ?_⟩⟩
    have s5 := same_new nt (.tup vs)
    have ht5 : (upd H4 t (.tup vs)) t = some (.tup vs) := upd_same
    generalize upd H4 t (.tup vs) = H5 at s5 ht5
    refine ⟨_, rfl, (by show 3 ≤ sizeLine; decide), fun a na => ?_⟩
    have s6 := same_new na (.tup [.str "calls", .ref t, v])
    have T5 := (T4.trans (Tups.of_same s5)).trans (Tups.of_same s6)
    exact q _ _ (.calls upd_same (s6 _ _ ht5) (kv.mono (T3.trans T5)) (hv.mono T5)) ((R4.same s5).same s6) (((b2.trans b3).trans b4).trans ((Bz.of_same s5).trans (Bz.of_same s6)))
  obtain ⟨dx1, i1, hz1, _, _⟩ := id R1
  refine ⟨_, rfl, z, dx1, _, rfl, hz1, rfl, z, tx, "-> ", _, rfl, R1, (by decide), ?_, ?_⟩
  · rintro l2 el H2 R2 b2
    refine ⟨_, rfl, iteF (hnx _ _ ?_)⟩
    cases ps with
    | nil =>
      have el : [45, 62, 32] ++ (r.sh ++ 41 :: l') = [45, 62, 32] ++ l2 := el
      have e2 := List.append_cancel_left el
      subst e2
      exact ⟨[], rfl, b2 _ _ npz hp1, .nil, R2, b1.trans b2⟩
    | cons k ks =>
      exfalso
      have hk : k.flat = true := by
        rw [List.all_cons, Bool.and_eq_true_iff] at hf
        exact hf.1
      obtain ⟨c, s, e1, e2, _⟩ := Kd.sh_head (Kd.plain_of_flat hk) fun x hx => hn x (by simp [Kd.namesL, hx])
      rw [Kd.shs, e1] at el
      have e3 : c = 45 := by
        have el : c :: _ = 45 :: _ := el
        injection el
      subst e3
      rcases e2 with e2 | e2 | e2
      · exact absurd e2 (by decide)
      · exact absurd e2 (by decide)
      · exact absurd e2 (by decide)
  intro hno
  refine ⟨_, rfl, iteT ?_⟩
  cases ps with
  | nil => exact absurd ⟨_, rfl⟩ hno
  | cons k ks =>
  have hfk : k.flat = true ∧ ks.all Kd.flat = true := by
    rw [List.all_cons, Bool.and_eq_true_iff] at hf
    exact hf
  have hdk : k.depth ≤ e ∧ Kd.depths ks ≤ e := by
    rw [Kd.depths] at hd
    omega
  have brk2 : ∀ (k2 : List Kd) (t : List Nat), Brk (Kd.sht k2 ++ 32 :: t) := fun k2 t => by
    cases k2 with
    | nil => exact .cons (by decide)
    | cons a b => exact .cons (by decide)
  have R1' : Rst H1 Z z tx (k.sh ++ (Kd.sht ks ++ 32 :: (45 :: 62 :: 32 :: (r.sh ++ 41 :: l')))) := by
    have e : Kd.shs (k :: ks) ++ (45 :: 62 :: 32 :: (r.sh ++ 41 :: l')) = k.sh ++ (Kd.sht ks ++ 32 :: (45 :: 62 :: 32 :: (r.sh ++ 41 :: l'))) := by
      simp [Kd.shs]
    rw [← e]
    exact R1
  generalize htl : 45 :: 62 :: 32 :: (r.sh ++ 41 :: l') = tl at R1'
  refine ⟨_, rfl, tyL hp1, _, rfl, _, rfl, z, tx, _, k, rfl, R1', brk2 ks tl, Kd.plain_of_flat hfk.1, hdk.1, fun x hx => hn x (by simp [Kd.namesL, hx]), htx, fun v H2 hv R2 b2 => ?_⟩
  have hp2 := b2 _ _ npz hp1
  refine ⟨p, [], v, rfl, rfl, hp2, (by decide), ?_⟩
  have T3 : Tups H2 (upd H2 p (.lst ([] ++ [v]))) := Tups.upd hp2
  have R3 := R2.put (o := .lst ([] ++ [v])) npz
  have b3 : Bz z H (upd H2 p (.lst ([] ++ [v]))) := (b1.trans b2).atNew np
  have hp3 : (upd H2 p (.lst ([] ++ [v]))) p = some (.lst [v]) := upd_same
  generalize upd H2 p (.lst ([] ++ [v])) = H3 at T3 R3 b3 hp3
  refine ⟨Wback Z z p tx e (k :: ks) tl H, ⟨ks.length, [v], [k], ks, rfl, rfl, hp3, .cons (hv.mono T3) .nil, R3, b3, rfl⟩, fun m σ H4 w4 => ?_⟩
  obtain ⟨vs, k1, k2, rfl, ek, hp4, kv, R4, b4, rfl⟩ := w4
  obtain ⟨dx4, i4, hz4, _, _⟩ := id R4
  refine ⟨_, rfl, z, dx4, _, rfl, hz4, rfl, z, tx, ", ", _, rfl, R4, (by decide), ?_, ?_⟩
  · rintro l2 el H5 R5 b5
    cases k2 with
    | nil =>
      have el : 32 :: tl = 44 :: _ := el
      injection el with e1 _
      exact absurd e1 (by decide)
    | cons j k3 =>
      have el : [44, 32] ++ ((j.sh ++ Kd.sht k3) ++ 32 :: tl) = [44, 32] ++ l2 := el
      have e2 := List.append_cancel_left el
      subst e2
      rw [List.append_assoc] at R5
      have hj : j ∈ k :: ks := by rw [ek]; simp
      have hjf : j.flat = true := List.all_eq_true.mp hf j hj
      have hjd : j.depth ≤ e := Nat.le_trans (Kd.depths_mem hj) hd
      have hjn : ∀ x ∈ j.names, Nm x := fun x hx => hn x (Kd.namesL_mem hj hx)
      have hp5 := b5 _ _ npz hp4
      have T5 := b5.tups R4
      refine ⟨_, rfl, iteT ⟨fun σ' H' => ∃ m', m' < (j :: k3).length ∧ Wback Z z p tx e (k :: ks) tl H m' σ' H', fun _ _ h => h, ?_⟩⟩
      refine ⟨_, rfl, tyL hp5, _, rfl, _, rfl, z, tx, _, j, rfl, R5, brk2 k3 tl, Kd.plain_of_flat hjf, hjd, hjn, htx, fun u H6 hu R6 b6 => ?_⟩
      have hp6 := b6 _ _ npz hp5
      have T6 := b6.tups R5
      have lk : k1.length ≤ 3 := by
        have := congrArg List.length ek
        rw [List.length_append] at this
        omega
      refine ⟨p, vs, u, rfl, rfl, hp6, line5 (by rw [kv.len]; omega), k3.length, by simp, vs ++ [u], k1 ++ [j], k3, rfl, by rw [ek]; simp, upd_same, ?_, R6.put npz, ((b4.trans b5).trans b6).atNew np, rfl⟩
      have T7 : Tups H6 (upd H6 p (.lst (vs ++ [u]))) := Tups.upd hp6
      exact (kv.mono ((T5.trans T6).trans T7)).app (.cons (hu.mono T7) .nil)
  intro hno2
  refine ⟨_, rfl, iteF ?_⟩
  cases k2 with
  | cons j k3 => exact absurd ⟨_, rfl⟩ hno2
  | nil =>
    rw [List.append_nil] at ek
    subst htl
    refine ⟨_, rfl, z, dx4, _, rfl, hz4, rfl, z, tx, " -> ", _, r.sh ++ 41 :: l', rfl, R4, (by decide), rfl, fun H5 R5 b5 => ?_⟩
    refine hnx _ _ ⟨vs, rfl, b5 _ _ npz hp4, ?_, R5, b4.trans b5⟩
    rw [ek]
    exact kv.mono (b5.tups R4)
theorem ok_kind_at (B : Bn mg) (M : Mn K mg aT aF) (cz : ScnC K Z) (F : Fun K "kind_at" "kind_at" s_kind_at f fd) (hm : mg "kind_at" = some (.ref f)) (hb : Binds K fd ["scan", "levels"] [])
    {fc : Addr} {fdc : FuncData} (Fc : Fun K "callback_at" "callback_at" s_callback_at fc fdc) (hmc : mg "callback_at" = some (.ref fc)) (hbc : Binds K fdc ["scan", "levels"] [])
    (m_takes : Meth K Z "takes" ft) (f_takes : FnOk P w K mg base CX0 1 ft fdt ["self", "sign"] (spTakes Z)) (bm_takes : Binds K fdt ["self", "sign"] [])
    (m_needs : Meth K Z "needs" fn) (f_needs : FnOk P w K mg base CX0 2 fn fdn ["self", "sign"] (spNeeds Z)) (bm_needs : Binds K fdn ["self", "sign"] [])
    (m_letters : Meth K Z "letters" fl) (f_letters : FnOk P w K mg base CX0 2 fl fdl ["self"] (spLetters Z)) (bm_letters : Binds K fdl ["self"] [])
    (c_is_name : Cal P w K mg base "is_name" 1 ["text"] spIsName) : ∀ e : Nat, FnOk P w K mg base CX0 (2 * e + 2) f fd ["scan", "levels"] (spKindAt Z e)
  | 0 => by
    have no : ∀ vs H Q E, ¬ spKindAt Z 0 vs H Q E := fun vs H Q E h => by
      obtain ⟨z, tx, l', k, _, _, _, _, h, _⟩ := h
      have := k.depth_inner
      omega
    exact ⟨fun vs H Q E h => absurd h (no vs H Q E), fun A outer s H args us vs Q E _ _ _ _ h => absurd h (no vs H Q E)⟩
  | e + 1 => by
    have c_kind_at : Cal P w K mg base "kind_at" (2 * e + 2) ["scan", "levels"] (spKindAt Z e) := ⟨f, fd, ok_kind_at B M cz F hm hb Fc hmc hbc m_takes f_takes bm_takes m_needs f_needs bm_needs m_letters f_letters bm_letters c_is_name e, hm, F.kp, hb⟩
    have c_callback_at : Cal P w K mg base "callback_at" (2 * e + 3) ["scan", "levels"] (spBackAt Z e) := ⟨fc, fdc, ok_back B cz Fc m_takes f_takes bm_takes m_needs f_needs bm_needs (by omega) c_kind_at, hmc, Fc.kp, hbc⟩
    refine F.ok sc_kind_at (fun vs H Q E h => ?_) (fun cdv A outer s H vs Q E hr h => ?_)
    · obtain ⟨z, tx, l', k, rfl, _⟩ := h
      rfl
    obtain ⟨z, tx, l', k, rfl, hR, brk, hp, hd, hn, htx, q⟩ := h
    refine ⟨_, (pss_cons (ps_if (pt_cmpR op_eq (pv 1) pe_int (nomark _)) (pss_one ps_never) pss_nil)
    (pss_cons (ps_if (pt_val (pe_meth (pv 0) cz.cl m_takes f_takes (hr.mono (by first | decide | omega)) bm_takes .nil pass0 (pa_cons pe_str pa_nil))) (pss_cons (ps_set (i := 3) sc_kind_at.nd rfl (Or.inl rfl) (pc c_kind_at (hr.mono (by first | decide | omega)) (pa_cons (pv 0) (pa_cons (pe_op op_sub (pv 1) pe_int) pa_nil))))
    (pss_cons (ps_expr (pe_meth (pv 0) cz.cl m_needs f_needs (hr.mono (by first | decide | omega)) bm_needs .nil pass0 (pa_cons pe_str pa_nil)))
    (pss_one (ps_ret (pe_tup (pa_cons pe_str (pa_cons (pv 3) pa_nil))))))) pss_nil)
    (pss_cons (ps_if (pt_val (pe_meth (pv 0) cz.cl m_takes f_takes (hr.mono (by first | decide | omega)) bm_takes .nil pass0 (pa_cons pe_str pa_nil))) (pss_one (ps_ret (pc c_callback_at (hr.mono (by first | decide | omega)) (pa_cons (pv 0) (pa_cons (pe_op op_sub (pv 1) pe_int) pa_nil))))) pss_nil)
    (pss_cons (ps_set (i := 2) sc_kind_at.nd rfl (Or.inl rfl) (pe_meth0 (pv 0) cz.cl m_letters f_letters (hr.mono (by first | decide | omega)) bm_letters .nil pass0))
    (pss_cons (ps_if (pt_cmpR (inSeq K rfl) (pv 2) (pgT M.m_TAKEN) (by rfl)) (pss_one (ps_ret (pe_tup (pa_cons (pv 2) pa_nil)))) pss_nil)
    (pss_cons (ps_if (pt_not (pt_val (pc c_is_name (hr.mono (by first | decide | omega)) (pa_cons (pv 2) pa_nil)))) (pss_one ps_never) pss_nil)
    (pss_one (ps_ret (pe_tup (pa_cons pe_str (pa_cons (pv 2) pa_nil))))))))))), ?_⟩
    refine seq_abs (fun σ' H' => σ' = [some (.ref z), some (.int ((e + 1 : Nat) : Int)), none, none] ∧ H' = H) (fun σ1 H1 w1 => ?_) (fun nx hnx => ?_)
    rotate_left
    · refine ⟨_, rfl, rfl, _, rfl, ?_⟩
      rw [decide_eq_false (by intro h; injection h with h; omega)]
      exact iteF (hnx _ _ ⟨rfl, rfl⟩)
    obtain ⟨rfl, rfl⟩ := w1
    have e1 : (((e + 1 : Nat) : Int) - 1) = (e : Int) := by omega
    obtain ⟨c, s0, es, _, c91, c40⟩ := Kd.sh_head hp hn
    obtain ⟨dx, i, hz, _, _⟩ := id hR
    refine seq_abs (fun σ' H' => σ' = [some (.ref z), some (.int ((e + 1 : Nat) : Int)), none, none] ∧ H' = H1 ∧ c ≠ 91) (fun σ2 H2 w2 => ?_) (fun nx hnx => ?_)
    · obtain ⟨rfl, rfl, n91⟩ := w2
      refine seq_abs (fun σ' H' => σ' = [some (.ref z), some (.int ((e + 1 : Nat) : Int)), none, none] ∧ H' = H2 ∧ c ≠ 40) (fun σ3 H3 w3 => ?_) (fun nx hnx => ?_)
      · obtain ⟨rfl, rfl, n40⟩ := w3
        -- a word
        have word : ∃ x : Str, k.sh = cl x ∧ LtA x ∧ x.length ≤ 8 ∧ ((x = "num" ∧ k = .num) ∨ (x = "text" ∧ k = .text) ∨ (Nm x ∧ k = .of x)) := by
          cases k with
          | num => exact ⟨"num", rfl, by intro c hc; revert c; decide, by decide, .inl ⟨rfl, rfl⟩⟩
          | text => exact ⟨"text", rfl, by intro c hc; revert c; decide, by decide, .inr (.inl ⟨rfl, rfl⟩)⟩
          | of x =>
            have nx := hn x (by simp [Kd.names])
            exact ⟨x, rfl, nx.1.2, nx.1.1, .inr (.inr ⟨nx, rfl⟩)⟩
          | row j => exact absurd (by rw [Kd.sh] at es; injection es with a _; exact a.symm) n91
          | calls ps r => exact absurd (by rw [Kd.sh] at es; injection es with a _; exact a.symm) n40
          | answers n j => exact absurd hp (by simp [Kd.plain])
        obtain ⟨x, ex, hx, h8, hk⟩ := word
        obtain ⟨t1, t2⟩ := take_word (w := k.sh) (l := l') (by rw [ex]; exact lt_word hx) brk
        refine ⟨_, rfl, z, dx, _, rfl, hz, rfl, z, tx, _, rfl, hR, htx, fun H4 R4 b4 => ?_⟩
        rw [t2] at R4
        rw [t1, ex, ofL_cl]
        refine ⟨_, rfl, aT, _, rfl, .inr (M.q_TAKEN H4), rfl, by rfl, _, rfl, ?_⟩
        have e0 : (if false = true then !inV (.str x) [V.str "num", V.str "text"] else inV (.str x) [V.str "num", V.str "text"]) = decide (x ∈ (["num", "text"] : List Str)) := inV_str (us := ["num", "text"])
        rw [e0]
        rcases hk with ⟨rfl, rfl⟩ | ⟨rfl, rfl⟩ | ⟨nx, rfl⟩
        · refine ifT (by decide) ⟨_, rfl, (by show 1 ≤ sizeLine; decide), fun a na => ?_⟩
          exact q _ _ (.num upd_same) (R4.same (same_new na _)) (b4.trans (Bz.of_same (same_new na _)))
        · refine ifT (by decide) ⟨_, rfl, (by show 1 ≤ sizeLine; decide), fun a na => ?_⟩
          exact q _ _ (.text upd_same) (R4.same (same_new na _)) (b4.trans (Bz.of_same (same_new na _)))
        · rw [decide_eq_false (by simp [nx.2.2.1, nx.2.2.2])]
          refine iteF ⟨_, rfl, x, rfl, by omega, fun H5 s5 => ⟨_, rfl, ?_⟩⟩
          rw [nm_ok nx]
          refine iteF ⟨_, rfl, (by show 2 ≤ sizeLine; decide), fun a na => ?_⟩
          exact q _ _ (.of upd_same) ((R4.same s5).same (same_new na _)) ((b4.trans (Bz.of_same s5)).trans (Bz.of_same (same_new na _)))
      · refine ⟨_, rfl, z, dx, _, rfl, hz, rfl, z, tx, "(", _, rfl, hR, (by decide), ?_, fun hno => ⟨_, rfl, iteF (hnx _ _ ⟨rfl, rfl, fun h => hno (by rw [es, h]; exact ⟨_, rfl⟩)⟩)⟩⟩
        intro l2 el H3 R3 b3
        refine ⟨_, rfl, iteT ?_⟩
        have ec : c = 40 := by
          rw [es] at el
          have el : c :: _ = 40 :: _ := el
          injection el
        obtain ⟨ps, r, rfl⟩ := c40 ec
        have hp' : (ps.all Kd.flat && r.flat && decide (ps.length ≤ 3)) = true := hp
        rw [Bool.and_eq_true_iff, Bool.and_eq_true_iff, decide_eq_true_iff] at hp'
        have hd' : max (Kd.depths ps) r.depth + 1 ≤ e + 1 := hd
        have e2 : l2 = Kd.shs ps ++ (45 :: 62 :: 32 :: (r.sh ++ 41 :: l')) := by
          have el : 40 :: ((Kd.shs ps ++ (45 :: 62 :: 32 :: (r.sh ++ [41]))) ++ l') = 40 :: l2 := el
          injection el with _ el
          rw [← el]
          simp
        subst e2
        refine ⟨_, rfl, _, rfl, _, _, rfl, rfl, ?_⟩
        exact ⟨z, tx, l', ps, r, (by show [V.ref z, V.int (((e + 1 : Nat) : Int) - 1)] = _; rw [e1]), R3, hp'.1.1, hp'.1.2, hp'.2, by omega, by omega, fun x hx => hn x (by simp [Kd.names, hx]), fun x hx => hn x (by simp [Kd.names, hx]), htx, fun v H4 hv R4 b4 => q v H4 hv R4 (b3.trans b4)⟩
    · refine ⟨_, rfl, z, dx, _, rfl, hz, rfl, z, tx, "[", _, rfl, hR, (by decide), ?_, fun hno => ⟨_, rfl, iteF (hnx _ _ ⟨rfl, rfl, fun h => hno (by rw [es, h]; exact ⟨_, rfl⟩)⟩)⟩⟩
      intro l2 el H3 R3 b3
      refine ⟨_, rfl, iteT ?_⟩
      have ec : c = 91 := by
        rw [es] at el
        have el : c :: _ = 91 :: _ := el
        injection el
      obtain ⟨j, rfl⟩ := c91 ec
      have hd' : j.depth + 1 ≤ e + 1 := hd
      have e2 : l2 = j.sh ++ 93 :: l' := by
        have el : 91 :: ((j.sh ++ [93]) ++ l') = 91 :: l2 := el
        injection el with _ el
        rw [← el]
        simp
      subst e2
      refine ⟨_, rfl, _, rfl, _, _, rfl, rfl, ?_⟩
      refine ⟨z, tx, 93 :: l', j, (by show [V.ref z, V.int (((e + 1 : Nat) : Int) - 1)] = _; rw [e1]), R3, .cons (by decide), hp, by omega, hn, htx, fun v H4 hv R4 b4 => ?_⟩
      obtain ⟨dx4, i4, hz4, _, _⟩ := id R4
      refine ⟨_, rfl, z, dx4, _, rfl, hz4, rfl, z, tx, "]", _, l', rfl, R4, (by decide), rfl, fun H5 R5 b5 => ?_⟩
      refine ⟨_, rfl, (by show 2 ≤ sizeLine; decide), fun a na => ?_⟩
      exact q _ _ (.row upd_same (hv.mono ((b5.tups R4).trans (Tups.of_same (same_new na _))))) (R5.same (same_new na _)) (((b3.trans b4).trans b5).trans (Bz.of_same (same_new na _)))
end
end My
namespace My
open PySem L2
/-! kinds written -/
def spShow (e : Nat) : Sp := fun vs H Q _ => ∃ (v : V) (k : Kd), vs = [v] ∧ KdAt H v k ∧ k.plain = true ∧ k.depth ≤ e ∧ k.size ≤ 100 ∧ (∀ x ∈ k.names, LtS x) ∧ ∀ z H', cl z = k.sh → Same H H' → Q (.str z) H'
def spShowTo (E : Nat) : Sp := fun vs H Q X => ∃ e, e ≤ E ∧ spShow e vs H Q X
def Pshw (H0 : Hp) (D : Addr) (ks : List Kd) (i : Nat) (H : Hp) : Prop := Same H0 H ∧ ∃ zs : List Str, H D = some (.lst (zs.map V.str)) ∧ zs.map cl = (ks.take i).map Kd.sh
theorem Kd.sh_short {k : Kd} (hs : k.size ≤ 100) (hn : ∀ x ∈ k.names, LtS x) : k.sh.length ≤ 1400 := by
  have := Kd.sh_len k hn
  omega
theorem zs_sum : ∀ {zs : List Str} {ks : List Kd}, zs.map cl = ks.map Kd.sh → (∀ x ∈ Kd.namesL ks, LtS x) → (zs.map (·.length)).sum ≤ 14 * Kd.sizes ks
  | [], _, _, _ => by simp
  | z :: zs, [], h, _ => by simp at h
  | z :: zs, k :: ks, h, hn => by
    rw [List.map_cons, List.map_cons] at h
    injection h with h1 h2
    have a := zs_sum h2 fun x hx => hn x (by simp [Kd.namesL, hx])
    have b := Kd.sh_len k fun x hx => hn x (by simp [Kd.namesL, hx])
    have c : z.length = k.sh.length := by rw [← h1, cl_len]
    rw [List.map_cons, List.sum_cons, Kd.sizes]
    omega
theorem KdAt.plain_ne {H : Hp} {a : Addr} {w : Str} {r : List V} {k : Kd} (h : KdAt H (.ref a) k) (ha : H a = some (.tup (.str w :: r))) (hp : k.plain = true) :
    (w = "num" ∧ k = .num) ∨ (w = "text" ∧ k = .text) ∨ (w = "of" ∧ ∃ x, k = .of x ∧ r = [.str x]) ∨ (w = "row" ∧ ∃ j u, k = .row j ∧ r = [u] ∧ KdAt H u j) ∨ (w = "calls" ∧ ∃ ps q b vs u, k = .calls ps q ∧ r = [.ref b, u] ∧ H b = some (.tup vs) ∧ KdsAt H vs ps ∧ KdAt H u q) := by
  cases h with
  | num h => rw [h] at ha; injection ha with ha; injection ha with ha; injection ha with e1 e2; injection e1 with e1; exact .inl ⟨e1.symm, rfl⟩
  | text h => rw [h] at ha; injection ha with ha; injection ha with ha; injection ha with e1 e2; injection e1 with e1; exact .inr (.inl ⟨e1.symm, rfl⟩)
  | of h => rw [h] at ha; injection ha with ha; injection ha with ha; injection ha with e1 e2; injection e1 with e1; exact .inr (.inr (.inl ⟨e1.symm, _, rfl, e2.symm⟩))
  | row h hk => rw [h] at ha; injection ha with ha; injection ha with ha; injection ha with e1 e2; injection e1 with e1; exact .inr (.inr (.inr (.inl ⟨e1.symm, _, _, rfl, e2.symm, hk⟩)))
  | calls h hb hk hr => rw [h] at ha; injection ha with ha; injection ha with ha; injection ha with e1 e2; injection e1 with e1; exact .inr (.inr (.inr (.inr ⟨e1.symm, _, _, _, _, _, rfl, e2.symm, hb, hk, hr⟩)))
  | answers h hk => exact absurd hp (by simp [Kd.plain])
section
variable {P : Program} {w : World} {K : PySem.W.Frag} {mg : Str → Option Value} {base : Heap} {f : Addr} {fd : FuncData}
/-- what both writers go by in a callback: the called ones' texts -/
theorem show_calls {ps : List Kd} {r : Kd} {e : Nat} (hp : (Kd.calls ps r).plain = true) (hd : (Kd.calls ps r).depth ≤ e + 1) (hs : (Kd.calls ps r).size ≤ 100) (hn : ∀ x ∈ (Kd.calls ps r).names, LtS x) :
    (∀ k ∈ ps, k.plain = true ∧ k.depth ≤ e ∧ k.size ≤ 100 ∧ ∀ x ∈ k.names, LtS x) ∧ (r.plain = true ∧ r.depth ≤ e ∧ r.size ≤ 100 ∧ ∀ x ∈ r.names, LtS x) ∧ ps.length ≤ 3 ∧ Kd.sizes ps ≤ 100 ∧ (∀ x ∈ Kd.namesL ps, LtS x) := by
  have hp' : (ps.all Kd.flat && r.flat && decide (ps.length ≤ 3)) = true := hp
  rw [Bool.and_eq_true_iff, Bool.and_eq_true_iff, decide_eq_true_iff] at hp'
  have hd' : max (Kd.depths ps) r.depth + 1 ≤ e + 1 := hd
  have hs' : Kd.sizes ps + r.size + 1 ≤ 100 := hs
  have hn1 : ∀ x ∈ Kd.namesL ps, LtS x := fun x hx => hn x (by simp [Kd.names, hx])
  refine ⟨fun k hk => ⟨Kd.plain_of_flat (List.all_eq_true.mp hp'.1.1 k hk), ?_, ?_, fun x hx => hn1 x (Kd.namesL_mem hk hx)⟩, ⟨Kd.plain_of_flat hp'.1.2, by omega, by omega, fun x hx => hn x (by simp [Kd.names, hx])⟩, hp'.2, by omega, hn1⟩
  · have := Kd.depths_mem hk
    omega
  · have := Kd.sizes_mem hk
    omega
end
end My
namespace My
open PySem L2
/-! the law's own writer; a kind read -/
def spRead (Z : Addr) : Sp := fun vs H Q _ => ∃ (tx : Str) (k : Kd), vs = [.str tx] ∧ cl tx = k.sh ∧ k.plain = true ∧ k.depth ≤ 5 ∧ k.size ≤ 100 ∧ (∀ x ∈ k.names, Nm x) ∧ ∀ v H', KdAt H' v k → Same H H' → Q v H'
section
variable {P : Program} {w : World} {K : PySem.W.Frag} {mg : Str → Option Value} {base : Heap} {f : Addr} {fd : FuncData} {aT aF Z : Addr}
theorem ok_shown (B : Bn mg) (F : Fun K "_law_shown" "_law_shown" s__law_shown f fd) (hm : mg "_law_shown" = some (.ref f)) (hb : Binds K fd ["kind"] []) : ∀ e : Nat, FnOk P w K mg base CX0 (e + 1) f fd ["kind"] (spShow e)
  | 0 => by
    have no : ∀ vs H Q E, ¬ spShow 0 vs H Q E := fun vs H Q E h => by
      obtain ⟨v, k, _, _, _, h, _⟩ := h
      have := k.depth_inner
      omega
    exact ⟨fun vs H Q E h => absurd h (no vs H Q E), fun A outer s H args us vs Q E _ _ _ _ h => absurd h (no vs H Q E)⟩
  | e + 1 => by
    have c__law_shown : Cal P w K mg base "_law_shown" (e + 1) ["kind"] (spShow e) := ⟨f, fd, ok_shown B F hm hb e, hm, F.kp, hb⟩
    refine F.ok sc__law_shown (fun vs H Q E h => ?_) (fun cdv A outer s H vs Q E hr h => ?_)
    · obtain ⟨v, k, rfl, _⟩ := h
      rfl
    obtain ⟨v, k, rfl, hk, hp, hd, hs, hn, q0⟩ := h
    refine ⟨_, (pss_cons (ps_if (pt_cmpR (inSeq K rfl) (pe_ix (ixT K rfl) (pv 0) pe_int (fun _ _ => rfl)) (pe_lst (pa_cons pe_str (pa_cons pe_str pa_nil))) (by rfl)) (pss_one (ps_ret (pe_ix (ixT K rfl) (pv 0) pe_int (fun _ _ => rfl)))) pss_nil)
    (pss_cons (ps_if (pt_cmpR op_eq (pe_ix (ixT K rfl) (pv 0) pe_int (fun _ _ => rfl)) pe_str (nomark _)) (pss_one (ps_ret (pe_ix (ixT K rfl) (pv 0) pe_int (fun _ _ => rfl)))) pss_nil)
    (pss_cons (ps_if (pt_cmpR op_eq (pe_ix (ixT K rfl) (pv 0) pe_int (fun _ _ => rfl)) pe_str (nomark _)) (pss_one (ps_ret (pe_op op_add_str (pe_op op_add_str pe_str (pc c__law_shown (hr.mono (by first | decide | omega)) (pa_cons (pe_ix (ixT K rfl) (pv 0) pe_int (fun _ _ => rfl)) pa_nil))) pe_str))) pss_nil)
    (pss_cons (ps_set (i := 1) sc__law_shown.nd rfl (Or.inl rfl) (pe_join pe_str (pe_lc (own := [("one", 2)]) (g := (gName 2)) rfl sc__law_shown.nd (piT K rfl (pe_ix (ixT K rfl) (pv 0) pe_int (fun _ _ => rfl))) (blkOk_by (N := ["kind", "called", "one"]) (sc := defScope s__law_shown) (by decide +kernel)) (fun _ _ _ _ _ => (pg_name (i := 2) sc__law_shown.nd rfl (Or.inl rfl) (hf := Or.inr rfl))) (fun _ _ _ _ _ => pts_nil) (fun _ _ _ _ _ => (pc c__law_shown (hr.mono (by first | decide | omega)) (pa_cons (pv 2) pa_nil))))))
    (pss_one (ps_ret (pe_op op_add_str (pe_op op_add_str (pe_op op_add_str (pe_op op_add_str (pe_op op_add_str pe_str (pv 1)) (pe_op op_mul_str0 pe_str (pe_callB (call_min2 rfl) (by rfl) B.b_min (by decide +kernel) (pa_cons pe_int (pa_cons (pe_callB (lenSeq K rfl) (by rfl) B.b_len PySem.boot_len (pa_cons (pe_ix (ixT K rfl) (pv 0) pe_int (fun _ _ => rfl)) pa_nil)) pa_nil))))) pe_str) (pc c__law_shown (hr.mono (by first | decide | omega)) (pa_cons (pe_ix (ixT K rfl) (pv 0) pe_int (fun _ _ => rfl)) pa_nil))) pe_str))))))), ?_⟩
    have words : ∀ (x : Str), (if false = true then !inV (.str x) [V.str "num", V.str "text"] else inV (.str x) [V.str "num", V.str "text"]) = decide (x ∈ (["num", "text"] : List Str)) := fun x => inV_str (us := ["num", "text"])
    cases hk with
    | num ha =>
      refine ⟨_, rfl, _, _, _, .str "num", rfl, rfl, SqT.of ha, at_of (j := 0) rfl rfl, (by show 2 ≤ sizeLine; decide), fun l nl => ?_⟩
      have s1 := same_new nl (.lst [V.str "num", V.str "text"])
      refine ⟨l, _, rfl, .inl (SqL.of upd_same), rfl, by rfl, _, rfl, ?_⟩
      rw [words]
      refine ifT (by decide) ⟨_, rfl, _, _, _, .str "num", rfl, rfl, SqT.of (s1 _ _ ha), at_of (j := 0) rfl rfl, q0 _ _ rfl s1⟩
    | text ha =>
      refine ⟨_, rfl, _, _, _, .str "text", rfl, rfl, SqT.of ha, at_of (j := 0) rfl rfl, (by show 2 ≤ sizeLine; decide), fun l nl => ?_⟩
      have s1 := same_new nl (.lst [V.str "num", V.str "text"])
      refine ⟨l, _, rfl, .inl (SqL.of upd_same), rfl, by rfl, _, rfl, ?_⟩
      rw [words]
      refine ifT (by decide) ⟨_, rfl, _, _, _, .str "text", rfl, rfl, SqT.of (s1 _ _ ha), at_of (j := 0) rfl rfl, q0 _ _ rfl s1⟩
    | @of a x ha =>
      refine ⟨_, rfl, _, _, _, .str "of", rfl, rfl, SqT.of ha, at_of (j := 0) rfl rfl, (by show 2 ≤ sizeLine; decide), fun l nl => ?_⟩
      have s1 := same_new nl (.lst [V.str "num", V.str "text"])
      refine ⟨l, _, rfl, .inl (SqL.of upd_same), rfl, by rfl, _, rfl, ?_⟩
      rw [words]
      refine ifF (by decide) ?_
      have ha := s1 _ _ ha
      refine ⟨_, rfl, _, _, _, _, rfl, rfl, SqT.of ha, at_of rfl rfl, rfl, _, rfl, ifT (by decide) ?_⟩
      exact ⟨_, rfl, _, _, _, .str x, rfl, rfl, SqT.of ha, at_of (j := 1) rfl rfl, q0 _ _ rfl s1⟩
    | @row a u j ha hj =>
      have hd' : j.depth + 1 ≤ e + 1 := hd
      have hs' : j.size + 1 ≤ 100 := hs
      refine ⟨_, rfl, _, _, _, .str "row", rfl, rfl, SqT.of ha, at_of (j := 0) rfl rfl, (by show 2 ≤ sizeLine; decide), fun l nl => ?_⟩
      have s1 := same_new nl (.lst [V.str "num", V.str "text"])
      refine ⟨l, _, rfl, .inl (SqL.of upd_same), rfl, by rfl, _, rfl, ?_⟩
      rw [words]
      refine ifF (by decide) ?_
      have ha := s1 _ _ ha
      have hj := hj.mono (Tups.of_same s1)
      refine ⟨_, rfl, _, _, _, _, rfl, rfl, SqT.of ha, at_of rfl rfl, rfl, _, rfl, ifF (by decide) ?_⟩
      refine ⟨_, rfl, _, _, _, _, rfl, rfl, SqT.of ha, at_of rfl rfl, rfl, _, rfl, ifT (by decide) ?_⟩
      refine ⟨_, rfl, _, _, _, u, rfl, rfl, SqT.of ha, at_of (j := 1) rfl rfl, u, j, rfl, hj, hp, by omega, by omega, hn, fun z H2 hz s2 => ?_⟩
      have lz := Kd.sh_short (k := j) (by omega) hn
      rw [← hz, cl_len] at lz
      have l1 : ("[" ++ z : Str).length ≤ 1500 := by rw [len_app]; show 1 + z.length ≤ 1500; omega
      refine ⟨"[", z, rfl, rfl, Nat.le_of_lt (line5 (by show 1 + z.length ≤ _; omega)), _, "]", rfl, rfl, Nat.le_of_lt (line5 (by show _ + 1 ≤ _; omega)), ?_⟩
      refine q0 _ _ ?_ (s1.trans s2)
      rw [cl_app, cl_app, hz]
      rfl
    | @calls a b ws u ps r ha hbt hps hr2 =>
      obtain ⟨g1, g2, g3, g4, g5⟩ := show_calls hp hd hs hn
      refine ⟨_, rfl, _, _, _, .str "calls", rfl, rfl, SqT.of ha, at_of (j := 0) rfl rfl, (by show 2 ≤ sizeLine; decide), fun l nl => ?_⟩
      have s1 := same_new nl (.lst [V.str "num", V.str "text"])
      refine ⟨l, _, rfl, .inl (SqL.of upd_same), rfl, by rfl, _, rfl, ?_⟩
      rw [words]
      refine ifF (by decide) ?_
      have T1 := Tups.of_same s1
      have ha := T1 _ _ ha
      have hbt := T1 _ _ hbt
      have hps := hps.mono T1
      have hr2 := hr2.mono T1
      generalize upd H l (.lst [V.str "num", V.str "text"]) = H1 at s1 ha hbt hps hr2
      refine ⟨_, rfl, _, _, _, _, rfl, rfl, SqT.of ha, at_of rfl rfl, rfl, _, rfl, ifF (by decide) ?_⟩
      refine ⟨_, rfl, _, _, _, _, rfl, rfl, SqT.of ha, at_of rfl rfl, rfl, _, rfl, ifF (by decide) ?_⟩
      refine ⟨⟨_, rfl⟩, _, rfl, _, _, _, .ref b, rfl, rfl, SqT.of ha, at_of (j := 1) rfl rfl, b, rfl, ⟨_, SqT.of hbt⟩, fun D nD => lc_tup (xs := ws) (Pshw H1 D ps) ?_ ?_ ?_ ?_⟩
      · exact ⟨same_new nD _, [], upd_same, rfl⟩
      · exact fun i H2 _ p => SqT.of (p.1 _ _ hbt)
      · rintro i x H2 hx ⟨s2, zs, hD, ez⟩
        obtain ⟨kx, hkx, kdx⟩ := hps.get i x hx
        obtain ⟨a1, a2, a3, a4⟩ := g1 kx (List.mem_of_getElem? hkx)
        have hil : i < ps.length := (List.getElem?_eq_some_iff.mp hkx).1
        have lz : zs.length = i := by
          have := congrArg List.length ez
          rw [List.length_map, List.length_map, List.length_take] at this
          omega
        refine ⟨rfl, _, rfl, x, kx, rfl, kdx.mono (Tups.of_same s2), a1, a2, a3, a4, fun z H3 hz s3 => ⟨_, s3 _ _ hD, line5 (by rw [List.length_map]; omega), Same.atNew (s2.trans s3) nD, zs ++ [z], ?_, ?_⟩⟩
        · rw [upd_same, List.map_append]
          rfl
        · rw [← take_next hkx, List.map_append, List.map_append, ez]
          show _ ++ [cl z] = _
          rw [hz]
          rfl
      rintro H2 ⟨s2, zs, hD, ez⟩
      rw [hps.len, List.take_length] at ez
      have hsum := zs_sum ez g5
      have lz : zs.length = ps.length := by
        have := congrArg List.length ez
        rw [List.length_map, List.length_map] at this
        exact this
      have lcomma : (", " : Str).length = 2 := rfl
      refine ⟨_, D, zs, rfl, rfl, .inl (SqL.of hD), by rw [lcomma]; omega, ?_⟩
      have ecl := txt_join ", " zs
      have elen := txt_join_len ", " zs
      rw [ez] at ecl
      rw [lcomma] at elen
      have s2T := Tups.of_same s2
      have ha2 := s2T _ _ ha
      generalize Txt.join ", " zs = called at ecl elen ⊢
      have lsh := Kd.shs_len ps g5
      have sg := Kd.shs_glue ps
      have lw := hps.len
      -- the blank, where there are called ones
      have bl : ∃ b1 : Str, Txt.mul " " (if ((ws.length : Nat) : Int) < 1 then ((ws.length : Nat) : Int) else 1) = b1 ∧ b1.length ≤ 1 ∧ cl called ++ cl b1 = Kd.shs ps := by
        cases ws with
        | nil =>
          have ep : ps = [] := List.eq_nil_of_length_eq_zero lw.symm
          subst ep
          exact ⟨_, rfl, by decide, by rw [ecl]; rfl⟩
        | cons w0 wr =>
          have np : ps ≠ [] := fun e => by rw [e] at lw; cases lw
          rw [if_neg np] at sg
          have e1 : (if ((((w0 :: wr).length : Nat)) : Int) < 1 then (((w0 :: wr).length : Nat) : Int) else 1) = 1 := if_neg (by rw [List.length_cons]; omega)
          rw [e1]
          exact ⟨_, rfl, by decide, by rw [ecl, sg]; rfl⟩
      obtain ⟨b1, eb, lb, ebl⟩ := bl
      have lc : called.length ≤ 1401 := by
        have := congrArg List.length ebl
        rw [List.length_append, cl_len] at this
        omega
      have n0 : (0 : Int) ≤ (if ((ws.length : Nat) : Int) < 1 then ((ws.length : Nat) : Int) else 1) ∧ (if ((ws.length : Nat) : Int) < 1 then ((ws.length : Nat) : Int) else 1) ≤ 1000 := by split <;> omega
      have l1 : ("(" ++ called : Str).length ≤ 1500 := by rw [len_app]; show 1 + called.length ≤ 1500; omega
      have l2 : ("(" ++ called ++ b1 : Str).length ≤ 1501 := by rw [len_app]; omega
      have l3 : ("(" ++ called ++ b1 ++ "-> " : Str).length ≤ 1504 := by rw [len_app]; show _ + 3 ≤ _; omega
      refine ⟨_, rfl, _, called, rfl, rfl, Nat.le_of_lt (line5 (by show 1 + called.length ≤ _; omega)), _, rfl, _, _, _, .ref b, rfl, rfl, SqT.of ha2, at_of (j := 1) rfl rfl, b, _, rfl, .inr (SqT.of (s2T _ _ hbt)), _, _, rfl, _, _, rfl, rfl, n0.1, n0.2, by decide, ?_⟩
      rw [eb]
      refine ⟨_, b1, rfl, rfl, Nat.le_of_lt (line5 (by omega)), _, _, rfl, rfl, Nat.le_of_lt (line5 (by show _ + 3 ≤ _; omega)), ?_⟩
      refine ⟨_, rfl, _, _, _, u, rfl, rfl, SqT.of ha2, at_of (j := 2) rfl rfl, u, r, rfl, hr2.mono s2T, g2.1, g2.2.1, g2.2.2.1, g2.2.2.2, fun z H4 hz s4 => ?_⟩
      have lz := Kd.sh_short g2.2.2.1 g2.2.2.2
      rw [← hz, cl_len] at lz
      have l4 : ("(" ++ called ++ b1 ++ "-> " ++ z : Str).length ≤ 3000 := by rw [len_app]; omega
      refine ⟨_, z, rfl, rfl, Nat.le_of_lt (line5 (by omega)), _, _, rfl, rfl, Nat.le_of_lt (line5 (by show _ + 1 ≤ _; omega)), ?_⟩
      refine q0 _ _ ?_ ((s1.trans s2).trans s4)
      rw [cl_app, cl_app, cl_app, cl_app, cl_app, hz]
      have e9 : cl "(" ++ cl called ++ cl b1 ++ cl "-> " ++ r.sh ++ cl ")" = 40 :: ((cl called ++ cl b1) ++ (45 :: 62 :: 32 :: (r.sh ++ [41]))) := by
        show [40] ++ cl called ++ cl b1 ++ [45, 62, 32] ++ r.sh ++ [41] = _
        simp
      rw [e9, ebl]
      rfl
    | answers ha hj => exact absurd hp (by simp [Kd.plain])
def spScanAt (Z : Addr) : Sp := spScan Z
end
end My
namespace My
open PySem L2
/-! _law_alike -/
theorem call_len_seqB {X : Cx} : CallR X (.builtin "len") (fun xs H Q => ∃ p ys, xs = [.ref p] ∧ (SqL X.K H p ys ∨ SqT X.K H p ys) ∧ (ys.length ≤ sizeLine → Q (.int ys.length) H)) := by
  intro pins s σ H xs us Q I r h
  obtain ⟨p, ys, rfl, hs, q⟩ := h
  have hb : ys.length ≤ sizeLine := by
    rcases hs with hs | hs
    · obtain ⟨its, rv, _, hl⟩ := I.list hs
      exact hl
    · obtain ⟨its, rv, _, hl⟩ := I.tuple hs
      exact hl
  exact call_len_seq pins s σ H _ us Q I r ⟨p, ys, rfl, hs, q hb⟩
theorem lenSeqB {X : Cx} (K : PySem.W.Frag) (h : X.K = K) : CallR X (.builtin "len") (fun xs H Q => ∃ p ys, xs = [.ref p] ∧ (SqL K H p ys ∨ SqT K H p ys) ∧ (ys.length ≤ sizeLine → Q (.int ys.length) H)) := by
  subst h
  exact call_len_seqB
theorem ix_or {X : Cx} {r1 r2 : R2} (h1 : IxR X r1) (h2 : IxR X r2) : IxR X (fun x y H Q => r1 x y H Q ∨ r2 x y H Q) := by
  intro e sl pins s σ H x y v u Q I rx ry h hs
  rcases h with h | h
  · exact h1 e sl pins s σ H x y v u Q I rx ry h hs
  · exact h2 e sl pins s σ H x y v u Q I rx ry h hs
def tyName : PyData → String
  | .none => "NoneType"
  | .bool _ => "bool"
  | .int _ => "int"
  | .str _ => "str"
  | .list _ => "list"
  | .tuple _ => "tuple"
  | _ => "?"
theorem Dp.ty {K : PySem.W.Frag} {H : Hp} {v : V} {d : PyData} (h : Dp K H v d) : TyX K H v (.type (tyName d)) := by
  cases h with
  | non => exact .base .non
  | bl b => exact .base (.bl b)
  | int i => exact .base (.int i)
  | str x => exact .base (.str x)
  | lst h _ =>
    rcases h with (h | ⟨o, h⟩) | ⟨o, its, n, h, c, _⟩
    · exact .base (.lst h)
    · exact .base (.frz h)
    · exact .kList h c
  | tup h _ =>
    rcases h with (h | ⟨o, h⟩) | ⟨o, its, n, h, c, _⟩
    · exact .base (.tup h)
    · exact .fTuple h
    · exact .kTuple h c
theorem DpAll.get {K : PySem.W.Frag} {H : Hp} : ∀ {ds : List PyData} {vs : List V}, DpAll K H vs ds → ∀ (i : Nat) (v : V), vs[i]? = some v → ∃ d, ds[i]? = some d ∧ Dp K H v d
  | _, _, .nil, i, v, h => by simp at h
  | _, _, .cons a r, 0, v, h => by
    have e := Option.some.inj h
    subst e
    exact ⟨_, rfl, a⟩
  | _, _, .cons a r, i + 1, v, h => DpAll.get r i v h
theorem DpAll.len {K : PySem.W.Frag} {H : Hp} : ∀ {ds : List PyData} {vs : List V}, DpAll K H vs ds → vs.length = ds.length
  | _, _, .nil => rfl
  | _, _, .cons _ r => by rw [List.length_cons, DpAll.len r, List.length_cons]
theorem rdSame2 {K : PySem.W.Frag} {H H' : Hp} {a : Addr} {xs : List V} (s : Same H H') (h : SqT K H a xs) : SqT K H' a xs := by
  rcases h with (h | ⟨o, h⟩) | h
  · exact .inl (.inl (s _ _ h))
  · exact .inl (.inr ⟨o, s _ _ h⟩)
  · exact .inr h
mutual
theorem Dp.same {K : PySem.W.Frag} {H H' : Hp} (s : Same H H') : ∀ {d : PyData} {v : V}, Dp K H v d → Dp K H' v d
  | .none, _, .non => .non
  | .bool _, _, .bl b => .bl b
  | .int _, _, .int i => .int i
  | .str _, _, .str x => .str x
  | .list _, _, .lst h t => .lst (s.seq h) (DpAll.same s t)
  | .tuple _, _, .tup h t => .tup (rdSame2 s h) (DpAll.same s t)
theorem DpAll.same {K : PySem.W.Frag} {H H' : Hp} (s : Same H H') : ∀ {ds : List PyData} {vs : List V}, DpAll K H vs ds → DpAll K H' vs ds
  | [], _, .nil => .nil
  | _ :: _, _, .cons h t => .cons (Dp.same s h) (DpAll.same s t)
end
theorem depth_mem {d : PyData} : ∀ {ds : List PyData}, d ∈ ds → PyData.depth d ≤ PyData.depthAll ds
  | x :: r, h => by
    rw [PyData.depthAll]
    rcases List.mem_cons.mp h with rfl | h
    · omega
    · have := depth_mem h
      omega
def spAlike (K : PySem.W.Frag) (e : Nat) : Sp := fun vs H Q _ => ∃ (x y : V) (d : PyData), vs = [x, y] ∧ Dp K H x d ∧ Dp K H y d ∧ PyData.depth d < e ∧ ∀ H', Same H H' → Q (.bl true) H'
def Palk (a b : Addr) (H0 : Hp) (_i : Nat) (σ : St) (H : Hp) : Prop := ∃ u, σ = [some (.ref a), some (.ref b), u] ∧ Same H0 H
section
variable {P : Program} {w : World} {K : PySem.W.Frag} {mg : Str → Option Value} {base : Heap} {f : Addr} {fd : FuncData}
set_option maxHeartbeats 8000000 in
theorem ok_alike (B : Bn mg) (F : Fun K "_law_alike" "_law_alike" s__law_alike f fd) (hm : mg "_law_alike" = some (.ref f)) (hb : Binds K fd ["found", "due"] []) : ∀ e : Nat, FnOk P w K mg base CX0 (e + 1) f fd ["found", "due"] (spAlike K e)
  | 0 => by
    have no : ∀ vs H Q E, ¬ spAlike K 0 vs H Q E := fun vs H Q E h => by
      obtain ⟨x, y, d, _, _, _, h, _⟩ := h
      omega
    exact ⟨fun vs H Q E h => absurd h (no vs H Q E), fun A outer s H args us vs Q E _ _ _ _ h => absurd h (no vs H Q E)⟩
  | e + 1 => by
    have c__law_alike : Cal P w K mg base "_law_alike" (e + 1) ["found", "due"] (spAlike K e) := ⟨f, fd, ok_alike B F hm hb e, hm, F.kp, hb⟩
    refine F.ok sc__law_alike (fun vs H Q E h => ?_) (fun cdv A outer s H vs Q E hr h => ?_)
    · obtain ⟨x, y, d, rfl, _⟩ := h
      rfl
    obtain ⟨x, y, d, rfl, hx, hy, hd, q⟩ := h
    refine ⟨_, (pss_cons (ps_if (pt_cmpR op_isN (pv 1) pe_non (nomark _)) (pss_one (ps_ret (pe_cmpR op_isN (pv 0) pe_non (nomark _)))) pss_nil)
    (pss_cons (ps_if (pt_val (pe_callB (isInst K rfl) (by rfl) B.b_isinstance (by decide +kernel) (pa_cons (pv 1) (pa_cons (pe_bltn (v := .ty "bool") (by rfl) B.b_bool (by decide +kernel) rfl) pa_nil)))) (pss_one (ps_ret (pe_and (pe_callB (isInst K rfl) (by rfl) B.b_isinstance (by decide +kernel) (pa_cons (pv 0) (pa_cons (pe_bltn (v := .ty "bool") (by rfl) B.b_bool (by decide +kernel) rfl) pa_nil))) (pe_one (pe_cmpR op_eq (pv 0) (pv 1) (nomark _)))))) pss_nil)
    (pss_cons (ps_if (pt_val (pe_callB (isInst K rfl) (by rfl) B.b_isinstance (by decide +kernel) (pa_cons (pv 1) (pa_cons (pe_bltn (v := .ty "int") (by rfl) B.b_int (by decide +kernel) rfl) pa_nil)))) (pss_one (ps_ret (pe_and (pe_callB (isInst K rfl) (by rfl) B.b_isinstance (by decide +kernel) (pa_cons (pv 0) (pa_cons (pe_bltn (v := .ty "int") (by rfl) B.b_int (by decide +kernel) rfl) pa_nil))) (pe_and (pe_not (pe_callB (isInst K rfl) (by rfl) B.b_isinstance (by decide +kernel) (pa_cons (pv 0) (pa_cons (pe_bltn (v := .ty "bool") (by rfl) B.b_bool (by decide +kernel) rfl) pa_nil)))) (pe_one (pe_cmpR op_eq (pv 0) (pv 1) (nomark _))))))) pss_nil)
    (pss_cons (ps_if (pt_val (pe_callB (isInst K rfl) (by rfl) B.b_isinstance (by decide +kernel) (pa_cons (pv 1) (pa_cons (pe_bltn (v := .ty "str") (by rfl) B.b_str (by decide +kernel) rfl) pa_nil)))) (pss_one (ps_ret (pe_and (pe_callB (isInst K rfl) (by rfl) B.b_isinstance (by decide +kernel) (pa_cons (pv 0) (pa_cons (pe_bltn (v := .ty "str") (by rfl) B.b_str (by decide +kernel) rfl) pa_nil))) (pe_one (pe_cmpR op_eq (pv 0) (pv 1) (nomark _)))))) pss_nil)
    (pss_cons (ps_if (PW.pt (pw_or (pt_cmpR op_ne (pe_callB (isInst K rfl) (by rfl) B.b_isinstance (by decide +kernel) (pa_cons (pv 0) (pa_cons (pe_bltn (v := .ty "list") (by rfl) B.b_list (by decide +kernel) rfl) pa_nil))) (pe_callB (isInst K rfl) (by rfl) B.b_isinstance (by decide +kernel) (pa_cons (pv 1) (pa_cons (pe_bltn (v := .ty "list") (by rfl) B.b_list (by decide +kernel) rfl) pa_nil))) (nomark _)) (pw_or1 (pt_cmpR op_ne (pe_callB (isInst K rfl) (by rfl) B.b_isinstance (by decide +kernel) (pa_cons (pv 0) (pa_cons (pe_bltn (v := .ty "tuple") (by rfl) B.b_tuple (by decide +kernel) rfl) pa_nil))) (pe_callB (isInst K rfl) (by rfl) B.b_isinstance (by decide +kernel) (pa_cons (pv 1) (pa_cons (pe_bltn (v := .ty "tuple") (by rfl) B.b_tuple (by decide +kernel) rfl) pa_nil))) (nomark _))))) (pss_one (ps_ret pe_bl)) pss_nil)
    (pss_cons (ps_if (pt_cmpR op_ne (pe_callB (lenSeq K rfl) (by rfl) B.b_len PySem.boot_len (pa_cons (pv 0) pa_nil)) (pe_callB (lenSeqB K rfl) (by rfl) B.b_len PySem.boot_len (pa_cons (pv 1) pa_nil)) (nomark _)) (pss_one (ps_ret pe_bl)) pss_nil)
    (pss_cons (ps_for PassesOwn.never rfl (pi_range1 rfl B.b_range (pa_cons (pe_callB (lenSeqB K rfl) (by rfl) B.b_len PySem.boot_len (pa_cons (pv 1) pa_nil)) pa_nil)) (pg_name (i := 2) sc__law_alike.nd rfl (Or.inl rfl)) (pss_one (ps_if (pt_not (pt_val (pc c__law_alike (hr.mono (by first | decide | omega)) (pa_cons (pe_ix (ix_or (ixL K rfl) (ixT K rfl)) (pv 0) (pv 2) (fun _ _ => rfl)) (pa_cons (pe_ix (ix_or (ixL K rfl) (ixT K rfl)) (pv 1) (pv 2) (fun _ _ => rfl)) pa_nil))))) (pss_one (ps_ret pe_bl)) pss_nil)))
    (pss_one (ps_ret pe_bl))))))))), ?_⟩
    have tx := Dp.ty hx
    have ty := Dp.ty hy
    cases d with
    | none =>
      cases hx
      cases hy
      exact ⟨_, rfl, rfl, _, rfl, iteT ⟨_, rfl, rfl, q H (Same.refl _)⟩⟩
    | bool b =>
      cases hx
      cases hy
      have tx : TyX K H (.bl b) (.type "bool") := tx
      have ty : TyX K H (.bl b) (.type "bool") := ty
      refine ⟨_, rfl, rfl, _, rfl, iteF ?_⟩
      refine ⟨_, rfl, _, _, _, _, _, rfl, .ty "bool", ty, kit_ty (r := true) (by decide +kernel), _, rfl, iteT ?_⟩
      refine ⟨_, rfl, _, _, _, _, _, rfl, .ty "bool", tx, kit_ty (r := true) (by decide +kernel), _, rfl, iteT ⟨_, rfl, _, rfl, rfl, ?_⟩⟩
      have z := q H (Same.refl _)
      rw [← decide_eq_true (p := V.bl b = V.bl b) rfl] at z
      exact z
    | int i =>
      cases hx
      cases hy
      have tx : TyX K H (.int i) (.type "int") := tx
      have ty : TyX K H (.int i) (.type "int") := ty
      refine ⟨_, rfl, rfl, _, rfl, iteF ?_⟩
      refine ⟨_, rfl, _, _, _, _, _, rfl, .ty "bool", ty, kit_ty (r := false) (by decide +kernel), _, rfl, iteF ?_⟩
      refine ⟨_, rfl, _, _, _, _, _, rfl, .ty "int", ty, kit_ty (r := true) (by decide +kernel), _, rfl, iteT ?_⟩
      refine ⟨_, rfl, _, _, _, _, _, rfl, .ty "int", tx, kit_ty (r := true) (by decide +kernel), _, rfl, iteT ?_⟩
      refine ⟨_, rfl, _, _, _, _, _, rfl, .ty "bool", tx, kit_ty (r := false) (by decide +kernel), _, rfl, _, rfl, iteT ⟨_, rfl, _, rfl, rfl, ?_⟩⟩
      have z := q H (Same.refl _)
      rw [← decide_eq_true (p := V.int i = V.int i) rfl] at z
      exact z
    | str z =>
      cases hx
      cases hy
      have tx : TyX K H (.str z) (.type "str") := tx
      have ty : TyX K H (.str z) (.type "str") := ty
      refine ⟨_, rfl, rfl, _, rfl, iteF ?_⟩
      refine ⟨_, rfl, _, _, _, _, _, rfl, .ty "bool", ty, kit_ty (r := false) (by decide +kernel), _, rfl, iteF ?_⟩
      refine ⟨_, rfl, _, _, _, _, _, rfl, .ty "int", ty, kit_ty (r := false) (by decide +kernel), _, rfl, iteF ?_⟩
      refine ⟨_, rfl, _, _, _, _, _, rfl, .ty "str", ty, kit_ty (r := true) (by decide +kernel), _, rfl, iteT ?_⟩
      refine ⟨_, rfl, _, _, _, _, _, rfl, .ty "str", tx, kit_ty (r := true) (by decide +kernel), _, rfl, iteT ⟨_, rfl, _, rfl, rfl, ?_⟩⟩
      have w := q H (Same.refl _)
      rw [← decide_eq_true (p := V.str z = V.str z) rfl] at w
      exact w
    | list ds =>
      have tx : TyX K H x (.type "list") := tx
      have ty : TyX K H y (.type "list") := ty
      cases hx with
      | @lst a xs _ sa da =>
      cases hy with
      | @lst b ys _ sb db =>
      have la := DpAll.len da
      have lb := DpAll.len db
      refine ⟨_, rfl, rfl, _, rfl, iteF ?_⟩
      refine ⟨_, rfl, _, _, _, _, _, rfl, .ty "bool", ty, kit_ty (r := false) (by decide +kernel), _, rfl, iteF ?_⟩
      refine ⟨_, rfl, _, _, _, _, _, rfl, .ty "int", ty, kit_ty (r := false) (by decide +kernel), _, rfl, iteF ?_⟩
      refine ⟨_, rfl, _, _, _, _, _, rfl, .ty "str", ty, kit_ty (r := false) (by decide +kernel), _, rfl, iteF ?_⟩
      refine ⟨_, rfl, _, _, _, _, _, rfl, .ty "list", tx, kit_ty (r := true) (by decide +kernel), _, rfl, _, _, _, _, _, rfl, .ty "list", ty, kit_ty (r := true) (by decide +kernel), rfl, _, rfl, iteNS rfl ?_⟩
      refine ⟨_, rfl, _, _, _, _, _, rfl, .ty "tuple", tx, kit_ty (r := false) (by decide +kernel), _, rfl, _, _, _, _, _, rfl, .ty "tuple", ty, kit_ty (r := false) (by decide +kernel), rfl, _, rfl, iteNS rfl ?_⟩
      refine ⟨_, rfl, a, xs, rfl, .inl sa, _, rfl, b, ys, rfl, .inl sb, fun bb => ⟨rfl, _, rfl, iteNS (by rw [la, lb]) ?_⟩⟩
      refine ⟨_, rfl, b, ys, rfl, .inl sb, fun bb => ?_⟩
      rw [sizeLine_eq] at bb
      refine ⟨_, rfl, by omega, by omega, for_range (lo := 0) (n := ((ys.length : Nat) : Int).toNat) (Palk a b H) ?_ ?_ ?_⟩
      · exact ⟨none, rfl, Same.refl _⟩
      · rintro i σ H1 hi ⟨u, rfl, s1⟩
        have hi2 : i < ds.length := by omega
        have hxi : xs[i]? = some (xs[i]'(by omega)) := List.getElem?_eq_getElem (by omega)
        have hyi : ys[i]? = some (ys[i]'(by omega)) := List.getElem?_eq_getElem (by omega)
        obtain ⟨dx, hdx, px⟩ := DpAll.get da i _ hxi
        obtain ⟨dy, hdy, py⟩ := DpAll.get db i _ hyi
        rw [hdx] at hdy
        have ed := Option.some.inj hdy
        subst ed
        have hdl := depth_mem (List.mem_of_getElem? hdx)
        rw [PyData.depth] at hd
        refine ⟨_, rfl, _, rfl, .inl ⟨a, xs, _, _, rfl, rfl, s1.seq sa, at_of (j := i) (by omega) hxi, _, rfl, _, rfl, .inl ⟨b, ys, _, _, rfl, rfl, s1.seq sb, at_of (j := i) (by omega) hyi, ?_⟩⟩⟩
        exact ⟨_, _, dx, rfl, Dp.same s1 px, Dp.same s1 py, by omega, fun H2 s2 => ⟨_, rfl, iteF ⟨_, rfl, s1.trans s2⟩⟩⟩
      · rintro σ H1 ⟨u, rfl, s1⟩
        exact q H1 s1
    | tuple ds =>
      have tx : TyX K H x (.type "tuple") := tx
      have ty : TyX K H y (.type "tuple") := ty
      cases hx with
      | @tup a xs _ sa da =>
      cases hy with
      | @tup b ys _ sb db =>
      have la := DpAll.len da
      have lb := DpAll.len db
      refine ⟨_, rfl, rfl, _, rfl, iteF ?_⟩
      refine ⟨_, rfl, _, _, _, _, _, rfl, .ty "bool", ty, kit_ty (r := false) (by decide +kernel), _, rfl, iteF ?_⟩
      refine ⟨_, rfl, _, _, _, _, _, rfl, .ty "int", ty, kit_ty (r := false) (by decide +kernel), _, rfl, iteF ?_⟩
      refine ⟨_, rfl, _, _, _, _, _, rfl, .ty "str", ty, kit_ty (r := false) (by decide +kernel), _, rfl, iteF ?_⟩
      refine ⟨_, rfl, _, _, _, _, _, rfl, .ty "list", tx, kit_ty (r := false) (by decide +kernel), _, rfl, _, _, _, _, _, rfl, .ty "list", ty, kit_ty (r := false) (by decide +kernel), rfl, _, rfl, iteNS rfl ?_⟩
      refine ⟨_, rfl, _, _, _, _, _, rfl, .ty "tuple", tx, kit_ty (r := true) (by decide +kernel), _, rfl, _, _, _, _, _, rfl, .ty "tuple", ty, kit_ty (r := true) (by decide +kernel), rfl, _, rfl, iteNS rfl ?_⟩
      refine ⟨_, rfl, a, xs, rfl, .inr sa, _, rfl, b, ys, rfl, .inr sb, fun bb => ⟨rfl, _, rfl, iteNS (by rw [la, lb]) ?_⟩⟩
      refine ⟨_, rfl, b, ys, rfl, .inr sb, fun bb => ?_⟩
      rw [sizeLine_eq] at bb
      refine ⟨_, rfl, by omega, by omega, for_range (lo := 0) (n := ((ys.length : Nat) : Int).toNat) (Palk a b H) ?_ ?_ ?_⟩
      · exact ⟨none, rfl, Same.refl _⟩
      · rintro i σ H1 hi ⟨u, rfl, s1⟩
        have hi2 : i < ds.length := by omega
        have hxi : xs[i]? = some (xs[i]'(by omega)) := List.getElem?_eq_getElem (by omega)
        have hyi : ys[i]? = some (ys[i]'(by omega)) := List.getElem?_eq_getElem (by omega)
        obtain ⟨dx, hdx, px⟩ := DpAll.get da i _ hxi
        obtain ⟨dy, hdy, py⟩ := DpAll.get db i _ hyi
        rw [hdx] at hdy
        have ed := Option.some.inj hdy
        subst ed
        have hdl := depth_mem (List.mem_of_getElem? hdx)
        rw [PyData.depth] at hd
        refine ⟨_, rfl, _, rfl, .inr ⟨a, xs, _, _, rfl, rfl, rdSame2 s1 sa, at_of (j := i) (by omega) hxi, _, rfl, _, rfl, .inr ⟨b, ys, _, _, rfl, rfl, rdSame2 s1 sb, at_of (j := i) (by omega) hyi, ?_⟩⟩⟩
        exact ⟨_, _, dx, rfl, Dp.same s1 px, Dp.same s1 py, by omega, fun H2 s2 => ⟨_, rfl, iteF ⟨_, rfl, s1.trans s2⟩⟩⟩
      · rintro σ H1 ⟨u, rfl, s1⟩
        exact q H1 s1
    | _ => cases hx
end
end My
namespace My
open PySem PySem.W PySem.Spec PySem.Calls PyProof.Rows Builtin Builtin.ObjectAttr Builtin.Getset_descriptor
/-! what the class of an error is called -/
section
variable {prog : Program} {w : World} {A : Around} {E : Value → Shared → Prop} {s : Shared} {K : Frag} {x D : Addr} {ox : Obj}
/-- e.__class__ of an error without a dict -/
theorem exc_class {expr : Bool} {Q : Value → Shared → Prop} (hga : findIn K (.ref D) "__getattribute__" = some (some (.builtin "BaseException.__getattribute__"))) (hgt : findIn K (.ref D) "__getattr__" = some none) (hsub : subIn K (.ref D) (.type "BaseException") = some true)
    (hdct : hasDictIn K D = true) (ha : findIn K (.ref D) "__class__" = some (some (.builtin "object.__class__")))
    (hn : specialIn K (.builtin "object.__class__") "__get__" = some (some (.builtin "getset_descriptor.__get__"))) (htk : takesIn K (.builtin "object.__class__") = some true) (hm : mroIn K D (.type "object") = some true)
    (X : K.In s.heap) (I : InstAt s.heap x ox D none) (h : Q (.ref D) { s with toks := s.toks + 1 }) : wpAny (model prog w) A (getAttr (.ref x) "__class__" expr) Q E s := by
  have hf : findObj K D none "__class__" = some (.bind (.builtin "getset_descriptor.__get__") (.builtin "object.__class__")) := findObj_dataN (by obtain ⟨cd, hc, _⟩ := any_some hdct; rw [hc]; rfl) ha hn htk
  obtain ⟨hp, g, d, t, os⟩ := s
  have L0 := I.type (M := model prog w)
  have L1 := looks_findIn (M := model prog w) X hga
  have L2 := looks_findIn (M := model prog w) X hgt
  have L3 := looks_find (M := model prog w) X I hf
  have sub : Looks (model prog w) hp (isInstance (.ref x) (.type "BaseException")) true := L0.andThen (looks_subIn X hsub)
  have hx0 : (expr && onTheHeap (Value.builtin "BaseException.__getattribute__")) = false := Bool.and_false _
  have hx2 : (Value.builtin "BaseException.__getattribute__" == Value.builtin "object.__getattribute__") = false := by decide +kernel
  have hx1 : (onTheHeap (Value.ref D) && Value.builtin "BaseException.__getattribute__" == Value.builtin "object.__getattribute__") = false := by rw [hx2]; rfl
  unfold getAttr getAttrBy
  refine wpAny_bind (wpAny_mkText (wpAny_holding (wpAny_bind (L0.at (wpAny_bind (L1.at ?_))))))
  show wpAny _ _ (if (onTheHeap (Value.ref D) && Value.builtin "BaseException.__getattribute__" == Value.builtin "object.__getattribute__") = true then _ else _) _ _ _
  rw [hx1, if_neg Bool.false_ne_true]
  unfold getAttrByItsOwn hookBefore
  refine wpAny_bind ?_
  rw [if_pos (show onTheHeap (Value.ref D) = true from rfl)]
  refine L2.at ?_
  refine wpAny_bind (wpAny_attempt (wpAny_holding ?_))
  unfold callGetattribute
  rw [hx0, if_neg Bool.false_ne_true]
  unfold boundAndCalled
  rw [PySem.F.excAttr_ValueError.ga.bind (.ref x)]
  refine wpAny_bind (wpAny_pure ?_)
  show wpAny _ _ (call (.builtin "BaseException.__getattribute__") [.ref x, .str "__class__" t]) _ _ _
  refine wpAny_call (codeAny_call_builtin PySem.F.excAttr_ValueError.ga.plain PySem.F.entry_bexc_ga ?_)
  refine @check_slot (model prog w) _ _ ⟨hp, g, d, t + 1, os⟩ "BaseException.__getattribute__" "BaseException" "__getattribute__" (.ref x) [.str "__class__" t] [] _ (by decide +kernel) (by decide +kernel) sub (PySem.F.args_bexc_ga (.ref x) (.str "__class__" t)) ?_
  unfold Builtin.«object.__getattribute__»
  refine wpAny_bind (wpAny_of_eq (a := ((Value.ref x : Value), [Value.str "__class__" t])) (by first | rfl | (simp only [slotArgs]; rfl)) ?_)
  refine wpAny_bind (wpAny_pure (wpAny_bind (L0.at (wpAny_bind (L3.at ?_)))))
  show wpAny _ _ (holding [Value.builtin "object.__class__"] (call (.builtin "getset_descriptor.__get__") [.builtin "object.__class__", .ref x, .ref D]) >>= ret) _ _ _
  refine wpAny_bind (wpAny_holding (wpAny_call (class_get (s := ⟨hp, g, d, t + 1, os⟩) (ox := ox) (od := none) X I hm ?_)))
  refine wpAny_pure ?_
  show wpAny _ _ (handedOut (.ref D)) _ _ _
  rw [handedOut_of (v := .ref D) rfl]
  first
    | exact wpAny_pure (wpAny_pure h)
    | exact wpAny_pure h
    | exact wpAny_pure (wpAny_bind (wpAny_pure (wpAny_pure h)))
theorem own_dga (d tp : Value) (C : Addr) : descrGetArgs ⟨[d, .ref C, tp], []⟩ = pure (d, some (.ref C), given tp) := by rfl
/-- the getter of C.__name__, an own class -/
theorem own_name_get {R : Result → Shared → Prop} {tp : Value} {C : Addr} {o : Obj} {v : Value} (X : K.In s.heap) (hC : K.lookup C = some o) (ht : typeIn K (.ref C) = some (.type "type")) (hs : o.slots[2]? = some (some v)) (hv : handedOut v = pure v)
    (h : R (.ok (.ret v)) s) : codeAny (model prog w) A (.call (.builtin "getset_descriptor.__get__") ⟨[.builtin "type.__name__", .ref C, tp], []⟩) R s := by
  obtain ⟨hh, g, dr, t, os⟩ := s
  have L0 : Looks (model prog w) hh (typeOf (.ref C)) (.type "type") := looks_typeIn X ht
  have L1 : Looks (model prog w) hh (isSubtype (.type "type") (.type "type")) true := Looks.of_pure (by rw [isSubtype_type]; kernel_rfl)
  refine codeAny_call_builtin KF.slot_gs.plain KF.entry_gs (KF.slot_gs.check _ _ _ _ _ _ _ _ ktyn_type (KF.args_gs _ _ _) ?_)
  unfold Builtin.«getset_descriptor.__get__» descrGet
  rw [own_dga]
  refine wpAny_bind (wpAny_pure ?_)
  unfold descrGetter descrCheckInstance descrNameAndClass isInstance
  simp only [ktyn_owner]
  repeat lk
  refine ⟨Code.quiet_builtin _ (by decide +kernel), codeAny_builtin ktyn_entry ?_⟩
  unfold Builtin.«type.__name__»
  dsimp only
  unfold keptObject slotAt
  dsimp only
  refine wpAny_bind (wpAny_bind (wpAny_loadPart (X _ _ hC) (wpAny_pure ?_)))
  rw [hs]
  exact wpAny_pure h
/-- C.__name__, an own class -/
theorem own_name {expr : Bool} {Q : Value → Shared → Prop} {C : Addr} {o : Obj} {nm : Str} {tk : Tok} (X : K.In s.heap) (hC : K.lookup C = some o) (ht : typeIn K (.ref C) = some (.type "type")) (hs : o.slots[2]? = some (some (.str nm tk)))
    (ho : nsIn K cStatics "thirdparty.any" = some none)
    (e : findCls K (.ref C) (.type "type") "__name__" = some (.get (.builtin "getset_descriptor.__get__") (.builtin "type.__name__") (.ref C) (.type "type")))
    (h : ∀ u, Q (.str nm tk) { s with toks := u }) : wpAny (model prog w) A (getAttr (.ref C) "__name__" expr) Q E s := by
  have hg : findIn K (.type "type") "__getattribute__" = some (some (.builtin "type.__getattribute__")) := type_tga
  refine cls_open X (looks_opaque X ho) (looks_typeIn X ht) hg (looks_hook X (r := none) (by rfl)) (by show subIn K _ _ = _; rfl) e ?_
  show wpAny _ _ (do ret (← holding [Value.builtin "type.__name__"] (call (.builtin "getset_descriptor.__get__") [.builtin "type.__name__", .ref C, .type "type"]))) _ _ _
  refine wpAny_bind (wpAny_holding (wpAny_call (own_name_get (s := { s with toks := s.toks + 1 }) X hC ht hs rfl ?_)))
  exact wpAny_pure (handed_on rfl (h _))
end
end My
namespace My
open PySem PySem.W PySem.Spec PyProof.Rows L2 NdefX ClX
/-! e.__class__.__name__ of an error; super().__init__(..) as the first row of an own error's __init__: to ValueError's, to an own one -/
/-- what the class C of an error says of itself, its name nm among that -/
structure ErrN (K : PySem.W.Frag) (C : Addr) (nm : Str) : Prop where
  ga : findIn K (.ref C) "__getattribute__" = some (some (.builtin "BaseException.__getattribute__"))
  gt : findIn K (.ref C) "__getattr__" = some none
  be : subIn K (.ref C) (.type "BaseException") = some true
  hd : hasDictIn K C = true
  ca : findIn K (.ref C) "__class__" = some (some (.builtin "object.__class__"))
  cn : specialIn K (.builtin "object.__class__") "__get__" = some (some (.builtin "getset_descriptor.__get__"))
  ct : takesIn K (.builtin "object.__class__") = some true
  mo : mroIn K C (.type "object") = some true
  ob : ∃ o tk, K.lookup C = some o ∧ o.slots[2]? = some (some (.str nm tk))
  ty : typeIn K (.ref C) = some (.type "type")
  op : nsIn K cStatics "thirdparty.any" = some none
  fc : findCls K (.ref C) (.type "type") "__name__" = some (.get (.builtin "getset_descriptor.__get__") (.builtin "type.__name__") (.ref C) (.type "type"))
def tClsName (K : PySem.W.Frag) (to : TE) : TE := fun σ H Q => to σ H fun x H1 => ∃ a C nm, x = .ref a ∧ H1 a = some (exo a C none) ∧ ErrN K C nm ∧ Q (.str nm) H1
theorem pe_clsname {X : Cx} {o : Expr} {to : TE} {p1 p2 : Pos} (ho : PE X o to) (hb1 : attributeBase o "__class__" X.env (eval o X.env) = eval o X.env := by rfl)
    (hb2 : attributeBase (.Attribute o "__class__" p1) "__name__" X.env (eval (.Attribute o "__class__" p1) X.env) = eval (.Attribute o "__class__" p1) X.env := by rfl) :
    PE X (.Attribute (.Attribute o "__class__" p1) "__name__" p2) (tClsName X.K to) := by
  refine ⟨fun pins s σ H Q I h => ?_⟩
  refine attr_of hb2 (attr_of hb1 (thn (ho.run pins s σ H _ I h) fun u s1 ⟨x, H1, I1, rx, a, C, nm, ex, ea, N, q⟩ => ?_))
  subst ex
  obtain rfl : u = Value.ref a := rx
  obtain ⟨t1, hx⟩ := exo_at I1.hok ea
  obtain ⟨ob, tk, hC, hs⟩ := N.ob
  refine exc_class N.ga N.gt N.be N.hd N.ca N.cn N.ct N.mo I1.kIn ⟨hx, rfl, rfl, trivial⟩ ?_
  exact own_name (s := { s1 with toks := s1.toks + 1 }) I1.kIn hC N.ty hs N.op N.fc fun u => ⟨.str nm, H1, I1.tok u, ⟨_, rfl⟩, q⟩
theorem lk1 {x y : Str} {c cc : Addr} (h : [(x, cc)].lookup y = some c) : y = x ∧ c = cc := by
  rw [List.lookup_cons] at h
  cases hb : y == x with
  | true =>
    rw [hb] at h
    exact ⟨beq_iff_eq.mp hb, (Option.some.inj h).symm⟩
  | false =>
    rw [hb] at h
    cases h
theorem ps_nodup {N ps fr : List Str} {sc : Scope} (S : NScope N ps fr sc) : ps.Nodup := by
  have h := S.nd.sublist (List.take_sublist (ps.length + fr.length) N)
  rw [S.pre] at h
  exact (List.nodup_append.mp h).1
section
variable {X : Cx} {σ : L2.St} {H : Hp} {s : Shared} {A : Around} {E : Value → Shared → Prop} {a C u : Addr} {pins : List (Addr × Obj)}
/-- the bound ValueError.__init__ called -/
theorem bound_init {us : List Value} {Q : Value → Shared → Prop} (T : OexC X.K C) (I : Inv X pins σ H s) (e : H a = some (exo a C none)) (hu : s.heap.get? u = some (kxs_mw "ValueError.__init__" a)) (hl : us.length ≤ sizeLine) (h : ∀ s', Inv X pins σ H s' → Q .none s') :
    wpAny (model X.prog X.w) A (call (.ref u) us) Q E s := by
  obtain ⟨nm, q, N, bs, bm, sn, sub, ab, col, dd, k0, k1, k2, k3, k5, hC, hbm⟩ := T.cls
  obtain ⟨t1, ho⟩ := exo_at I.hok e
  obtain ⟨hp, g, d, t, os⟩ := s
  refine wpAny_call (codeAny_of_tree ?_)
  show wpAny _ A.in1 (callAny (.ref u) ⟨us, []⟩) _ _ _
  simp only [callAny]
  refine wpAny_bind (wpAny_load hu ?_)
  simp only [kxs_mw, show (Value.type "method-wrapper" == Value.type "method" || Value.type "method-wrapper" == Value.type "builtin_function_or_method" || Value.type "method-wrapper" == Value.type "method-wrapper") = true by decide, if_true]
  refine KFB.if_so (by decide) ?_
  refine wpAny_bind (check_bound_init F.excBase_ValueError.toExcCallFacts (I.kIn _ _ hC) ho rfl ?_)
  refine wpAny_bind (wpAny_pure (wpAny_pure ?_))
  refine ⟨plainId_quiet F.excBase_ValueError.init.plain _, codeAny_builtin F.excBase_ValueError.initEntry ?_⟩
  refine exc_init_tree (cls := .ref C) (t0 := t1) (dv := none) (c2 := .none) (c3 := .none) (b4 := .bool false) ho hl fun h' k hx _ => ?_
  have J := I.write (t' := t) (x := a) (e := a) (o := exo a C none) (by rw [e]; exact True.intro) (.inl rfl) k ⟨_, hx⟩ (exo_ok hx)
  have eu : upd H a (exo a C none) = H := by
    funext b
    by_cases hb : b = a
    · rw [hb, upd_same, e]
    · rw [upd_ne hb]
  rw [eu] at J
  exact h _ J
/-- an own def bound to an object, called -/
theorem run_bound {CX : CXT} {k : Nat} {g q : Addr} {fd : FuncData} {ps : List Str} {sp : Sp} {E : XK} {Q : VK} {us : List Value} {vs : List V} (F : FnOk X.prog X.w X.K X.mg X.base CX k g fd ps sp) (hr : Room k X.A) (hb : Binds X.K fd ps []) (hx : Passes CX X E)
    (I : Inv X ((q, PySem.W.methodObj (.ref g) (.ref a)) :: pins) σ H s) (r : Vals vs us) (h : sp (.ref a :: vs) H Q E) : wpAny (model X.prog X.w) X.A (call (.ref q) us) (EP X pins σ Q) X.xe s := by
  have r2 : Vals (V.ref a :: vs) (Value.ref a :: us) := .cons rfl r
  have hl : (Value.ref a :: us).length = ps.length := by rw [← r2.length]; exact F.len _ _ _ _ h
  have hbd := hb s (Value.ref a :: us) I.kIn (by rw [List.append_nil]; exact hl)
  rw [List.append_nil] at hbd
  have z : wpAny (model X.prog X.w) X.A (call (.ref q) us) (EP X ((q, PySem.W.methodObj (.ref g) (.ref a)) :: pins) σ Q) X.xe s :=
    wpAny_call (PySem.W.method_call (pin_at I) (codeAny_mono (F.run X.A X.stack s H ⟨Value.ref a :: us, []⟩ (Value.ref a :: us) (V.ref a :: vs) Q E hr I.env0 hbd r2 h) fun r s' hq => by
      cases r with
      | error e => exact hx _ σ H s e s' I hq
      | ok fl =>
        cases fl with
        | ret u => exact I.after hq
        | next => exact False.elim hq
        | brk => exact False.elim hq
        | cont => exact False.elim hq))
  exact thn z fun _ _ y => unpinE y
end
/-- what the written part must say of a def and its class D for super() -/
structure SupD (P : Program) (K : PySem.W.Frag) (mg : Str → Option Value) (D cc c : Addr) : Prop where
  code : ∃ ccl cdd vs ccs file tf, K.lookup c = some (⟨ccl, cdd, .fields vs, ccs⟩ : Obj) ∧ vs[2]? = some (.str file tf) ∧ ((P.main.file : Str) == file) = true
  cell : ∃ cl cld csl, K.lookup cc = some (⟨cl, cld, .cell (some (.ref D)), csl⟩ : Obj)
  cls : ∃ cd, clsIn K D = some cd
  sup : mg "super" = none
  opq : nsIn K cStatics "thirdparty.any" = some none
  top : (P.main.scope.names.lookup ("super" : Str)).isSome = false
/-- of the class C of an instance: what stands behind D is v -/
structure SupC (K : PySem.W.Frag) (C D : Addr) (v : Value) : Prop where
  cls : ∃ cd, clsIn K C = some cd
  sub : mroIn K C (.ref D) = some true
  ini : ks_superIn K C D "__init__" = some (some v)
  ve : subIn K (.ref C) (.type "ValueError") = some true
/-- to ValueError's -/
theorem fn_superB {CX : CXT} {P : Program} {w : World} {K : PySem.W.Frag} {mg : Str → Option Value} {base : Heap} {N ps : List Str} {F : NF} {f cc D : Addr} {k : Nat} {sp : Sp} {oc dV kV doc pm ct : Value} {od an : Option Addr} {osl : Array (Option Value)} {ar : Arg} {rest : List Stmt} {e : Expr} {es : List Expr} {p0 p1 p2 p3 p4 : Pos} {pl : Env → Sem Bool}
    (lk : K.lookup f = some ⟨oc, od, .func (fnX F.name F.qual F.params F.body F.scope F.cl dV kV doc pm an (.ref F.c) ct), osl⟩) (hcl : F.cl = [(("__class__" : Str), cc)]) (hcd : codeIn K (.ref F.c) F.qual = true)
    (hbody : F.body = .Expr (.Call (.Attribute (.Call (.Name "super" p0) [] [] p1) "__init__" p2) (e :: es) [] p3) p4 :: rest)
    (S : NScope N ps ["__class__"] F.scope) (hS : F.scope.names.lookup ("super" : Str) = some .globalImplicit) (hp : (F.params.posonlyargs ++ F.params.args).head? = some ar) (h0 : ps[0]? = some ar.arg)
    (U : SupD P K mg D cc F.c) (len : ∀ vs H Q E, sp vs H Q E → vs.length = ps.length)
    (hb : ∀ (A : Around) (outer : List Env) (s : Shared) (H : Hp) (vs : List V) (Q : VK) (E : XK), Room k (A.deeper (envF F f s.heap.objs.size)) → sp vs H Q E →
      ∃ (ta : TA) (t : TS) (a C : Addr), PA (ncx CX P w K mg base N F f A outer s H E) (e :: es) ta ∧ PSs (ncx CX P w K mg base N F f A outer s H E) rest t ∧ vs[0]? = some (.ref a) ∧ H a = some (exo a C none) ∧ OexC K C ∧ SupC K C D (.builtin "ValueError.__init__") ∧
        ta (startF N vs [none]) H fun ws H1 => ws.length ≤ 1000 ∧ H1 a = some (exo a C none) ∧ t { nx := fun _ H' => Q .non H', rt := Q } (startF N vs [none]) H1)
    (he : ∀ env : Env, starEach (e :: es) env = (false, eval e env) :: starEach es env := by intro env; rfl) (hpl : ∀ env : Env, (backTo p3 (starEach es env)).any (·.1) = false := by intro env; rfl)
    (hsw : ∀ env : Env, swapsWith (.Call (.Attribute (.Call (.Name "super" p0) [] [] p1) "__init__" p2) (e :: es) [] p3) none p4.line env = pure false := by intro env; rfl)
    (hmc : ∀ env : Env, eval (.Call (.Attribute (.Call (.Name "super" p0) [] [] p1) "__init__" p2) (e :: es) [] p3) env = (do
      let ov ← attributeBase (.Call (.Name "super" p0) [] [] p1) "__init__" env (eval (.Call (.Name "super" p0) [] [] p1) env)
      standAt p2.atName
      let (f, first) ← holding [ov] (getMethod ov "__init__" (pl env))
      callWith p3 f first (backTo p3 (starEach (e :: es) env)) []) := by intro env; rfl) :
    FnOk P w K mg base CX (k + 1) f (fnX F.name F.qual F.params F.body F.scope F.cl dV kV doc pm an (.ref F.c) ct) ps sp := by
  refine ⟨len, fun A outer s H args us vs Q E hr e0 hbd r hsp => ?_⟩
  obtain ⟨hh, gg, gd, gt, gos⟩ := s
  have KX : K.In hh := e0.mod.kin.keeps fun b o e => (e0.bs b o e).1
  have hl := len _ _ _ _ hsp
  have lim : hh.NoLimit := e0.mod.nolimit.keeps fun b o e => (e0.bs b o e).1
  obtain ⟨cl, cld, csl, hcell⟩ := U.cell
  obtain ⟨cdD, hcD⟩ := U.cls
  obtain ⟨ccl, cdd, cvs, ccs, file, tf, hcode, hvs, hfile⟩ := U.code
  have hccn : H cc = none := (e0.bs _ _ (e0.mod.kin _ _ hcell)).2
  have C0 : CellsAt F.cl ["__class__"] [none] hh H := by
    rw [hcl]
    refine ⟨rfl, fun y c hy => ?_, fun x y c hx hy => (lk1 hx).1.trans (lk1 hy).1.symm, fun i y hy => ?_⟩
    · rw [(lk1 hy).2]
      exact ⟨hccn, _, _, KX _ _ hcell, rfl⟩
    · have hi : i = 0 := by
        rcases i with _ | i
        · rfl
        · simp at hy
      subst hi
      obtain rfl : ("__class__" : Str) = y := Option.some.inj hy
      exact ⟨cc, by simp, fun v hv => by simp at hv⟩
  refine ks_codeAny_call_defAt (binds := ps.zip us) hr.depth (KX _ _ lk) rfl lim (codeRec_of KX hcd) rfl hbd S.nocell (fun ⟨n, _⟩ hy => S.par n (List.of_mem_zip hy).1) (fun h₁ hns kp => ?_) S.co S.gen S.kind
  obtain ⟨ta, t, a, C, ha, ht, hv0, hHa, T, UC, hq⟩ := hb A outer ⟨hh, gg, gd, gt, gos⟩ H vs Q E (hr.deeper _) hsp
  obtain ⟨cdC, hcC⟩ := UC.cls
  have I : Inv (ncx CX P w K mg base N F f A outer ⟨hh, gg, gd, gt, gos⟩ H E) [] (startF N vs [none]) H ⟨h₁, gg, gd, gt + (ps.zip us).length, gos⟩ := inv_startN S hr.hd e0 hl r C0 hns kp
  have hkc : F.scope.names.lookup ("__class__" : Str) = some .free := S.frk _ (by simp)
  have X1 : K.In h₁ := KX.keeps kp
  have hself : (ps.zip us).reverse.lookup ar.arg = some (.ref a) := by
    cases r with
    | nil => cases hv0
    | @cons v0 u0 vr ur ra rr =>
      obtain rfl : v0 = V.ref a := Option.some.inj hv0
      obtain rfl : u0 = Value.ref a := ra
      exact zip_look (i := 0) (ps_nodup S) h0 rfl
  have goal1 : _root_.PySem.wpAt (model P w) (A.deeper (envF F f hh.objs.size)) (.func F.body (envF F f hh.objs.size)) (execs F.body (envF F f hh.objs.size)) (fun fl s' => CR CX outer P w H ⟨hh, gg, gd, gt, gos⟩ Q E (.ok (.ret (match fl with | .ret v => v | _ => .none))) s')
      (ncx CX P w K mg base N F f A outer ⟨hh, gg, gd, gt, gos⟩ H E).xe ⟨h₁, gg, gd, gt + (ps.zip us).length, gos⟩ := by
    rw [show execs F.body (envF F f hh.objs.size) = execs (.Expr (.Call (.Attribute (.Call (.Name "super" p0) [] [] p1) "__init__" p2) (e :: es) [] p3) p4 :: rest) (envF F f hh.objs.size) from by rw [hbody]]
    refine ks_wpAt_execs_cons (ks_wpAt_Expr_any (ks_wpAt_MethodCall ?_ (hmc _)) I.quiet (hsw _))
    refine ks_wpAt_super_base hS hkc rfl rfl (kp _ _ (KX _ _ lk)) rfl hp rfl (kp _ _ (KX _ _ hcode)) rfl hvs hfile U.top ?_
    obtain ⟨mb, hb1, hb2⟩ := I.mod.blt
    refine ks_loadName_global S.kind hS (Calls.loadGlobal_builtin (show h₁.Ns mainGlobals mg from I.mod.glob.keeps I.bk) U.sup (show h₁.Ns builtinsNs mb from hb1.keeps I.bk) ((hb2 _ (by decide)).trans (show bootBuiltins "super" = some (.type "super") by decide +kernel)) ⟨rfl, ?_⟩)
    refine wpAny_loadName_free S.kind hkc (by show F.cl.lookup _ = _; rw [hcl]; rfl) ⟨_, kp _ _ (KX _ _ hcell), rfl⟩ ?_
    refine wpAny_loadName_local S.kind (S.par _ (List.mem_of_getElem? h0)) hns hself ?_
    obtain ⟨oD, hD1, hD2⟩ : ∃ oD, h₁.get? D = some oD ∧ oD.data = .cls cdD := by
      have hcD' := hcD
      unfold clsIn at hcD'
      split at hcD'
      · rename_i c d cd' sl ho
        cases hcD'
        exact ⟨_, X1 _ _ ho, rfl⟩
      · cases hcD'
    obtain ⟨t1, hx⟩ := exo_at I.hok hHa
    refine ks_wpAny_isType_cls hD1 hD2 ⟨rfl, ?_⟩
    refine ks_wpAny_call_super hD1 hD2 hx rfl (fun c z => by cases z) (looks_mroIn X1 UC.sub) (fun h2 e2 k2 => ?_)
    have I2 : Inv (ncx CX P w K mg base N F f A outer ⟨hh, gg, gd, gt, gos⟩ H E) [] (startF N vs [none]) H ⟨h2, gg, gd, gt + (ps.zip us).length, gos⟩ := I.kept k2
    have hm := UC.ini
    unfold ks_superIn at hm
    rw [hcC] at hm
    have inst : InstAt h2 a { cls := .ref C, dict := none, data := .fields #[.ref t1, .none, .none, .none, .bool false, .none] } C none := ⟨k2 _ _ hx, rfl, rfl, trivial⟩
    refine kxs_getMethod kxs_ValueError e2 (looks_opaque I2.kIn U.opq) (l₀ := cdC.mro) (fun A Q E s k q => wpAny_bind ((looks_clsIn I2.kIn hcC) A _ E s k (wpAny_pure q))) rfl I2.kIn hm (inst.type.andThen (looks_subIn I2.kIn UC.ve)) (ks_ne I2.kIn inst hcC) rfl ?_
    have I3 : Inv (ncx CX P w K mg base N F f A outer ⟨hh, gg, gd, gt, gos⟩ H E) [] (startF N vs [none]) H ⟨h2.push (kxs_mw "ValueError.__init__" a), gg, gd, gt + (ps.zip us).length + 1, gos⟩ := I2.kept (t' := gt + (ps.zip us).length + 1) fun b o e => Heap.get?_push_of_some _ e
    have I4 : Inv (ncx CX P w K mg base N F f A outer ⟨hh, gg, gd, gt, gos⟩ H E) [(h2.objs.size, kxs_mw "ValueError.__init__" a)] (startF N vs [none]) H ⟨h2.push (kxs_mw "ValueError.__init__" a), gg, gd, gt + (ps.zip us).length + 1, gos⟩ :=
      I3.pins_of fun p hp => by
        obtain rfl : p = (h2.objs.size, kxs_mw "ValueError.__init__" a) := by simpa [ncx] using hp
        exact ⟨Heap.get?_push_at rfl rfl, I2.hok.fresh (Nat.le_refl _), fun z => absurd I2.lt (by rw [← z]; exact Nat.lt_irrefl _), I2.nofs (Nat.le_refl _), fun v z => by cases z⟩
    show wpAny _ _ (callWith p3 (Value.ref h2.objs.size) [] (backTo p3 (starEach (e :: es) (envF F f hh.objs.size))) []) _ _ _
    rw [he]
    refine kxs_callWith (i := "ValueError.__init__") (x := a) (by show (false || (backTo p3 (starEach es (envF F f hh.objs.size))).any (·.1)) = false; rw [hpl]; rfl) (Calls.evalArgs_plain ?_)
    have hrun := ha.run p3 _ _ _ H _ I4 hq
    rw [show (ncx CX P w K mg base N F f A outer ⟨hh, gg, gd, gt, gos⟩ H E).env = envF F f hh.objs.size from rfl, he] at hrun
    refine thn hrun fun us5 s5 ⟨ws, H5, I5, r5, hl5, ha5, q5⟩ => ?_
    have hw : s5.heap.get? h2.objs.size = some (kxs_mw "ValueError.__init__" a) := (I5.pin (h2.objs.size, kxs_mw "ValueError.__init__" a) (List.mem_append_right _ (List.mem_singleton.mpr rfl))).1
    refine ⟨hw, ?_⟩
    refine bound_init (X := ncx CX P w K mg base N F f A outer ⟨hh, gg, gd, gt, gos⟩ H E) T I5 ha5 hw ?_ fun s6 I6 => ?_
    · show us5.length ≤ sizeLine
      rw [← Paired.length r5, sizeLine_eq]
      omega
    have I7 : Inv (ncx CX P w K mg base N F f A outer ⟨hh, gg, gd, gt, gos⟩ H E) [] (startF N vs [none]) H5 s6 := I6.pins_of fun p hp => absurd hp (by simp [ncx])
    refine wpAt_of_wpAny (wpAny_mono (ht.run [] s6 (startF N vs [none]) H5 _ I7 q5) (fun fl s' hs => ?_) fun e s' hs => hs)
    have fin : ∀ {σ' : L2.St} {H' : Hp} {v : V} {u : Value}, Inv (ncx CX P w K mg base N F f A outer ⟨hh, gg, gd, gt, gos⟩ H E) [] σ' H' s' → L2.RelV v u → Q v H' → CE outer P w H ⟨hh, gg, gd, gt, gos⟩ Q u s' :=
      fun {σ' H' v u} J rv q => ⟨v, H', J.os, J.bare, J.base, J.hok, rv, q⟩
    cases fl with
    | ret u =>
      obtain ⟨v, σ', H', J, rv, q⟩ := hs
      exact fin J rv q
    | next =>
      obtain ⟨σ', H', J, q⟩ := hs
      exact fin (v := V.non) (u := Value.none) J rfl q
    | brk =>
      obtain ⟨_, _, _, q⟩ := hs
      exact False.elim q
    | cont =>
      obtain ⟨_, _, _, q⟩ := hs
      exact False.elim q
  exact goal1
/-- to an own def at g -/
theorem fn_superF {CX : CXT} {P : Program} {w : World} {K : PySem.W.Frag} {mg : Str → Option Value} {base : Heap} {N ps : List Str} {F : NF} {f cc D g : Addr} {k j : Nat} {sp spg : Sp} {fdg : FuncData} {psg : List Str} {oc dV kV doc pm ct : Value} {od an : Option Addr} {osl : Array (Option Value)} {ar : Arg} {rest : List Stmt} {e : Expr} {es : List Expr} {p0 p1 p2 p3 p4 : Pos} {pl : Env → Sem Bool}
    (lk : K.lookup f = some ⟨oc, od, .func (fnX F.name F.qual F.params F.body F.scope F.cl dV kV doc pm an (.ref F.c) ct), osl⟩) (hcl : F.cl = [(("__class__" : Str), cc)]) (hcd : codeIn K (.ref F.c) F.qual = true)
    (hbody : F.body = .Expr (.Call (.Attribute (.Call (.Name "super" p0) [] [] p1) "__init__" p2) (e :: es) [] p3) p4 :: rest)
    (S : NScope N ps ["__class__"] F.scope) (hS : F.scope.names.lookup ("super" : Str) = some .globalImplicit) (hp : (F.params.posonlyargs ++ F.params.args).head? = some ar) (h0 : ps[0]? = some ar.arg)
    (U : SupD P K mg D cc F.c) (len : ∀ vs H Q E, sp vs H Q E → vs.length = ps.length)
    (G : FnOk P w K mg base CX0 j g fdg psg spg) (bg : Binds K fdg psg []) (tyg : typeIn K (.ref g) = some (.type "function")) (fng : fnIn K g = true) (jk : j ≤ k)
    (hb : ∀ (A : Around) (outer : List Env) (s : Shared) (H : Hp) (vs : List V) (Q : VK) (E : XK), Room k (A.deeper (envF F f s.heap.objs.size)) → sp vs H Q E →
      ∃ (ta : TA) (t : TS) (a C : Addr), PA (ncx CX P w K mg base N F f A outer s H E) (e :: es) ta ∧ PSs (ncx CX P w K mg base N F f A outer s H E) rest t ∧ vs[0]? = some (.ref a) ∧ H a = some (exo a C none) ∧ SupC K C D (.ref g) ∧
        ta (startF N vs [none]) H fun ws H1 => spg (.ref a :: ws) H1 (fun v H2 => t { nx := fun _ H' => Q .non H', rt := Q } (startF N vs [none]) H2) E0)
    (he : ∀ env : Env, starEach (e :: es) env = (false, eval e env) :: starEach es env := by intro env; rfl) (hpl : ∀ env : Env, (backTo p3 (starEach es env)).any (·.1) = false := by intro env; rfl)
    (hsw : ∀ env : Env, swapsWith (.Call (.Attribute (.Call (.Name "super" p0) [] [] p1) "__init__" p2) (e :: es) [] p3) none p4.line env = pure false := by intro env; rfl)
    (hmc : ∀ env : Env, eval (.Call (.Attribute (.Call (.Name "super" p0) [] [] p1) "__init__" p2) (e :: es) [] p3) env = (do
      let ov ← attributeBase (.Call (.Name "super" p0) [] [] p1) "__init__" env (eval (.Call (.Name "super" p0) [] [] p1) env)
      standAt p2.atName
      let (f, first) ← holding [ov] (getMethod ov "__init__" (pl env))
      callWith p3 f first (backTo p3 (starEach (e :: es) env)) []) := by intro env; rfl) :
    FnOk P w K mg base CX (k + 1) f (fnX F.name F.qual F.params F.body F.scope F.cl dV kV doc pm an (.ref F.c) ct) ps sp := by
  refine ⟨len, fun A outer s H args us vs Q E hr e0 hbd r hsp => ?_⟩
  obtain ⟨hh, gg, gd, gt, gos⟩ := s
  have KX : K.In hh := e0.mod.kin.keeps fun b o e => (e0.bs b o e).1
  have hl := len _ _ _ _ hsp
  have lim : hh.NoLimit := e0.mod.nolimit.keeps fun b o e => (e0.bs b o e).1
  obtain ⟨cl, cld, csl, hcell⟩ := U.cell
  obtain ⟨cdD, hcD⟩ := U.cls
  obtain ⟨ccl, cdd, cvs, ccs, file, tf, hcode, hvs, hfile⟩ := U.code
  have hccn : H cc = none := (e0.bs _ _ (e0.mod.kin _ _ hcell)).2
  have C0 : CellsAt F.cl ["__class__"] [none] hh H := by
    rw [hcl]
    refine ⟨rfl, fun y c hy => ?_, fun x y c hx hy => (lk1 hx).1.trans (lk1 hy).1.symm, fun i y hy => ?_⟩
    · rw [(lk1 hy).2]
      exact ⟨hccn, _, _, KX _ _ hcell, rfl⟩
    · have hi : i = 0 := by
        rcases i with _ | i
        · rfl
        · simp at hy
      subst hi
      obtain rfl : ("__class__" : Str) = y := Option.some.inj hy
      exact ⟨cc, by simp, fun v hv => by simp at hv⟩
  refine ks_codeAny_call_defAt (binds := ps.zip us) hr.depth (KX _ _ lk) rfl lim (codeRec_of KX hcd) rfl hbd S.nocell (fun ⟨n, _⟩ hy => S.par n (List.of_mem_zip hy).1) (fun h₁ hns kp => ?_) S.co S.gen S.kind
  obtain ⟨ta, t, a, C, ha, ht, hv0, hHa, UC, hq⟩ := hb A outer ⟨hh, gg, gd, gt, gos⟩ H vs Q E (hr.deeper _) hsp
  obtain ⟨cdC, hcC⟩ := UC.cls
  have I : Inv (ncx CX P w K mg base N F f A outer ⟨hh, gg, gd, gt, gos⟩ H E) [] (startF N vs [none]) H ⟨h₁, gg, gd, gt + (ps.zip us).length, gos⟩ := inv_startN S hr.hd e0 hl r C0 hns kp
  have hkc : F.scope.names.lookup ("__class__" : Str) = some .free := S.frk _ (by simp)
  have X1 : K.In h₁ := KX.keeps kp
  have hself : (ps.zip us).reverse.lookup ar.arg = some (.ref a) := by
    cases r with
    | nil => cases hv0
    | @cons v0 u0 vr ur ra rr =>
      obtain rfl : v0 = V.ref a := Option.some.inj hv0
      obtain rfl : u0 = Value.ref a := ra
      exact zip_look (i := 0) (ps_nodup S) h0 rfl
  have goal1 : _root_.PySem.wpAt (model P w) (A.deeper (envF F f hh.objs.size)) (.func F.body (envF F f hh.objs.size)) (execs F.body (envF F f hh.objs.size)) (fun fl s' => CR CX outer P w H ⟨hh, gg, gd, gt, gos⟩ Q E (.ok (.ret (match fl with | .ret v => v | _ => .none))) s')
      (ncx CX P w K mg base N F f A outer ⟨hh, gg, gd, gt, gos⟩ H E).xe ⟨h₁, gg, gd, gt + (ps.zip us).length, gos⟩ := by
    rw [show execs F.body (envF F f hh.objs.size) = execs (.Expr (.Call (.Attribute (.Call (.Name "super" p0) [] [] p1) "__init__" p2) (e :: es) [] p3) p4 :: rest) (envF F f hh.objs.size) from by rw [hbody]]
    refine ks_wpAt_execs_cons (ks_wpAt_Expr_any (ks_wpAt_MethodCall ?_ (hmc _)) I.quiet (hsw _))
    refine ks_wpAt_super_base hS hkc rfl rfl (kp _ _ (KX _ _ lk)) rfl hp rfl (kp _ _ (KX _ _ hcode)) rfl hvs hfile U.top ?_
    obtain ⟨mb, hb1, hb2⟩ := I.mod.blt
    refine ks_loadName_global S.kind hS (Calls.loadGlobal_builtin (show h₁.Ns mainGlobals mg from I.mod.glob.keeps I.bk) U.sup (show h₁.Ns builtinsNs mb from hb1.keeps I.bk) ((hb2 _ (by decide)).trans (show bootBuiltins "super" = some (.type "super") by decide +kernel)) ⟨rfl, ?_⟩)
    refine wpAny_loadName_free S.kind hkc (by show F.cl.lookup _ = _; rw [hcl]; rfl) ⟨_, kp _ _ (KX _ _ hcell), rfl⟩ ?_
    refine wpAny_loadName_local S.kind (S.par _ (List.mem_of_getElem? h0)) hns hself ?_
    obtain ⟨oD, hD1, hD2⟩ : ∃ oD, h₁.get? D = some oD ∧ oD.data = .cls cdD := by
      have hcD' := hcD
      unfold clsIn at hcD'
      split at hcD'
      · rename_i c d cd' sl ho
        cases hcD'
        exact ⟨_, X1 _ _ ho, rfl⟩
      · cases hcD'
    obtain ⟨t1, hx⟩ := exo_at I.hok hHa
    refine ks_wpAny_isType_cls hD1 hD2 ⟨rfl, ?_⟩
    refine ks_wpAny_call_super hD1 hD2 hx rfl (fun c z => by cases z) (looks_mroIn X1 UC.sub) (fun h2 e2 k2 => ?_)
    have I2 : Inv (ncx CX P w K mg base N F f A outer ⟨hh, gg, gd, gt, gos⟩ H E) [] (startF N vs [none]) H ⟨h2, gg, gd, gt + (ps.zip us).length, gos⟩ := I.kept k2
    have hm := UC.ini
    unfold ks_superIn at hm
    rw [hcC] at hm
    have inst : InstAt h2 a { cls := .ref C, dict := none, data := .fields #[.ref t1, .none, .none, .none, .bool false, .none] } C none := ⟨k2 _ _ hx, rfl, rfl, trivial⟩
    obtain ⟨og, hog, hogc⟩ : ∃ og, h2.get? g = some og ∧ og.cls = .type "function" := by
      have ht' : (K.lookup g).map (·.cls) = some (.type "function") := tyg
      cases z : K.lookup g with
      | none => rw [z] at ht'; cases ht'
      | some og => rw [z] at ht'; exact ⟨og, I2.kIn _ _ z, Option.some.inj ht'⟩
    refine ks_wpAny_getMethod_super e2 (looks_opaque I2.kIn U.opq) (l₀ := cdC.mro) (fun A Q E s k q => wpAny_bind ((looks_clsIn I2.kIn hcC) A _ E s k (wpAny_pure q))) rfl I2.kIn hm hog hogc (ks_ne I2.kIn inst hcC) rfl ?_
    have I4 := met_new (g := g) (C := a) I2
    show wpAny _ _ (callWith p3 (Value.ref h2.objs.size) [] (backTo p3 (starEach (e :: es) (envF F f hh.objs.size))) []) _ _ _
    have hbase := base_none I2 (Nat.le_refl _)
    refine callwith_cm I4 hbase fng ?_ (he _) (hpl _)
    have hrun := ha.run p3 _ _ _ H _ I4 hq
    refine thn hrun fun us5 s5 ⟨ws, H5, I5, r5, q5⟩ => ?_
    refine ⟨⟨pin_at I5, I5.kIn⟩, ?_⟩
    refine wpAny_mono (run_bound (X := ncx CX P w K mg base N F f A outer ⟨hh, gg, gd, gt, gos⟩ H E) G ((hr.deeper _).mono jk) bg pass0 I5 r5 q5) (fun v6 s6 hs6 => ?_) fun e s' hs => hs
    obtain ⟨v, H6, I6, _, q6⟩ := hs6
    refine wpAt_of_wpAny (wpAny_mono (ht.run [] s6 (startF N vs [none]) H6 _ I6 q6) (fun fl s' hs => ?_) fun e s' hs => hs)
    have fin : ∀ {σ' : L2.St} {H' : Hp} {v : V} {u : Value}, Inv (ncx CX P w K mg base N F f A outer ⟨hh, gg, gd, gt, gos⟩ H E) [] σ' H' s' → L2.RelV v u → Q v H' → CE outer P w H ⟨hh, gg, gd, gt, gos⟩ Q u s' :=
      fun {σ' H' v u} J rv q => ⟨v, H', J.os, J.bare, J.base, J.hok, rv, q⟩
    cases fl with
    | ret u =>
      obtain ⟨v, σ', H', J, rv, q⟩ := hs
      exact fin J rv q
    | next =>
      obtain ⟨σ', H', J, q⟩ := hs
      exact fin (v := V.non) (u := Value.none) J rfl q
    | brk =>
      obtain ⟨_, _, _, q⟩ := hs
      exact False.elim q
    | cont =>
      obtain ⟨_, _, _, q⟩ := hs
      exact False.elim q
  exact goal1
end My
namespace My
open PySem L2 NdefX
/-! StillError: its __init__ -/
abbrev s_StillError___init__ : Stmt := (inClass (top 1)).getD 0 (.Pass ⟨0, 0, 0, 0⟩)
theorem nsc_StillError : NScope ["self", "message", "__class__"] ["self", "message"] ["__class__"] (defScope s_StillError___init__) := nscope_by (by decide +kernel)
def nfStill (cc c : Addr) : NF := ⟨"__init__", "StillError.__init__", defArgs s_StillError___init__, defBody s_StillError___init__, defScope s_StillError___init__, [("__class__", cc)], c⟩
/-- what the written part says of StillError at D, of its __init__ at f -/
structure StillC (P : Program) (K : PySem.W.Frag) (mg : Str → Option Value) (D f cc c : Addr) (fd : FuncData) : Prop where
  fn : ∃ (oc kV doc pm ct : Value) (od an : Option Addr) (osl : Array (Option Value)) (T : Addr), fd = PySem.W.fnX "__init__" "StillError.__init__" (defArgs s_StillError___init__) (defBody s_StillError___init__) (defScope s_StillError___init__) [("__class__", cc)] (.ref T) kV doc pm an (.ref c) ct ∧
    K.lookup f = some ⟨oc, od, .func fd, osl⟩ ∧ ∃ (o : Obj) (u : Value) (n : Nat), K.lookup T = some o ∧ o.data = .seq #[u] n
  cd : PySem.W.codeIn K (.ref c) "StillError.__init__" = true
  sup : SupD P K mg D cc c
  ty : PySem.W.typeIn K (.ref f) = some (.type "function")
  fnf : PySem.W.fnIn K f = true
/-- of an error's class C, called nm -/
structure ErrC (K : PySem.W.Frag) (C D0 : Addr) (nm : Str) : Prop where
  ox : OexC K C
  en : ErrN K C nm
  sB : SupC K C D0 (.builtin "ValueError.__init__")
  ncn : PySem.W.findIn K (.ref C) "class_name" = some none
def spStill (K : PySem.W.Frag) (D0 : Addr) : Sp := fun vs H Q _ => ∃ (a C : Addr) (nm m : Str), vs = [.ref a, .str m] ∧ m.length ≤ 200000 ∧ H a = some (exo a C none) ∧ ErrC K C D0 nm ∧
  ∀ dx, H dx = none → dx ≠ a → Q .non (upd (upd H dx (exd dx [("class_name", .str nm)])) a (exo a C (some dx)))
section
variable {P : Program} {w : World} {K : PySem.W.Frag} {mg : Str → Option Value} {base : Heap} {D f cc c : Addr} {fd : FuncData}
theorem ok_still (N : StillC P K mg D f cc c fd) : FnOk P w K mg base CX0 2 f fd ["self", "message"] (spStill K D) := by
  obtain ⟨oc, kV, doc, pm, ct, od, an, osl, T, rfl, lk, _⟩ := N.fn
  refine fn_superB (F := nfStill cc c) (cc := cc) (D := D) (k := 1) lk rfl N.cd rfl nsc_StillError (by rfl) rfl rfl N.sup (fun vs H Q E h => ?_) (fun A outer s H vs Q E hr h => ?_)
  · obtain ⟨a, C, nm, m, rfl, _⟩ := h
    rfl
  obtain ⟨a, C, nm, m, rfl, lm, ha, e, q⟩ := h
  refine ⟨_, _, a, C, pa_cons (pe_joined1 (pe_fmt (pv 1))) pa_nil, pss_one (ps_ost (pv 0) (pe_clsname (pv 0))), rfl, ha, e.ox, e.sB, ?_⟩
  refine ⟨_, rfl, .inl ⟨m, rfl, by rw [sizeLine_eq]; omega, ?_⟩⟩
  refine ⟨?_, ha, ?_⟩
  · show 1 ≤ 1000
    decide
  refine ⟨_, rfl, a, C, nm, rfl, ha, e.en, _, rfl, a, C, rfl, e.ox, e.ncn, .inl ⟨ha, fun dx n ne => q dx n ne⟩⟩
theorem binds_still (N : StillC P K mg D f cc c fd) : Binds K fd ["self", "message"] [] := by
  obtain ⟨oc, kV, doc, pm, ct, od, an, osl, T, rfl, lk, o, u, n, lT, oT⟩ := N.fn
  intro s us X hl
  match us, hl with
  | [a, b], _ =>
    refine BindsTo.of_looks fun M => ?_
    have e : ∃ k, bindArgs (PySem.W.fnX "__init__" "StillError.__init__" (defArgs s_StillError___init__) (defBody s_StillError___init__) (defScope s_StillError___init__) [("__class__", cc)] (.ref T) kV doc pm an (.ref c) ct) ⟨[a, b], []⟩ = seqItems? (.ref T) >>= k ∧ k (some #[u]) = (pure [(("self" : Str), a), (("message" : Str), b)] : Sem (List (Str × Value))) := by
      refine ⟨_, rfl, ?_⟩
      first
        | rfl
        | (simp only [Option.getD]; rfl)
        | kernel_rfl
        | (with_unfolding_all rfl)
    obtain ⟨k, e1, e2⟩ := e
    show PySem.W.Looks M _ (bindArgs _ ⟨[a, b], []⟩) _
    rw [e1]
    exact looks_items X lT oT (.of_pure e2)
end
end My
namespace My
open PySem L2 NdefX
/-! NoText: its __init__, and raising it -/
abbrev s_NoText___init__ : Stmt := (inClass (top 7)).getD 0 (.Pass ⟨0, 0, 0, 0⟩)
theorem nsc_NoText : NScope ["self", "what", "__class__"] ["self", "what"] ["__class__"] (defScope s_NoText___init__) := nscope_by (by decide +kernel)
def nfNoText (cc c : Addr) : NF := ⟨"__init__", "NoText.__init__", defArgs s_NoText___init__, defBody s_NoText___init__, defScope s_NoText___init__, [("__class__", cc)], c⟩
/-- what the written part says of the class NoText at D, of its __init__ at fI; of StillError's at f0 -/
structure NoTextC (P : Program) (K : PySem.W.Frag) (mg : Str → Option Value) (D fI cc c : Addr) (fd : FuncData) (D0 f0 c0 e0 : Addr) (fd0 : FuncData) : Prop where
  fn : ∃ (oc kV doc pm ct : Value) (od an : Option Addr) (osl : Array (Option Value)), fd = PySem.W.fnX "__init__" "NoText.__init__" (defArgs s_NoText___init__) (defBody s_NoText___init__) (defScope s_NoText___init__) [("__class__", cc)] .none kV doc pm an (.ref c) ct ∧
    K.lookup fI = some ⟨oc, od, .func fd, osl⟩
  cd : PySem.W.codeIn K (.ref c) "NoText.__init__" = true
  sup : SupD P K mg D cc c
  still : StillC P K mg D0 f0 c0 e0 fd0
  sF : SupC K D D (.ref f0)
  err : ErrC K D D0 "NoText"
  ini : PySem.W.findIn K (.ref D) "__init__" = some (some (.ref fI))
  ty : PySem.W.typeIn K (.ref fI) = some (.type "function")
  nwhat : PySem.W.findIn K (.ref D) "what" = some none
  m : mg "NoText" = some (.ref D)
/-- such an error's dict -/
abbrev xdNoText (x : Str) : HO := .xd [("what", .str x), ("class_name", .str "NoText")]
def spNoText (D : Addr) : Sp := fun vs H Q _ => ∃ (a : Addr) (x : Str), vs = [.ref a, .str x] ∧ x.length ≤ 100000 ∧ H a = some (exo a D none) ∧ ∀ dx H2, H dx = none → dx ≠ a → H2 a = some (exo a D (some dx)) → H2 dx = some (exd dx [("what", .str x), ("class_name", .str "NoText")]) → (∀ b o, b ≠ a → H b = some o → H2 b = some o) → Q .non H2
section
variable {P : Program} {w : World} {K : PySem.W.Frag} {mg : Str → Option Value} {base : Heap} {D fI cc c D0 f0 c0 e0 : Addr} {fd fd0 : FuncData}
theorem ok_NoText (N : NoTextC P K mg D fI cc c fd D0 f0 c0 e0 fd0) : FnOk P w K mg base CX0 3 fI fd ["self", "what"] (spNoText D) := by
  obtain ⟨oc, kV, doc, pm, ct, od, an, osl, rfl, lk⟩ := N.fn
  refine fn_superF (F := nfNoText cc c) (cc := cc) (D := D) (k := 2) lk rfl N.cd rfl nsc_NoText (by rfl) rfl rfl N.sup (fun vs H Q E h => ?_) (ok_still (w := w) (base := base) N.still) (binds_still N.still) N.still.ty N.still.fnf (by decide) (fun A outer s H vs Q E hr h => ?_)
  · obtain ⟨a, x, rfl, _⟩ := h
    rfl
  obtain ⟨a, x, rfl, lx, ha, q⟩ := h
  refine ⟨_, _, a, D, pa_cons (pe_joined (.cons pe_str (.cons (pe_fmt (pv 1)) .nil))) pa_nil, pss_one (ps_ost (pv 0) (pv 1)), rfl, ha, N.sF, ?_⟩
  have lp : (Str.empty ++ ("no text: " : Str)).length ≤ 100 := by decide +kernel
  have l2 : (Str.empty ++ ("no text: " : Str) ++ x).length ≤ 200000 := by rw [PySem.Str.length_append]; omega
  refine ⟨_, rfl, ?_, _, rfl, .inl ⟨x, rfl, ?_, _, rfl, ?_, ?_⟩⟩
  · rw [sizeLine_eq]
    omega
  · rw [sizeLine_eq]
    omega
  · rw [sizeLine_eq]
    omega
  refine ⟨a, D, "NoText", _, rfl, l2, ha, N.err, fun dx ndx ne => ?_⟩
  have e1 : (upd (upd H dx (exd dx [("class_name", .str "NoText")])) a (exo a D (some dx))) a = some (exo a D (some dx)) := upd_same
  have e2 : (upd (upd H dx (exd dx [("class_name", .str "NoText")])) a (exo a D (some dx))) dx = some (exd dx [("class_name", .str "NoText")]) := by rw [upd_ne ne, upd_same]
  refine ⟨_, rfl, _, rfl, a, D, rfl, N.err.ox, N.nwhat, .inr ⟨dx, _, e1, e2, (by show 1 ≤ 900; decide), ?_⟩⟩
  refine q dx _ ndx ne (by rw [upd_ne ne.symm]; exact e1) upd_same fun b o nb hb => ?_
  have n1 : b ≠ dx := ne_of_none hb ndx
  rw [upd_ne n1, upd_ne nb, upd_ne n1]
  exact hb
theorem binds_NoText (N : NoTextC P K mg D fI cc c fd D0 f0 c0 e0 fd0) : Binds K fd ["self", "what"] [] := by
  obtain ⟨oc, kV, doc, pm, ct, od, an, osl, rfl, lk⟩ := N.fn
  exact .all fun us hl => match us, hl with | [a, b], _ => rfl
/-- what NoText(x) must keep -/
theorem mk_NoText {H : Hp} {x : Str} {Q : XK} (lx : x.length ≤ 100000) (q : ∀ d H', Same H H' → H d = none → H' d = some (xdNoText x) → Q (.ref D) (some d) H') : ([V.str x] : List V).length ≤ 1000 ∧ ∀ a, H a = none → spNoText D (.ref a :: ([V.str x] ++ [])) (upd H a (exo a D none))
    (fun v H2 => v = .non ∧ ∃ (d : Addr) (fs : List (Str × V)), H2 a = some (exo a D (some d)) ∧ H2 d = some (exd d fs) ∧ H d = none ∧ Q (.ref D) (some d) (upd (del H2 a) d (.xd fs))) (fun _ _ _ => False) := by
  refine ⟨by show 1 ≤ 1000; decide, fun a na => ⟨a, x, rfl, lx, upd_same, fun dx H2 ndx ne h1 h2 hk => ?_⟩⟩
  rw [upd_ne ne] at ndx
  refine ⟨rfl, dx, _, h1, h2, ndx, q dx _ (fun b o hb => ?_) ndx upd_same⟩
  have n1 : b ≠ dx := ne_of_none hb ndx
  have n2 : b ≠ a := ne_of_none hb na
  rw [upd_ne n1, del_ne n2]
  exact hk b o n2 (by rw [upd_ne n2]; exact hb)
end
section
variable {X : Cx} {D fI cc c D0 f0 c0 e0 : Addr} {fd fd0 : FuncData} {e : Expr} {es : List Expr} {ta : TA} {W : WX} {p pos pos' : Pos}
theorem ps_NoText (N : NoTextC X.prog X.K X.mg D fI cc c fd D0 f0 c0 e0 fd0) (hc : X.calm = true) (tk : Takes X W) (hr : Room 4 X.A) (ha : PA X (e :: es) ta) (hg : Gl X "NoText" := by rfl)
    (he : starEach (e :: es) X.env = (false, eval e X.env) :: starEach es X.env := by rfl) (hpl : (backTo pos (starEach es X.env)).any (·.1) = false := by rfl) :
    PS X (.Raise (some (.Call (.Name "NoText" p) (e :: es) [] pos)) none pos') (fun _ σ H => tMkO D (spNoText D) [] ta σ H fun cls d H' => W cls d σ H') :=
  ps_raise hc tk (pmk_oex N.err.ox N.ini N.ty (ok_NoText (w := X.w) (base := X.base) N) hr (binds_NoText N) .nil pass0 hg N.m ha (by decide) he hpl)
end
end My
namespace My
open PySem PySem.W PySem.Spec PySem.Calls PyProof.Rows
/-! isinstance of a caught error that has fields -/
section
variable {prog : Program} {w : World} {A : Around} {E : Value → Shared → Prop} {s : Shared} {K : Frag} {x D : Addr} {ox : Obj} {od : Option Obj}
/-- what the class of an error must say -/
structure ErrI (K : Frag) (D : Addr) : Prop where
  ga : findIn K (.ref D) "__getattribute__" = some (some (.builtin "BaseException.__getattribute__"))
  gt : findIn K (.ref D) "__getattr__" = some none
  ex : subIn K (.ref D) (.type "BaseException") = some true
  hd : hasDictIn K D = true
  ca : findIn K (.ref D) "__class__" = some (some (.builtin "object.__class__"))
  cn : specialIn K (.builtin "object.__class__") "__get__" = some (some (.builtin "getset_descriptor.__get__"))
  ct : takesIn K (.builtin "object.__class__") = some true
  mo : mroIn K D (.type "object") = some true
theorem ErrI.cls (T : ErrI K D) : ∃ cd, clsIn K D = some cd := by
  obtain ⟨cd, h, _⟩ := any_some T.hd
  exact ⟨cd, h⟩
theorem kitx_err (T : ErrI K D) : KitX K (.ref x) (.ref D) (fun h => InstAt h x ox D od) :=
  kitx_exc (by obtain ⟨cd, h⟩ := T.cls; rw [h]; rfl) T.ga T.gt T.ex T.ca T.cn T.ct T.mo
end
end My
namespace My
open PySem L2
theorem err_at {X : Cx} {a D dd : Addr} {oe : Obj} {cls : Value} {d : Option Addr} {pn pins : List (Addr × Obj)} {σ : St} {H : Hp} {s : Shared} {fs : List (Str × V)} (hz : Zc cls d oe) (hf : ∃ vs, oe.data = .fields vs) (I : Inv (X.suite a ((a, oe) :: pn)) pins σ H s) (ec : cls = .ref D) (ed : d = some dd) (h : H dd = some (.xd fs)) :
    ∃ od, PySem.W.InstAt s.heap a oe D (some od) := by
  subst ec ed
  obtain ⟨hget, _⟩ := I.pin (a, oe) (List.mem_append.mpr (.inl List.mem_cons_self))
  obtain ⟨vs, hv⟩ := hf
  obtain ⟨mA, hns, _⟩ := (show ObjOk X.prog X.w H s.heap dd (.xd fs) from I.hok dd _ h)
  obtain ⟨od, ho, _⟩ := lookIn_ns hns
  exact ⟨od, hget, hz.1, by unfold PySem.W.notCls; rw [hv], by rw [hz.2]; exact ho⟩
/-- isinstance(e, c), e a caught error with fields -/
def rIsF (K : PySem.W.Frag) (cls : Value) (d : Option Addr) (D a : Addr) : List V → Hp → VK → Prop := fun xs H Q => ∃ (c : V) (cv : Value) (b : Bool) (dd : Addr) (fs : List (Str × V)), xs = [.ref a, c] ∧ cls = .ref D ∧ d = some dd ∧ H dd = some (.xd fs) ∧ ClsV c cv ∧ PySem.W.kitOne K (.ref D) cv = some b ∧ Q (.bl b) H
theorem call_isF {X : Cx} {a D : Addr} {oe : Obj} {cls : Value} {d : Option Addr} {pn : List (Addr × Obj)} (T : ErrI X.K D) (hz : Zc cls d oe) (hf : ∃ vs, oe.data = .fields vs) : CallR (X.suite a ((a, oe) :: pn)) (.builtin "isinstance") (rIsF X.K cls d D a) := by
  intro pins s σ H xs us Q I r h
  obtain ⟨c, cv, b, dd, fs, rfl, ec, ed, h, k, e, q⟩ := h
  obtain ⟨u1, u2, rfl, r1, r2⟩ := vals2 r
  obtain rfl := k.eq r2
  obtain rfl : u1 = Value.ref a := r1
  obtain ⟨od, J⟩ := err_at hz hf I ec ed h
  exact PySem.W.kia_one (kitx_err T) I.kIn J e (fun z => nomatch z) fun tk => ⟨.bl b, H, I.tok tk, rfl, q⟩
/-- isinstance(e, (c1, c2, ..)) -/
def rIsFT (K : PySem.W.Frag) (cls : Value) (d : Option Addr) (D a : Addr) : List V → Hp → VK → Prop := fun xs H Q => ∃ (tp : Addr) (cs : List V) (us : List Value) (b : Bool) (dd : Addr) (fs : List (Str × V)), xs = [.ref a, .ref tp] ∧ H tp = some (.tup cs) ∧ cls = .ref D ∧ d = some dd ∧ H dd = some (.xd fs) ∧ Paired ClsV cs us ∧ PySem.W.kitAny K (.ref D) us = some b ∧ Q (.bl b) H
theorem call_isFT {X : Cx} {a D : Addr} {oe : Obj} {cls : Value} {d : Option Addr} {pn : List (Addr × Obj)} (T : ErrI X.K D) (hz : Zc cls d oe) (hf : ∃ vs, oe.data = .fields vs) : CallR (X.suite a ((a, oe) :: pn)) (.builtin "isinstance") (rIsFT X.K cls d D a) := by
  intro pins s σ H xs us Q I r h
  obtain ⟨tp, cs, ws, b, dd, fs, rfl, hT, ec, ed, h, k, e, q⟩ := h
  obtain ⟨u1, u2, rfl, r1, r2⟩ := vals2 r
  obtain rfl : u2 = Value.ref tp := r2
  obtain rfl : u1 = Value.ref a := r1
  obtain ⟨od, J⟩ := err_at hz hf I ec ed h
  obtain ⟨_, its, rv, o, h1, h2, n, h3⟩ := (show ObjOk X.prog X.w H s.heap tp (.tup cs) from I.hok tp _ hT)
  obtain rfl := ClsV.all k rv
  obtain ⟨oc, od2, dt, sl⟩ := o
  simp only at h2 h3
  subst h2 h3
  exact PySem.W.kia_tup (kitx_err T) I.kIn J h1 e (fun z => nomatch z) fun tk => ⟨.bl b, H, I.tok tk, rfl, q⟩
end My
namespace My
open PySem L2
/-! a reader of kinds, over signs: what it takes of any text -/
def pl (p : List Nat → Option (Kd × List Nat)) : Nat → List Nat → Option (List Kd × List Nat)
  | 0, l => some ([], l)
  | m + 1, l => if [44, 32] <+: l then (match p (l.drop 2) with
      | none => none
      | some (k, r) => match pl p m r with
        | none => none
        | some (ks, r2) => some (k :: ks, r2)) else some ([], l)
def pans (p : List Nat → Option (Kd × List Nat)) (ks : List Kd) (l : List Nat) : Option (Kd × List Nat) := match p l with
  | none => none
  | some (k, r) => if [41] <+: r then some (.calls ks k, r.drop 1) else none
def pb (p : List Nat → Option (Kd × List Nat)) (l : List Nat) : Option (Kd × List Nat) :=
  if [45, 62, 32] <+: l then pans p [] (l.drop 3) else match p l with
    | none => none
    | some (k, r) => match pl p r.length r with
      | none => none
      | some (ks, r2) => if [32, 45, 62, 32] <+: r2 then pans p (k :: ks) (r2.drop 4) else none
def pword (l : List Nat) : Option (Kd × List Nat) :=
  let w := ofL (l.takeWhile isLt)
  let r := l.dropWhile isLt
  if w = "num" then some (.num, r) else if w = "text" then some (.text, r) else if nmOk w = true then some (.of w, r) else none
def pk : Nat → List Nat → Option (Kd × List Nat)
  | 0, _ => none
  | n + 1, l => if [91] <+: l then (match pk n (l.drop 1) with
      | none => none
      | some (k, r) => if [93] <+: r then some (.row k, r.drop 1) else none)
    else if [40] <+: l then pb (pk n) (l.drop 1) else pword l
/-- a reader whose kinds are no greater than what it took -/
def Frugal (p : List Nat → Option (Kd × List Nat)) : Prop := ∀ l k r, p l = some (k, r) → k.size + r.length ≤ l.length
theorem pre_len {s l : List Nat} (h : s <+: l) : s.length + (l.drop s.length).length = l.length := by
  have := h.length_le
  rw [List.length_drop]
  omega
theorem pl_frugal {p : List Nat → Option (Kd × List Nat)} (f : Frugal p) : ∀ (m : Nat) (l : List Nat) (ks : List Kd) (r : List Nat), pl p m l = some (ks, r) → Kd.sizes ks + r.length ≤ l.length
  | 0, l, ks, r, h => by
    rw [pl] at h
    injection h with h
    injection h with h1 h2
    subst h1 h2
    simp [Kd.sizes]
  | m + 1, l, ks, r, h => by
    rw [pl] at h
    by_cases c : [44, 32] <+: l
    · rw [if_pos c] at h
      have hl := pre_len c
      cases e : p (l.drop 2) with
      | none => rw [e] at h; cases h
      | some q =>
        obtain ⟨k, r1⟩ := q
        rw [e] at h
        have h1 := f _ _ _ e
        cases e2 : pl p m r1 with
        | none => simp only [e2] at h; cases h
        | some q2 =>
          obtain ⟨ks2, r2⟩ := q2
          simp only [e2] at h
          injection h with h
          injection h with h3 h4
          subst h3 h4
          have h5 := pl_frugal f m _ _ _ e2
          simp only [Kd.sizes]
          have : ([44, 32] : List Nat).length = 2 := rfl
          rw [this] at hl
          omega
    · rw [if_neg c] at h
      injection h with h
      injection h with h1 h2
      subst h1 h2
      simp [Kd.sizes]
theorem pans_frugal {p : List Nat → Option (Kd × List Nat)} (f : Frugal p) {ks : List Kd} {l r : List Nat} {k : Kd} (h : pans p ks l = some (k, r)) : k.size + r.length ≤ Kd.sizes ks + l.length := by
  unfold pans at h
  cases e : p l with
  | none => rw [e] at h; cases h
  | some q =>
    obtain ⟨k1, r1⟩ := q
    rw [e] at h
    have h1 := f _ _ _ e
    by_cases c : [41] <+: r1
    · simp only [if_pos c] at h
      injection h with h
      injection h with h3 h4
      subst h3 h4
      have hl := pre_len c
      have : ([41] : List Nat).length = 1 := rfl
      rw [this] at hl
      simp only [Kd.size]
      omega
    · simp only [if_neg c] at h
      cases h
theorem pb_frugal {p : List Nat → Option (Kd × List Nat)} (f : Frugal p) {l r : List Nat} {k : Kd} (h : pb p l = some (k, r)) : k.size + r.length ≤ l.length := by
  unfold pb at h
  by_cases c : [45, 62, 32] <+: l
  · rw [if_pos c] at h
    have h1 := pans_frugal f h
    rw [List.length_drop] at h1
    simp only [Kd.sizes] at h1
    omega
  · rw [if_neg c] at h
    cases e : p l with
    | none => rw [e] at h; cases h
    | some q =>
      obtain ⟨k1, r1⟩ := q
      simp only [e] at h
      have h1 := f _ _ _ e
      cases e2 : pl p r1.length r1 with
      | none => simp only [e2] at h; cases h
      | some q2 =>
        obtain ⟨ks2, r2⟩ := q2
        simp only [e2] at h
        have h2 := pl_frugal f _ _ _ _ e2
        by_cases c2 : [32, 45, 62, 32] <+: r2
        · rw [if_pos c2] at h
          have h3 := pans_frugal f h
          rw [List.length_drop] at h3
          simp only [Kd.sizes] at h3
          omega
        · rw [if_neg c2] at h
          cases h
theorem split_len (l : List Nat) : (l.takeWhile isLt).length + (l.dropWhile isLt).length = l.length := by
  rw [← List.length_append, List.takeWhile_append_dropWhile]
theorem ofL_len (l : List Nat) : (ofL l).length = l.length := by rw [← cl_len, cl_ofL]
theorem pword_frugal {l r : List Nat} {k : Kd} (h : pword l = some (k, r)) : k.size + r.length ≤ l.length := by
  have hs := split_len l
  have hl := ofL_len (l.takeWhile isLt)
  unfold pword at h
  simp only at h
  by_cases c1 : ofL (l.takeWhile isLt) = "num"
  · rw [if_pos c1] at h
    injection h with h
    injection h with h3 h4
    subst h3 h4
    rw [c1] at hl
    have : ("num" : Str).length = 3 := rfl
    simp only [Kd.size]
    omega
  · rw [if_neg c1] at h
    by_cases c2 : ofL (l.takeWhile isLt) = "text"
    · rw [if_pos c2] at h
      injection h with h
      injection h with h3 h4
      subst h3 h4
      rw [c2] at hl
      have : ("text" : Str).length = 4 := rfl
      simp only [Kd.size]
      omega
    · rw [if_neg c2] at h
      by_cases c3 : nmOk (ofL (l.takeWhile isLt)) = true
      · rw [if_pos c3] at h
        injection h with h
        injection h with h3 h4
        subst h3 h4
        unfold nmOk at c3
        rw [Bool.and_eq_true_iff, Bool.and_eq_true_iff, Bool.and_eq_true_iff] at c3
        have := of_decide_eq_true c3.1.2.1
        simp only [Kd.size]
        omega
      · rw [if_neg c3] at h
        cases h
theorem pk_frugal : ∀ n, Frugal (pk n)
  | 0 => fun l k r h => by rw [pk] at h; cases h
  | n + 1 => fun l k r h => by
    rw [pk] at h
    by_cases c : [91] <+: l
    · rw [if_pos c] at h
      cases e : pk n (l.drop 1) with
      | none => rw [e] at h; cases h
      | some q =>
        obtain ⟨k1, r1⟩ := q
        simp only [e] at h
        have h1 := pk_frugal n _ _ _ e
        by_cases c2 : [93] <+: r1
        · rw [if_pos c2] at h
          injection h with h
          injection h with h3 h4
          subst h3 h4
          have hl := pre_len c
          have hl2 := pre_len c2
          have t1 : ([91] : List Nat).length = 1 := rfl
          have t2 : ([93] : List Nat).length = 1 := rfl
          rw [t1] at hl
          rw [t2] at hl2
          simp only [Kd.size]
          omega
        · rw [if_neg c2] at h
          cases h
    · rw [if_neg c] at h
      by_cases c1 : [40] <+: l
      · rw [if_pos c1] at h
        have h1 := pb_frugal (pk_frugal n) h
        rw [List.length_drop] at h1
        omega
      · rw [if_neg c1] at h
        exact pword_frugal h
/-- the kind that a text writes -/
def rdK (tx : Str) : Option Kd := match pk 5 (cl tx) with
  | some (k, []) => if k.ccc = true then none else if (k.subs.filter Kd.isCalls).any (fun c => decide (3 < c.arity)) = true then none else some k
  | _ => none
/-! methods that may refuse -/
def tMethE (C : Addr) (m : Str) (sp : Sp) (E : L2.St → XK) (ta : TE) (t : TA) : TE := fun σ H Q => ta σ H fun x H1 => ∃ a dx fs, x = .ref a ∧ H1 a = some (.ins C dx fs) ∧ fs.lookup m = none ∧ t σ H1 fun vs H2 => sp (x :: vs) H2 Q (E σ)
section
variable {X : Cx} {CX : CXT} {k : Nat} {C f : Addr} {fd : FuncData} {ps : List Str} {sp : Sp} {ES : L2.St → XK} {o e : Expr} {es : List Expr} {m : Str} {pos apos : Pos} {ta : TE} {t : TA} {pl : Sem Bool}
theorem pe_methE (he : PE X o ta) (c : Cls X.K C) (hm : Meth X.K C m f) (F : FnOk X.prog X.w X.K X.mg X.base CX k f fd ps sp) (hr : Room k X.A) (hb : Binds X.K fd ps []) (hx : ∀ σ, PassesAt CX X σ (ES σ)) (ha : PA X (e :: es) t)
    (hst : starEach (e :: es) X.env = (false, eval e X.env) :: starEach es X.env := by rfl) (hpl : (backTo pos (starEach es X.env)).any (·.1) = false := by rfl)
    (ht : eval (.Call (.Attribute o m apos) (e :: es) [] pos) X.env = (do
      let ov ← eval o X.env
      standAt apos.atName
      let (f, first) ← holding [ov] (getMethod ov m pl)
      callWith pos f first (backTo pos (starEach (e :: es) X.env)) (backToKw pos (keywordEach [] X.env))) := by rfl) :
    PE X (.Call (.Attribute o m apos) (e :: es) [] pos) (tMethE C m sp ES ta t) := by
  constructor
  intro pins s σ H Q I h
  have base := he.run pins s σ H _ I h
  refine PySem.W.methodCall_KW (pl := pl) (thn base ?_) ht
  rintro u s1 ⟨x, H1, I1, rx, a, dx, fs, rfl, ea, l, q⟩
  obtain rfl : u = Value.ref a := rx
  refine getmeth_ok I1 ea c hm l ?_
  have args := ha.run pos pins s1 σ H1 _ I1 q
  refine PySem.W.callWith_K (first := [.ref a]) (h₀ := X.base) I.ok.mod.kin hm.kp (thn args ?_) hst hpl
  rintro us s2 ⟨vs, H2, I2, r, q2⟩
  exact ⟨I2.kIn, run_fnS (us := .ref a :: us) (vs := .ref a :: vs) F hr hb (hx σ) I2 (.cons rfl r) q2⟩
theorem pe_methE0 (he : PE X o ta) (c : Cls X.K C) (hm : Meth X.K C m f) (F : FnOk X.prog X.w X.K X.mg X.base CX k f fd ps sp) (hr : Room k X.A) (hb : Binds X.K fd ps []) (hx : ∀ σ, PassesAt CX X σ (ES σ))
    (ht : eval (.Call (.Attribute o m apos) [] [] pos) X.env = (do
      let ov ← eval o X.env
      standAt apos.atName
      let (f, first) ← holding [ov] (getMethod ov m pl)
      callWith pos f first (backTo pos (starEach [] X.env)) (backToKw pos (keywordEach [] X.env))) := by rfl) :
    PE X (.Call (.Attribute o m apos) [] [] pos) (tMethE C m sp ES ta tNil) := by
  constructor
  intro pins s σ H Q I h
  have base := he.run pins s σ H _ I h
  refine PySem.W.methodCall_KW (pl := pl) (thn base ?_) ht
  rintro u s1 ⟨x, H1, I1, rx, a, dx, fs, rfl, ea, l, q⟩
  obtain rfl : u = Value.ref a := rx
  refine getmeth_ok I1 ea c hm l ?_
  exact PySem.W.callWith_K0 (first := [.ref a]) I1.kIn hm.kp (run_fnS (us := [.ref a]) (vs := [.ref a]) F hr hb (hx σ) I1 (.cons rfl .nil) q)
end
end My
namespace My
open PySem L2
/-! the reader of kinds, of any text -/
/-- a def that may raise -/
structure CalX (P : Program) (w : World) (K : PySem.W.Frag) (mg : Str → Option Value) (base : Heap) (x : Str) (n : Nat) (ps : List Str) (sp : Sp) : Prop where
  ex : ∃ (f : Addr) (fd : FuncData), FnOk P w K mg base (L2.CX P w) n f fd ps sp ∧ mg x = some (.ref f) ∧ PySem.W.keepIn K (.ref f) = true ∧ Binds K fd ps []
theorem pcx {X : Cx} {x : Str} {n : Nat} {ps : List Str} {sp : Sp} {es : List Expr} {e : Expr} {t : TA} {p pos : Pos} {W : WX} (C : CalX X.prog X.w X.K X.mg X.base x n ps sp) (hr : Room n X.A) (tk : Takes X W) (ha : PA X (e :: es) t) (hg : Gl X x := by rfl)
    (hdb : (x == ("__debug__" : Str)) = false := by decide) (he : starEach (e :: es) X.env = (false, eval e X.env) :: starEach es X.env := by rfl) (hpl : (backTo pos (starEach es X.env)).any (·.1) = false := by rfl) :
    PE X (.Call (.Name x p) (e :: es) [] pos) (tCallS sp (WE W) t) := by
  obtain ⟨f, fd, F, hm, hk, hb⟩ := C.ex
  exact pe_callS F hr hg hm hk hb (fun σ => passAt tk σ) ha hdb he hpl
/-- refused with NoText of the whole text -/
def Refu (D z : Addr) (tx : Str) (H : Hp) (E : XK) : Prop := ∀ (d : Addr) (H' : Hp), Bz z H H' → H d = none → H' d = some (xdNoText tx) → E (.ref D) (some d) H'
theorem Refu.bz {D z Z : Addr} {tx : Str} {l : List Nat} {H H1 : Hp} {E : XK} (h : Refu D z tx H E) (b : Bz z H H1) (r : Rst H1 Z z tx l) : Refu D z tx H1 E := fun d H' b2 nd hd => h d H' (b.trans b2) (by
  cases e : H d with
  | none => rfl
  | some o =>
    by_cases c : d = z
    · subst c
      obtain ⟨dx, i, hz, _⟩ := r
      rw [hz] at nd
      cases nd
    · rw [b d o c e] at nd
      cases nd) hd
theorem Refu.mk {D z : Addr} {tx : Str} {H : Hp} {E : XK} (h : Refu D z tx H E) (l : tx.length ≤ 100000) : ([V.str tx] : List V).length ≤ 1000 ∧ ∀ a, H a = none → spNoText D (.ref a :: ([V.str tx] ++ [])) (upd H a (exo a D none))
    (fun v H2 => v = .non ∧ ∃ (d : Addr) (fs : List (Str × V)), H2 a = some (exo a D (some d)) ∧ H2 d = some (exd d fs) ∧ H d = none ∧ E (.ref D) (some d) (upd (del H2 a) d (.xd fs))) (fun _ _ _ => False) :=
  mk_NoText (D := D) (H := H) (x := tx) (Q := E) l fun d H' s nd hd => h d H' (Bz.of_same s) nd hd
def spNeedsX (Z D : Addr) : Sp := fun vs H Q E => ∃ (z : Addr) (tx sg : Str) (l : List Nat), vs = [.ref z, .str sg] ∧ Rst H Z z tx l ∧ sg.length ≤ 1000 ∧ tx.length ≤ 100000 ∧
  (∀ l', l = cl sg ++ l' → ∀ H', Rst H' Z z tx l' → Bz z H H' → Q .non H') ∧ (¬ cl sg <+: l → Refu D z tx H E)
def spEndsX (Z D : Addr) : Sp := fun vs H Q E => ∃ (z : Addr) (tx : Str) (l : List Nat), vs = [.ref z] ∧ Rst H Z z tx l ∧ tx.length ≤ 100000 ∧ (l = [] → Q .non H) ∧ (l ≠ [] → Refu D z tx H E)
def spKindX (Z D : Addr) (n : Nat) : Sp := fun vs H Q E => ∃ (z : Addr) (tx : Str) (l : List Nat), vs = [.ref z, .int (n : Int)] ∧ Rst H Z z tx l ∧ tx.length ≤ 100000 ∧
  (∀ k r v H', pk n l = some (k, r) → KdAt H' v k → Rst H' Z z tx r → Bz z H H' → Q v H') ∧ (pk n l = none → Refu D z tx H E)
def spBackX (Z D : Addr) (n : Nat) : Sp := fun vs H Q E => ∃ (z : Addr) (tx : Str) (l : List Nat), vs = [.ref z, .int (n : Int)] ∧ Rst H Z z tx l ∧ tx.length ≤ 100000 ∧
  (∀ k r v H', pb (pk n) l = some (k, r) → KdAt H' v k → Rst H' Z z tx r → Bz z H H' → Q v H') ∧ (pb (pk n) l = none → Refu D z tx H E)
theorem Rst.len {H : Hp} {Z z : Addr} {tx : Str} {l : List Nat} (r : Rst H Z z tx l) : l.length ≤ tx.length := by
  obtain ⟨dx, i, _, _, e⟩ := r
  rw [← e, List.length_drop, cl_len]
  omega
section
variable {P : Program} {w : World} {K : PySem.W.Frag} {mg : Str → Option Value} {base : Heap} {f : Addr} {fd : FuncData} {aT aF Z D fN cN kN D0 f0 c0 e0 : Addr} {gN g0 : FuncData} {ft fn fl fe : Addr} {fdt fdn fdl fde : FuncData}
theorem ok_needsX (cz : ScnC K Z) (N : NoTextC P K mg D fN cN kN gN D0 f0 c0 e0 g0) (F : Fun K "needs" "Scanner.needs" s_Scanner_needs f fd) (m_takes : Meth K Z "takes" ft) (f_takes : FnOk P w K mg base CX0 1 ft fdt ["self", "sign"] (spTakes Z)) (bm_takes : Binds K fdt ["self", "sign"] []) :
    FnOk P w K mg base (L2.CX P w) 5 f fd ["self", "sign"] (spNeedsX Z D) := by
  refine F.okX sc_Scanner_needs (fun vs H Q E h => ?_) (fun cdv A outer s H vs Q E hr h => ?_)
  · obtain ⟨z, tx, sg, l, rfl, _⟩ := h
    rfl
  obtain ⟨z, tx, sg, l, rfl, hR, hsg, htx, q, qe⟩ := h
  refine ⟨_, (pss_one (ps_if (pt_not (pt_val (pe_meth (pv 0) cz.cl m_takes f_takes (hr.mono (by first | decide | omega)) bm_takes .nil pass0 (pa_cons (pv 1) pa_nil)))) (pss_one (ps_NoText N rfl (takes_of rfl rfl rfl rfl) (hr.mono (by first | decide | omega)) (pa_cons (pe_fld (pv 0) rfl) pa_nil))) pss_nil)), ?_⟩
  obtain ⟨dx, i, hz, hi, hl⟩ := id hR
  refine ⟨_, rfl, z, dx, _, rfl, hz, rfl, _, rfl, z, tx, sg, l, rfl, hR, hsg, fun l2 e H' r b => ⟨_, rfl, iteF (q l2 e H' r b)⟩, fun no => ⟨_, rfl, iteT ?_⟩⟩
  exact ⟨_, rfl, z, Z, dx, _, _, rfl, hz, cz.cl, cz.nText, rfl, (qe no).mk htx⟩
theorem ok_endsX (B : Bn mg) (cz : ScnC K Z) (N : NoTextC P K mg D fN cN kN gN D0 f0 c0 e0 g0) (F : Fun K "ends" "Scanner.ends" s_Scanner_ends f fd) : FnOk P w K mg base (L2.CX P w) 5 f fd ["self"] (spEndsX Z D) := by
  refine F.okX sc_Scanner_ends (fun vs H Q E h => ?_) (fun cdv A outer s H vs Q E hr h => ?_)
  · obtain ⟨z, tx, l, rfl, _⟩ := h
    rfl
  obtain ⟨z, tx, l, rfl, hR, htx, q, qe⟩ := h
  refine ⟨_, (pss_one (ps_if (pt_cmpR op_lt (pe_fld (pv 0) rfl) (pe_callB call_len_str (by rfl) B.b_len PySem.boot_len (pa_cons (pe_fld (pv 0) rfl) pa_nil)) (nomark _)) (pss_one (ps_NoText N rfl (takes_of rfl rfl rfl rfl) (hr.mono (by first | decide | omega)) (pa_cons (pe_fld (pv 0) rfl) pa_nil))) pss_nil)), ?_⟩
  obtain ⟨dx, i, hz, hi, hl⟩ := id hR
  refine ⟨_, rfl, z, Z, dx, _, _, rfl, hz, cz.cl, cz.nAt, rfl, _, rfl, z, Z, dx, _, _, rfl, hz, cz.cl, cz.nText, rfl, _, rfl, Nat.le_of_lt (line5 htx), _, _, rfl, rfl, _, rfl, ?_⟩
  have hlen := congrArg List.length hl
  rw [List.length_drop, cl_len] at hlen
  by_cases c : l = []
  · rw [c, List.length_nil] at hlen
    rw [decide_eq_false (by omega)]
    exact iteF (q c)
  · have := List.length_pos_iff.mpr c
    rw [decide_eq_true (by omega)]
    exact iteT ⟨_, rfl, z, Z, dx, _, _, rfl, hz, cz.cl, cz.nText, rfl, (qe c).mk htx⟩
def WbackX (Z z p : Addr) (tx : Str) (n : Nat) (k0 : Kd) (l1 : List Nat) (H0 : Hp) (m : Nat) (σ : St) (H : Hp) : Prop :=
  ∃ (vs : List V) (ks : List Kd) (l : List Nat) (g : Nat), σ = [some (.ref z), some (.int (n : Int)), some (.ref p), none] ∧ H p = some (.lst vs) ∧ KdsAt H vs (k0 :: ks) ∧ Rst H Z z tx l ∧ Bz z H0 H ∧ m = l.length ∧ l.length ≤ g ∧ ks.length + l.length ≤ l1.length ∧
    pl (pk n) l1.length l1 = (pl (pk n) g l).map fun q => (ks ++ q.1, q.2)
theorem Kd.size_pos (k : Kd) : 1 ≤ k.size := by
  rw [Kd.size_inner]
  omega
theorem pl_go {p : List Nat → Option (Kd × List Nat)} {l2 r : List Nat} {k : Kd} (g : Nat) (e : p l2 = some (k, r)) : pl p (g + 1) ([44, 32] ++ l2) = (pl p g r).map fun q => (k :: q.1, q.2) := by
  rw [pl, if_pos (List.prefix_append [44, 32] l2), show List.drop 2 ([44, 32] ++ l2) = l2 from rfl]
  simp only [e]
  cases pl p g r <;> rfl
theorem pl_no {p : List Nat → Option (Kd × List Nat)} {l2 : List Nat} (g : Nat) (e : p l2 = none) : pl p (g + 1) ([44, 32] ++ l2) = none := by
  rw [pl, if_pos (List.prefix_append [44, 32] l2), show List.drop 2 ([44, 32] ++ l2) = l2 from rfl]
  simp only [e]
theorem pl_end {p : List Nat → Option (Kd × List Nat)} {l : List Nat} (g : Nat) (e : ¬ [44, 32] <+: l) : pl p g l = some ([], l) := by
  cases g with
  | zero => rfl
  | succ g => rw [pl, if_neg e]
theorem pref_split {s l : List Nat} (h : s <+: l) : l = s ++ l.drop s.length := by
  obtain ⟨t, rfl⟩ := h
  rw [List.drop_left]
theorem ok_backX (B : Bn mg) (cz : ScnC K Z) (N : NoTextC P K mg D fN cN kN gN D0 f0 c0 e0 g0) (F : Fun K "callback_at" "callback_at" s_callback_at f fd) (m_takes : Meth K Z "takes" ft) (f_takes : FnOk P w K mg base CX0 1 ft fdt ["self", "sign"] (spTakes Z)) (bm_takes : Binds K fdt ["self", "sign"] [])
    (m_needs : Meth K Z "needs" fn) (f_needs : FnOk P w K mg base (L2.CX P w) 5 fn fdn ["self", "sign"] (spNeedsX Z D)) (bm_needs : Binds K fdn ["self", "sign"] []) {j n : Nat} (j2 : 6 ≤ j) (c_kind_at : CalX P w K mg base "kind_at" j ["scan", "levels"] (spKindX Z D n)) :
    FnOk P w K mg base (L2.CX P w) (j + 1) f fd ["scan", "levels"] (spBackX Z D n) := by
  refine F.okX sc_callback_at (fun vs H Q E h => ?_) (fun cdv A outer s H vs Q E hr h => ?_)
  · obtain ⟨z, tx, l, rfl, _⟩ := h
    rfl
  obtain ⟨z, tx, l0, rfl, hR, htx, q, qe⟩ := h
  refine ⟨_, (pss_cons (ps_set (i := 2) sc_callback_at.nd rfl (Or.inl rfl) (pe_lst pa_nil))
    (pss_cons (ps_if (pt_not (pt_val (pe_meth (pv 0) cz.cl m_takes f_takes (hr.mono (by first | decide | omega)) bm_takes .nil pass0 (pa_cons pe_str pa_nil)))) (pss_cons (ps_expr (pe_bm PySem.F.plainAttrs_list PySem.F.slot_list_append PySem.F.type_list_append mt_append (pv 2) (pa_cons (pcx c_kind_at (hr.mono (by first | decide | omega)) (takes_of rfl rfl rfl rfl) (pa_cons (pv 0) (pa_cons (pv 1) pa_nil))) pa_nil)))
    (pss_cons (ps_while (passes_of rfl) (pt_val (pe_meth (pv 0) cz.cl m_takes f_takes (hr.mono (by first | decide | omega)) bm_takes .nil pass0 (pa_cons pe_str pa_nil))) (pss_one (ps_expr (pe_bm PySem.F.plainAttrs_list PySem.F.slot_list_append PySem.F.type_list_append mt_append (pv 2) (pa_cons (pcx c_kind_at (hr.mono (by first | decide | omega)) (takes_of rfl rfl rfl rfl) (pa_cons (pv 0) (pa_cons (pv 1) pa_nil))) pa_nil)))))
    (pss_one (ps_expr (pe_methE (pv 0) cz.cl m_needs f_needs (hr.mono (by first | decide | omega)) bm_needs (fun σ => passAt (takes_of rfl rfl rfl rfl) σ) (pa_cons pe_str pa_nil)))))) pss_nil)
    (pss_cons (ps_set (i := 3) sc_callback_at.nd rfl (Or.inl rfl) (pcx c_kind_at (hr.mono (by first | decide | omega)) (takes_of rfl rfl rfl rfl) (pa_cons (pv 0) (pa_cons (pv 1) pa_nil))))
    (pss_cons (ps_expr (pe_methE (pv 0) cz.cl m_needs f_needs (hr.mono (by first | decide | omega)) bm_needs (fun σ => passAt (takes_of rfl rfl rfl rfl) σ) (pa_cons pe_str pa_nil)))
    (pss_one (ps_ret (pe_tup (pa_cons pe_str (pa_cons (pe_callTy (tupleOf K rfl) (by rfl) B.b_tuple (by decide +kernel) (pa_cons (pv 2) pa_nil)) (pa_cons (pv 3) pa_nil)))))))))), ?_⟩
  refine seq_set ?_
  refine ⟨Nat.zero_le _, fun p np => ?_⟩
  dsimp only
  have npz := hR.ne np
  have R1 := hR.put (o := .lst []) npz
  have b1 : Bz z H (upd H p (.lst [])) := (Bz.refl z H).atNew np
  have hp1 : (upd H p (.lst [])) p = some (.lst []) := upd_same
  generalize upd H p (.lst []) = H1 at R1 b1 hp1
  have ll0 := hR.len
  refine seq_abs (fun σ' H' => ∃ vs ks l, σ' = [some (.ref z), some (.int (n : Int)), some (.ref p), none] ∧ H' p = some (.lst vs) ∧ KdsAt H' vs ks ∧ Rst H' Z z tx l ∧ Bz z H H' ∧ pb (pk n) l0 = pans (pk n) ks l) (fun σ2 H2 w2 => ?_) (fun nx hnx => ?_)
  · obtain ⟨vs, ks, l, rfl, hp2, kv, R2, b2, eq⟩ := w2
    refine ⟨_, rfl, _, rfl, z, tx, l, rfl, R2, htx, fun k r v H3 e hv R3 b3 => ?_, fun e => ?_⟩
    rotate_left
    · exact (qe (by rw [eq, pans, e])).bz b2 R2
    have T3 := b3.tups R2
    obtain ⟨dx3, i3, hz3, _, _⟩ := id R3
    have eq2 : pb (pk n) l0 = if [41] <+: r then some (.calls ks k, r.drop 1) else none := by rw [eq, pans, e]
    refine ⟨_, rfl, z, dx3, _, rfl, hz3, rfl, z, tx, ")", r, rfl, R3, (by decide), htx, fun l4 el H4 R4 b4 => ?_, fun no => ?_⟩
    rotate_left
    · exact (qe (by rw [eq2, if_neg (show ¬ [41] <+: r from no)])).bz (b2.trans b3) R3
    have T4 := b4.tups R3
    have hp4 := b4 _ _ npz (b3 _ _ npz hp2)
    refine ⟨_, rfl, p, vs, rfl, .inl ⟨SqL.of hp4, fun t nt => ?_⟩⟩
    have s5 := same_new nt (.tup vs)
    have ht5 : (upd H4 t (.tup vs)) t = some (.tup vs) := upd_same
    generalize upd H4 t (.tup vs) = H5 at s5 ht5
    refine ⟨_, rfl, (by show 3 ≤ sizeLine; decide), fun a na => ?_⟩
    have s6 := same_new na (.tup [.str "calls", .ref t, v])
    have T5 := (T4.trans (Tups.of_same s5)).trans (Tups.of_same s6)
    have el2 : r = 41 :: l4 := el
    have eq3 : pb (pk n) l0 = some (.calls ks k, l4) := by
      rw [eq2, el2]
      exact if_pos ⟨l4, rfl⟩
    exact q _ _ _ _ eq3 (.calls upd_same (s6 _ _ ht5) (kv.mono (T3.trans T5)) (hv.mono T5)) ((R4.same s5).same s6) (((b2.trans b3).trans b4).trans ((Bz.of_same s5).trans (Bz.of_same s6)))
  obtain ⟨dx1, i1, hz1, _, _⟩ := id R1
  refine ⟨_, rfl, z, dx1, _, rfl, hz1, rfl, z, tx, "-> ", _, rfl, R1, (by decide), ?_, ?_⟩
  · rintro l2 el H2 R2 b2
    refine ⟨_, rfl, iteF (hnx _ _ ⟨[], [], l2, rfl, b2 _ _ npz hp1, .nil, R2, b1.trans b2, ?_⟩)⟩
    have el2 : l0 = [45, 62, 32] ++ l2 := el
    rw [pb, el2, if_pos (List.prefix_append _ l2)]
    rfl
  intro hno
  refine ⟨_, rfl, iteT ?_⟩
  have hno2 : ¬ [45, 62, 32] <+: l0 := hno
  refine ⟨_, rfl, tyL hp1, _, rfl, _, rfl, z, tx, _, rfl, R1, htx, fun k0 l1 v H2 e0 hv R2 b2 => ?_, fun e => ?_⟩
  rotate_left
  · exact (qe (by rw [pb, if_neg hno2, e])).bz b1 R1
  have hfr := pk_frugal n _ _ _ e0
  have hk0 : 1 ≤ k0.size := Kd.size_pos k0
  have hp2 := b2 _ _ npz hp1
  refine ⟨p, [], v, rfl, rfl, hp2, (by decide), ?_⟩
  have T3 : Tups H2 (upd H2 p (.lst ([] ++ [v]))) := Tups.upd hp2
  have R3 := R2.put (o := .lst ([] ++ [v])) npz
  have b3 : Bz z H (upd H2 p (.lst ([] ++ [v]))) := (b1.trans b2).atNew np
  have hp3 : (upd H2 p (.lst ([] ++ [v]))) p = some (.lst [v]) := upd_same
  generalize upd H2 p (.lst ([] ++ [v])) = H3 at T3 R3 b3 hp3
  have eq0 : pb (pk n) l0 = (match pl (pk n) l1.length l1 with | none => none | some (ks, r2) => if [32, 45, 62, 32] <+: r2 then pans (pk n) (k0 :: ks) (r2.drop 4) else none) := by
    rw [pb, if_neg hno2, e0]
    all_goals first
      | rfl
      | (dsimp only; generalize pl (pk n) l1.length l1 = w; cases w <;> rfl)
  refine ⟨WbackX Z z p tx n k0 l1 H, ⟨l1.length, [v], [], l1, l1.length, rfl, hp3, .cons (hv.mono T3) .nil, R3, b3, rfl, Nat.le_refl _, (by simp), ?_⟩, fun m σ H4 w4 => ?_⟩
  · cases pl (pk n) l1.length l1 <;> simp
  obtain ⟨vs, ks, l, g, rfl, hp4, kv, R4, b4, rfl, hg, hkl, epl⟩ := w4
  obtain ⟨dx4, i4, hz4, _, _⟩ := id R4
  refine ⟨_, rfl, z, dx4, _, rfl, hz4, rfl, z, tx, ", ", _, rfl, R4, (by decide), ?_, ?_⟩
  · rintro l2 el H5 R5 b5
    have el2 : l = [44, 32] ++ l2 := el
    have hp5 := b5 _ _ npz hp4
    have T5 := b5.tups R4
    have ll2 : l.length = l2.length + 2 := by rw [el2]; rfl
    obtain ⟨g2, rfl⟩ : ∃ g2, g = g2 + 1 := ⟨g - 1, by omega⟩
    refine ⟨_, rfl, iteT ⟨fun σ' H' => ∃ m', m' < l.length ∧ WbackX Z z p tx n k0 l1 H m' σ' H', fun _ _ h => h, ?_⟩⟩
    refine ⟨_, rfl, tyL hp5, _, rfl, _, rfl, z, tx, _, rfl, R5, htx, fun j r u H6 e6 hu R6 b6 => ?_, fun e6 => ?_⟩
    rotate_left
    · refine (qe ?_).bz (b4.trans b5) R5
      rw [eq0, epl, el2, pl_no g2 e6]
      rfl
    have hp6 := b6 _ _ npz hp5
    have T6 := b6.tups R5
    have hf6 := pk_frugal n _ _ _ e6
    have hj0 : 1 ≤ j.size := Kd.size_pos j
    have lv : vs.length = ks.length + 1 := by rw [kv.len]; rfl
    refine ⟨p, vs, u, rfl, rfl, hp6, line5 (by omega), r.length, by omega, vs ++ [u], ks ++ [j], r, g2, rfl, upd_same, ?_, R6.put npz, ((b4.trans b5).trans b6).atNew np, rfl, by omega, by rw [List.length_append, List.length_singleton]; omega, ?_⟩
    · have T7 : Tups H6 (upd H6 p (.lst (vs ++ [u]))) := Tups.upd hp6
      have := (kv.mono ((T5.trans T6).trans T7)).app (.cons (hu.mono T7) .nil)
      exact this
    · rw [epl, el2, pl_go g2 e6]
      cases pl (pk n) g2 r with
      | none => rfl
      | some q => simp
  intro hno3
  refine ⟨_, rfl, iteF ?_⟩
  have hno4 : ¬ [44, 32] <+: l := hno3
  have epl2 : pl (pk n) l1.length l1 = some (ks, l) := by
    rw [epl, pl_end g hno4]
    simp
  refine ⟨_, rfl, z, dx4, _, rfl, hz4, rfl, z, tx, " -> ", _, rfl, R4, (by decide), htx, fun l5 el H5 R5 b5 => ?_, fun no => ?_⟩
  · have el2 : l = [32, 45, 62, 32] ++ l5 := el
    refine hnx _ _ ⟨vs, k0 :: ks, l5, rfl, b5 _ _ npz hp4, kv.mono (b5.tups R4), R5, b4.trans b5, ?_⟩
    rw [eq0, epl2]
    simp only
    rw [el2, if_pos (List.prefix_append _ l5)]
    rfl
  · refine (qe ?_).bz b4 R4
    rw [eq0, epl2]
    simp only
    rw [if_neg (show ¬ [32, 45, 62, 32] <+: l from no)]
end
end My
namespace My
open PySem L2
/-! kind_at of any text -/
theorem dw_drop {q : Nat → Bool} : ∀ l : List Nat, l.dropWhile q = l.drop (l.takeWhile q).length
  | [] => rfl
  | a :: r => by
    by_cases c : q a = true
    · rw [List.dropWhile_cons_of_pos c, List.takeWhile_cons_of_pos c, List.length_cons, List.drop_succ_cons]
      exact dw_drop r
    · rw [List.dropWhile_cons_of_neg c, List.takeWhile_cons_of_neg c]
      rfl
theorem nmOk_len {x : Str} (h : nmOk x = true) : x.length ≤ 8 := by
  unfold nmOk at h
  rw [Bool.and_eq_true_iff, Bool.and_eq_true_iff, Bool.and_eq_true_iff] at h
  exact of_decide_eq_true h.1.2.2
def spNo : Sp := fun _ _ _ _ => False
section
variable {P : Program} {w : World} {K : PySem.W.Frag} {mg : Str → Option Value} {base : Heap} {f : Addr} {fd : FuncData} {aT aF Z D fN cN kN D0 f0 c0 e0 : Addr} {gN g0 : FuncData} {ft fn fl fe : Addr} {fdt fdn fdl fde : FuncData}
theorem fn_no {C : CXT} {n : Nat} {ps : List Str} : FnOk P w K mg base C n f fd ps spNo := ⟨fun vs H Q E h => absurd h id, fun A outer s H args us vs Q E _ _ _ _ h => absurd h id⟩
theorem ok_kindX0 (B : Bn mg) (M : Mn K mg aT aF) (cz : ScnC K Z) (N : NoTextC P K mg D fN cN kN gN D0 f0 c0 e0 g0) (F : Fun K "kind_at" "kind_at" s_kind_at f fd)
    (m_takes : Meth K Z "takes" ft) (f_takes : FnOk P w K mg base CX0 1 ft fdt ["self", "sign"] (spTakes Z)) (bm_takes : Binds K fdt ["self", "sign"] [])
    (m_needs : Meth K Z "needs" fn) (f_needs : FnOk P w K mg base (L2.CX P w) 5 fn fdn ["self", "sign"] (spNeedsX Z D)) (bm_needs : Binds K fdn ["self", "sign"] [])
    (m_letters : Meth K Z "letters" fl) (f_letters : FnOk P w K mg base CX0 2 fl fdl ["self"] (spLetters Z)) (bm_letters : Binds K fdl ["self"] [])
    (c_is_name : Cal P w K mg base "is_name" 1 ["text"] spIsName) {j n : Nat} (j2 : 6 ≤ j) (spK spB : Sp) (hK : ∀ m, n = m + 1 → spK = spKindX Z D m) (hB : ∀ m, n = m + 1 → spB = spBackX Z D m)
    (c_kind_at : CalX P w K mg base "kind_at" j ["scan", "levels"] spK) (c_callback_at : CalX P w K mg base "callback_at" (j + 1) ["scan", "levels"] spB) :
    FnOk P w K mg base (L2.CX P w) (j + 2) f fd ["scan", "levels"] (spKindX Z D n) := by
  refine F.okX sc_kind_at (fun vs H Q E h => ?_) (fun cdv A outer s H vs Q E hr h => ?_)
  · obtain ⟨z, tx, l, rfl, _⟩ := h
    rfl
  obtain ⟨z, tx, l, rfl, hR, htx, q, qe⟩ := h
  refine ⟨_, (pss_cons (ps_if (pt_cmpR op_eq (pv 1) pe_int (nomark _)) (pss_one (ps_NoText N rfl (takes_of rfl rfl rfl rfl) (hr.mono (by first | decide | omega)) (pa_cons (pe_fld (pv 0) rfl) pa_nil))) pss_nil)
    (pss_cons (ps_if (pt_val (pe_meth (pv 0) cz.cl m_takes f_takes (hr.mono (by first | decide | omega)) bm_takes .nil pass0 (pa_cons pe_str pa_nil))) (pss_cons (ps_set (i := 3) sc_kind_at.nd rfl (Or.inl rfl) (pcx c_kind_at (hr.mono (by first | decide | omega)) (takes_of rfl rfl rfl rfl) (pa_cons (pv 0) (pa_cons (pe_op op_sub (pv 1) pe_int) pa_nil))))
    (pss_cons (ps_expr (pe_methE (pv 0) cz.cl m_needs f_needs (hr.mono (by first | decide | omega)) bm_needs (fun σ => passAt (takes_of rfl rfl rfl rfl) σ) (pa_cons pe_str pa_nil)))
    (pss_one (ps_ret (pe_tup (pa_cons pe_str (pa_cons (pv 3) pa_nil))))))) pss_nil)
    (pss_cons (ps_if (pt_val (pe_meth (pv 0) cz.cl m_takes f_takes (hr.mono (by first | decide | omega)) bm_takes .nil pass0 (pa_cons pe_str pa_nil))) (pss_one (ps_ret (pcx c_callback_at (hr.mono (by first | decide | omega)) (takes_of rfl rfl rfl rfl) (pa_cons (pv 0) (pa_cons (pe_op op_sub (pv 1) pe_int) pa_nil))))) pss_nil)
    (pss_cons (ps_set (i := 2) sc_kind_at.nd rfl (Or.inl rfl) (pe_meth0 (pv 0) cz.cl m_letters f_letters (hr.mono (by first | decide | omega)) bm_letters .nil pass0))
    (pss_cons (ps_if (pt_cmpR (inSeq K rfl) (pv 2) (pgT M.m_TAKEN) (by rfl)) (pss_one (ps_ret (pe_tup (pa_cons (pv 2) pa_nil)))) pss_nil)
    (pss_cons (ps_if (pt_not (pt_val (pc c_is_name (hr.mono (by first | decide | omega)) (pa_cons (pv 2) pa_nil)))) (pss_one (ps_NoText N rfl (takes_of rfl rfl rfl rfl) (hr.mono (by first | decide | omega)) (pa_cons (pe_fld (pv 0) rfl) pa_nil))) pss_nil)
    (pss_one (ps_ret (pe_tup (pa_cons pe_str (pa_cons (pv 2) pa_nil))))))))))), ?_⟩
  obtain ⟨dx, i, hz, _, _⟩ := id hR
  have ll := hR.len
  refine seq_abs (fun σ' H' => σ' = [some (.ref z), some (.int (n : Int)), none, none] ∧ H' = H ∧ ∃ m, n = m + 1) (fun σ1 H1 w1 => ?_) (fun nx hnx => ?_)
  rotate_left
  · refine ⟨_, rfl, rfl, _, rfl, ?_⟩
    cases n with
    | zero => exact iteT ⟨_, rfl, z, Z, dx, _, _, rfl, hz, cz.cl, cz.nText, rfl, (qe rfl).mk htx⟩
    | succ m =>
      rw [decide_eq_false (by intro h; injection h with h; omega)]
      exact iteF (hnx _ _ ⟨rfl, rfl, m, rfl⟩)
  obtain ⟨rfl, rfl, m, rfl⟩ := w1
  obtain rfl := hK m rfl
  obtain rfl := hB m rfl
  have e1 : (((m + 1 : Nat) : Int) - 1) = (m : Int) := by omega
  refine seq_abs (fun σ' H' => σ' = [some (.ref z), some (.int ((m + 1 : Nat) : Int)), none, none] ∧ H' = H1 ∧ ¬ [91] <+: l) (fun σ2 H2 w2 => ?_) (fun nx hnx => ?_)
  · obtain ⟨rfl, rfl, n91⟩ := w2
    refine seq_abs (fun σ' H' => σ' = [some (.ref z), some (.int ((m + 1 : Nat) : Int)), none, none] ∧ H' = H2 ∧ ¬ [40] <+: l) (fun σ3 H3 w3 => ?_) (fun nx hnx => ?_)
    · obtain ⟨rfl, rfl, n40⟩ := w3
      have epk : pk (m + 1) l = pword l := by rw [pk, if_neg n91, if_neg n40]
      have hs := split_len l
      have hol := ofL_len (l.takeWhile isLt)
      refine ⟨_, rfl, z, dx, _, rfl, hz, rfl, z, tx, _, rfl, hR, htx, fun H4 R4 b4 => ?_⟩
      unfold pword at epk
      simp only at epk
      generalize hx : ofL (l.takeWhile isLt) = x at *
      generalize l.dropWhile isLt = r at *
      refine ⟨_, rfl, aT, _, rfl, .inr (M.q_TAKEN H4), rfl, by rfl, _, rfl, ?_⟩
      have e0 : (if false = true then !inV (.str x) [V.str "num", V.str "text"] else inV (.str x) [V.str "num", V.str "text"]) = decide (x ∈ (["num", "text"] : List Str)) := inV_str (us := ["num", "text"])
      rw [e0]
      by_cases c1 : x = "num"
      · rw [if_pos c1] at epk
        subst c1
        refine ifT (by decide) ⟨_, rfl, (by show 1 ≤ sizeLine; decide), fun a na => ?_⟩
        exact q _ _ _ _ epk (.num upd_same) (R4.same (same_new na _)) (b4.trans (Bz.of_same (same_new na _)))
      · rw [if_neg c1] at epk
        by_cases c2 : x = "text"
        · rw [if_pos c2] at epk
          subst c2
          refine ifT (by decide) ⟨_, rfl, (by show 1 ≤ sizeLine; decide), fun a na => ?_⟩
          exact q _ _ _ _ epk (.text upd_same) (R4.same (same_new na _)) (b4.trans (Bz.of_same (same_new na _)))
        · rw [if_neg c2] at epk
          rw [decide_eq_false (by simp [c1, c2])]
          obtain ⟨dx4, i4, hz4, _, _⟩ := id R4
          refine iteF ⟨_, rfl, x, rfl, by omega, fun H5 s5 => ⟨_, rfl, ?_⟩⟩
          by_cases c3 : nmOk x = true
          · rw [if_pos c3] at epk
            rw [c3]
            refine iteF ⟨_, rfl, (by show 2 ≤ sizeLine; decide), fun a na => ?_⟩
            exact q _ _ _ _ epk (.of upd_same) ((R4.same s5).same (same_new na _)) ((b4.trans (Bz.of_same s5)).trans (Bz.of_same (same_new na _)))
          · rw [if_neg c3] at epk
            rw [Bool.eq_false_iff.mpr c3]
            refine iteT ⟨_, rfl, z, Z, dx4, _, _, rfl, s5 _ _ hz4, cz.cl, cz.nText, rfl, ?_⟩
            exact ((qe epk).bz (b4.trans (Bz.of_same s5)) (R4.same s5)).mk htx
    · refine ⟨_, rfl, z, dx, _, rfl, hz, rfl, z, tx, "(", _, rfl, hR, (by decide), ?_, fun hno => ⟨_, rfl, iteF (hnx _ _ ⟨rfl, rfl, hno⟩)⟩⟩
      intro l2 el H3 R3 b3
      have el2 : l = [40] ++ l2 := el
      have epk : pk (m + 1) l = pb (pk m) l2 := by
        rw [pk, if_neg n91, el2]
        exact if_pos ⟨l2, rfl⟩
      refine ⟨_, rfl, iteT ?_⟩
      refine ⟨_, rfl, _, rfl, _, _, rfl, rfl, ?_⟩
      exact ⟨z, tx, l2, (by show [V.ref z, V.int (((m + 1 : Nat) : Int) - 1)] = _; rw [e1]), R3, htx, fun k r v H4 e hv R4 b4 => q k r v H4 (epk.trans e) hv R4 (b3.trans b4), fun e => (qe (epk.trans e)).bz b3 R3⟩
  · refine ⟨_, rfl, z, dx, _, rfl, hz, rfl, z, tx, "[", _, rfl, hR, (by decide), ?_, fun hno => ⟨_, rfl, iteF (hnx _ _ ⟨rfl, rfl, hno⟩)⟩⟩
    intro l2 el H3 R3 b3
    have el2 : l = [91] ++ l2 := el
    have epk : pk (m + 1) l = (match pk m l2 with
      | none => none
      | some (k, r) => if [93] <+: r then some (.row k, r.drop 1) else none) := by
      rw [pk, el2]
      exact if_pos ⟨l2, rfl⟩
    refine ⟨_, rfl, iteT ?_⟩
    refine ⟨_, rfl, _, rfl, _, _, rfl, rfl, ?_⟩
    refine ⟨z, tx, l2, (by show [V.ref z, V.int (((m + 1 : Nat) : Int) - 1)] = _; rw [e1]), R3, htx, fun k r v H4 e hv R4 b4 => ?_, fun e => (qe (by rw [epk, e])).bz b3 R3⟩
    rw [e] at epk
    simp only at epk
    obtain ⟨dx4, i4, hz4, _, _⟩ := id R4
    refine ⟨_, rfl, z, dx4, _, rfl, hz4, rfl, z, tx, "]", r, rfl, R4, (by decide), htx, fun l5 e5 H5 R5 b5 => ?_, fun no => ?_⟩
    · have e6 : r = 93 :: l5 := e5
      rw [e6, if_pos ⟨l5, rfl⟩] at epk
      refine ⟨_, rfl, (by show 2 ≤ sizeLine; decide), fun a na => ?_⟩
      exact q _ _ _ _ epk (.row upd_same (hv.mono ((b5.tups R4).trans (Tups.of_same (same_new na _))))) (R5.same (same_new na _)) (((b3.trans b4).trans b5).trans (Bz.of_same (same_new na _)))
    · rw [if_neg (show ¬ [93] <+: r from no)] at epk
      exact (qe epk).bz (b3.trans b4) R4
theorem ok_kindX (B : Bn mg) (M : Mn K mg aT aF) (cz : ScnC K Z) (N : NoTextC P K mg D fN cN kN gN D0 f0 c0 e0 g0) (F : Fun K "kind_at" "kind_at" s_kind_at f fd) (hm : mg "kind_at" = some (.ref f)) (hb : Binds K fd ["scan", "levels"] [])
    {fc : Addr} {fdc : FuncData} (Fc : Fun K "callback_at" "callback_at" s_callback_at fc fdc) (hmc : mg "callback_at" = some (.ref fc)) (hbc : Binds K fdc ["scan", "levels"] [])
    (m_takes : Meth K Z "takes" ft) (f_takes : FnOk P w K mg base CX0 1 ft fdt ["self", "sign"] (spTakes Z)) (bm_takes : Binds K fdt ["self", "sign"] [])
    (m_needs : Meth K Z "needs" fn) (f_needs : FnOk P w K mg base (L2.CX P w) 5 fn fdn ["self", "sign"] (spNeedsX Z D)) (bm_needs : Binds K fdn ["self", "sign"] [])
    (m_letters : Meth K Z "letters" fl) (f_letters : FnOk P w K mg base CX0 2 fl fdl ["self"] (spLetters Z)) (bm_letters : Binds K fdl ["self"] [])
    (c_is_name : Cal P w K mg base "is_name" 1 ["text"] spIsName) : ∀ n : Nat, FnOk P w K mg base (L2.CX P w) (2 * n + 8) f fd ["scan", "levels"] (spKindX Z D n)
  | 0 => ok_kindX0 B M cz N F m_takes f_takes bm_takes m_needs f_needs bm_needs m_letters f_letters bm_letters c_is_name (j := 6) (by omega) spNo spNo (fun m h => by omega) (fun m h => by omega) ⟨f, fd, fn_no, hm, F.kp, hb⟩ ⟨fc, fdc, fn_no, hmc, Fc.kp, hbc⟩
  | n + 1 => by
    have c_kind_at : CalX P w K mg base "kind_at" (2 * n + 8) ["scan", "levels"] (spKindX Z D n) := ⟨f, fd, ok_kindX B M cz N F hm hb Fc hmc hbc m_takes f_takes bm_takes m_needs f_needs bm_needs m_letters f_letters bm_letters c_is_name n, hm, F.kp, hb⟩
    have c_callback_at : CalX P w K mg base "callback_at" (2 * n + 8 + 1) ["scan", "levels"] (spBackX Z D n) := ⟨fc, fdc, ok_backX B cz N Fc m_takes f_takes bm_takes m_needs f_needs bm_needs (by omega) c_kind_at, hmc, Fc.kp, hbc⟩
    exact ok_kindX0 B M cz N F m_takes f_takes bm_takes m_needs f_needs bm_needs m_letters f_letters bm_letters c_is_name (by omega) _ _ (fun m h => by injection h with h; rw [h]) (fun m h => by injection h with h; rw [h]) c_kind_at c_callback_at
end
end My
namespace My
open PySem L2
/-! read_kind of any text -/
def spReadX (D : Addr) : Sp := fun vs H Q E => ∃ (tx : Str), vs = [.str tx] ∧ tx.length ≤ 20000 ∧ (∀ k v H', rdK tx = some k → KdAt H' v k → Same H H' → Q v H') ∧
  (rdK tx = none → ∀ (d : Addr) (H' : Hp), Same H H' → H d = none → H' d = some (xdNoText tx) → E (.ref D) (some d) H')
section
variable {P : Program} {w : World} {K : PySem.W.Frag} {mg : Str → Option Value} {base : Heap} {f : Addr} {fd : FuncData} {aT aF Z D fN cN kN D0 f0 c0 e0 : Addr} {gN g0 : FuncData} {fe fs : Addr} {fde fds : FuncData}
theorem ok_readX (B : Bn mg) (M : Mn K mg aT aF) (cz : ScnC K Z) (N : NoTextC P K mg D fN cN kN gN D0 f0 c0 e0 g0) (F : Fun K "read_kind" "read_kind" s_read_kind f fd)
    {fz : Addr} {fdz : FuncData} (mkz : Mk K Z fz) (f_scan : FnOk P w K mg base CX0 1 fz fdz ["self", "text"] (spScan Z)) (m_Scanner : mg "Scanner" = some (.ref Z)) (bm_scan : Binds K fdz ["self", "text"] [])
    (c_kind_at : CalX P w K mg base "kind_at" 18 ["scan", "levels"] (spKindX Z D 5)) (m_ends : Meth K Z "ends" fe) (f_ends : FnOk P w K mg base (L2.CX P w) 5 fe fde ["self"] (spEndsX Z D)) (bm_ends : Binds K fde ["self"] [])
    (c_has_calls_in_calls : Cal P w K mg base "has_calls_in_calls" 4 ["kind"] spCcc) (c_calls_in : Cal P w K mg base "calls_in" 3 ["kind"] spCallsIn) : FnOk P w K mg base (L2.CX P w) 19 f fd ["text"] (spReadX D) := by
  refine F.okX sc_read_kind (fun vs H Q E h => ?_) (fun cdv A outer s H vs Q E hr h => ?_)
  · obtain ⟨tx, rfl, _⟩ := h
    rfl
  obtain ⟨tx, rfl, htx, q, qe⟩ := h
  refine ⟨_, (pss_cons (ps_set (i := 1) sc_read_kind.nd rfl (Or.inl rfl) (pe_make mkz f_scan (hr.mono (by first | decide | omega)) rfl m_Scanner bm_scan .nil pass0 (pa_cons (pv 0) pa_nil)))
    (pss_cons (ps_set (i := 2) sc_read_kind.nd rfl (Or.inl rfl) (pcx c_kind_at (hr.mono (by first | decide | omega)) (takes_of rfl rfl rfl rfl) (pa_cons (pv 1) (pa_cons (pgI M.m_MOST_LEVELS) pa_nil))))
    (pss_cons (ps_expr (pe_methE0 (pv 1) cz.cl m_ends f_ends (hr.mono (by first | decide | omega)) bm_ends (fun σ => passAt (takes_of rfl rfl rfl rfl) σ)))
    (pss_cons (ps_if (PW.pt (pw_or (pt_val (pc c_has_calls_in_calls (hr.mono (by first | decide | omega)) (pa_cons (pv 2) pa_nil))) (pw_or1 (pt_val (pe_callB (anyOf K rfl rfl) (by rfl) B.b_any (by decide +kernel) (pa_cons (pe_lc (own := [("each", 3)]) (g := (gName 3)) rfl sc_read_kind.nd (piL K rfl (pc c_calls_in (hr.mono (by first | decide | omega)) (pa_cons (pv 2) pa_nil))) (blkOk_by (N := ["text", "scan", "kind", "each"]) (sc := defScope s_read_kind) (by decide +kernel)) (fun _ _ _ _ _ => (pg_name (i := 3) sc_read_kind.nd rfl (Or.inl rfl) (hf := Or.inr rfl))) (fun _ _ _ _ _ => pts_nil) (fun _ _ _ _ _ => (pe_cmpR op_gt (pe_callB (lenSeq K rfl) (by rfl) B.b_len PySem.boot_len (pa_cons (pe_ix (ixT K rfl) (pv 3) pe_int (fun _ _ => rfl)) pa_nil)) (pgI M.m_MOST_CALLED) (nomark _)))) pa_nil)))))) (pss_one (ps_NoText N rfl (takes_of rfl rfl rfl rfl) (hr.mono (by first | decide | omega)) (pa_cons (pv 0) pa_nil))) pss_nil)
    (pss_one (ps_ret (pv 2))))))), ?_⟩
  refine ⟨_, rfl, fun z dx nz ndx nxd => ?_⟩
  have s0 : Same H (upd (upd H dx (.own z)) z (.ins Z dx [])) := (same_new ndx _).trans (same_new (by rw [upd_ne (Ne.symm nxd)]; exact nz) _)
  refine ⟨z, dx, tx, rfl, upd_same, fun H1 R1 b1 => ⟨rfl, ?_⟩⟩
  have same1 : ∀ {H' : Hp}, Bz z (upd (upd H dx (.own z)) z (.ins Z dx [])) H' → Same H H' := fun {H'} b c o e => b c o (ne_of_none e nz) (s0 c o e)
  have none1 : ∀ {H' : Hp} {d : Addr}, Same H H' → H' d = none → H d = none := fun {H' d} s e => by
    cases c : H d with
    | none => rfl
    | some o =>
      rw [s _ _ c] at e
      cases e
  have refu : rdK tx = none → ∀ {H' : Hp}, Same H H' → ∀ d H2, Same H' H2 → H' d = none → H2 d = some (xdNoText tx) → E (.ref D) (some d) H2 := fun e {H'} s d H2 s2 nd hd => qe e d H2 (s.trans s2) (none1 s nd) hd
  refine ⟨_, rfl, z, tx, cl tx, rfl, R1, by omega, fun k r v H2 e hv R2 b2 => ?_, fun e d H2 b2 nd hd => qe (by rw [rdK, e]) d H2 (same1 (b1.trans b2)) (none1 (same1 b1) nd) hd⟩
  obtain ⟨dx2, i2, hz2, _, _⟩ := id R2
  have hfr := pk_frugal 5 _ _ _ e
  rw [cl_len] at hfr
  refine ⟨_, rfl, z, dx2, _, rfl, hz2, rfl, z, tx, r, rfl, R2, by omega, fun er => ?_, fun er d H3 b3 nd hd => ?_⟩
  rotate_left
  · refine qe ?_ d H3 (same1 ((b1.trans b2).trans b3)) (none1 (same1 (b1.trans b2)) nd) hd
    rw [rdK, e]
    cases r with
    | nil => exact absurd rfl er
    | cons a b => rfl
  subst er
  have eR : rdK tx = if k.ccc = true then none else if (k.subs.filter Kd.isCalls).any (fun c => decide (3 < c.arity)) = true then none else some k := by
    rw [rdK, e]
  refine ⟨_, rfl, v, k, rfl, hv, by omega, fun H3 s3 => ⟨_, rfl, ?_⟩⟩
  have s03 := (same1 (b1.trans b2)).trans s3
  by_cases c1 : k.ccc = true
  · rw [if_pos c1] at eR
    rw [c1]
    exact iteT ⟨_, rfl, mk_NoText (by omega) (refu eR s03)⟩
  rw [if_neg c1] at eR
  rw [Bool.eq_false_iff.mpr c1]
  refine iteF ?_
  refine ⟨_, rfl, v, k, rfl, hv.mono (Tups.of_same s3), by omega, fun r ws ks H4 nr hr4 kws pm s4 => ⟨r, rfl, ⟨_, SqL.of hr4⟩, fun D nD => lc_list (xs := ws) (Pbls H4 D (ks.map fun c => decide (3 < c.arity))) ?_ ?_ ?_ ?_⟩⟩
  · exact ⟨same_new nD _, upd_same⟩
  · exact fun i H5 _ p => SqL.of (p.1 _ _ hr4)
  · rintro i x H5 hx ⟨s5, hacc⟩
    obtain ⟨kx, hkx, kdx⟩ := kws.get i x hx
    have kd2 := kdx.mono (Tups.of_same s5)
    obtain ⟨a, w, rr, rfl, ha, _, _, _, e2⟩ := kd2.head
    have hkm := (List.mem_filter.mp (pm.mem_iff.mp (List.mem_of_getElem? hkx)))
    obtain ⟨ps, qq, rfl⟩ : ∃ ps qq, kx = Kd.calls ps qq := by
      cases kx with
      | calls ps qq => exact ⟨_, _, rfl⟩
      | num => exact absurd hkm.2 (by decide)
      | text => exact absurd hkm.2 (by decide)
      | of x => exact absurd hkm.2 (by simp [Kd.isCalls])
      | row x => exact absurd hkm.2 (by simp [Kd.isCalls])
      | answers n x => exact absurd hkm.2 (by simp [Kd.isCalls])
    obtain ⟨b, vs, u, rfl, hbb, lb⟩ := e2 ps qq rfl
    have hil : i < ks.length := (List.getElem?_eq_some_iff.mp hkx).1
    have hle := pm.length_eq
    have hfl := List.length_filter_le Kd.isCalls k.subs
    rw [Kd.subs_len] at hfl
    refine ⟨rfl, _, rfl, _, _, _, _, rfl, rfl, SqT.of ha, at_of (j := 1) rfl rfl, b, _, rfl, .inr (SqT.of hbb), _, _, rfl, rfl, _, hacc, ?_, Same.atNew s5 nD, ?_⟩
    · rw [List.length_map]
      have h2 := List.length_take_le' i (ks.map fun c => decide (3 < c.arity))
      rw [List.length_map] at h2
      exact line5 (by omega)
    · have hb2 : (ks.map fun c => decide (3 < c.arity))[i]? = some (decide (3 < ps.length)) := by rw [List.getElem?_map, hkx]; rfl
      rw [upd_same, ← take_next hb2, List.map_append]
      have e : (decide (((vs.length : Nat) : Int) > 3)) = decide (3 < ps.length) := by
        rw [lb]
        exact decide_eq_decide.mpr (by omega)
      show some (HO.lst (_ ++ [V.bl (decide (((vs.length : Nat) : Int) > 3))])) = _
      rw [e]
      rfl
  rintro H5 ⟨s5, hacc⟩
  have hlk : ws.length = (ks.map fun c => decide (3 < c.arity)).length := by rw [List.length_map, kws.len]
  rw [hlk, List.take_length] at hacc
  refine ⟨D, _, rfl, SqL.of hacc, _, rfl, ?_⟩
  have e3 : (ks.map fun c => decide (3 < c.arity)).any id = (k.subs.filter Kd.isCalls).any (fun c => decide (3 < c.arity)) := by
    rw [List.any_map, any_perm pm]
    rfl
  have s35 := s03.trans (s4.trans s5)
  rw [e3]
  by_cases c2 : (k.subs.filter Kd.isCalls).any (fun c => decide (3 < c.arity)) = true
  · rw [if_pos c2] at eR
    rw [c2]
    exact iteT ⟨_, rfl, mk_NoText (by omega) (refu eR s35)⟩
  rw [if_neg c2] at eR
  rw [Bool.eq_false_iff.mpr c2]
  exact iteF ⟨_, rfl, q k v H5 eR (hv.mono (Tups.of_same (s3.trans (s4.trans s5)))) s35⟩
end
end My
namespace My
open PySem L2
/-! what the reader of kinds finds: just the writings -/
mutual
/-- no answer literals -/
def Kd.bare : Kd → Bool
  | .num => true
  | .text => true
  | .of _ => true
  | .row k => Kd.bare k
  | .calls ps r => Kd.bares ps && Kd.bare r
  | .answers _ _ => false
def Kd.bares : List Kd → Bool
  | [] => true
  | k :: r => Kd.bare k && Kd.bares r
end
theorem nm_of {x : Str} (h : nmOk x = true) : Nm x := by
  unfold nmOk at h
  rw [Bool.and_eq_true_iff, Bool.and_eq_true_iff, Bool.and_eq_true_iff] at h
  obtain ⟨⟨h1, h2, h3⟩, h4⟩ := h
  have h2 := of_decide_eq_true h2
  have h3 := of_decide_eq_true h3
  have h1 : x ∉ (["num", "text"] : List Str) := of_decide_eq_false (by simpa using h1)
  refine ⟨⟨h3, fun c hc => ?_⟩, fun e => ?_, fun e => h1 (by simp [e]), fun e => h1 (by simp [e])⟩
  · have h5 := List.all_eq_true.mp h4 c hc
    rw [in_abc] at h5
    exact of_decide_eq_true h5
  · rw [e] at h2
    exact absurd h2 (by decide)
def Snd (n : Nat) (p : List Nat → Option (Kd × List Nat)) : Prop := ∀ l k r, p l = some (k, r) → l = k.sh ++ r ∧ k.depth ≤ n ∧ (∀ x ∈ k.names, Nm x) ∧ k.bare = true
theorem pre_cons {a : Nat} {l : List Nat} (h : [a] <+: l) : l = a :: l.drop 1 := by
  obtain ⟨t, rfl⟩ := h
  rfl
theorem pl_snd {n : Nat} {p : List Nat → Option (Kd × List Nat)} (f : Snd n p) : ∀ (m : Nat) (l : List Nat) (ks : List Kd) (r : List Nat), pl p m l = some (ks, r) →
    l = Kd.sht ks ++ r ∧ Kd.depths ks ≤ n ∧ (∀ x ∈ Kd.namesL ks, Nm x) ∧ Kd.bares ks = true
  | 0, l, ks, r, h => by
    rw [pl] at h
    injection h with h
    injection h with h1 h2
    subst h1 h2
    exact ⟨rfl, Nat.zero_le _, fun _ hx => (nomatch hx), rfl⟩
  | m + 1, l, ks, r, h => by
    rw [pl] at h
    by_cases c : [44, 32] <+: l
    · rw [if_pos c] at h
      obtain ⟨t, rfl⟩ := c
      have ed : List.drop 2 ([44, 32] ++ t) = t := rfl
      rw [ed] at h
      cases e : p t with
      | none => rw [e] at h; cases h
      | some q =>
        obtain ⟨k, r1⟩ := q
        rw [e] at h
        obtain ⟨a1, a2, a3, a4⟩ := f _ _ _ e
        cases e2 : pl p m r1 with
        | none => simp only [e2] at h; cases h
        | some q2 =>
          obtain ⟨ks2, r2⟩ := q2
          simp only [e2] at h
          injection h with h
          injection h with h3 h4
          subst h3 h4
          obtain ⟨b1, b2, b3, b4⟩ := pl_snd f m _ _ _ e2
          refine ⟨?_, ?_, ?_, ?_⟩
          · rw [a1, b1]
            simp [Kd.sht]
          · rw [Kd.depths]
            omega
          · intro x hx
            rw [Kd.namesL, List.mem_append] at hx
            exact hx.elim (a3 x) (b3 x)
          · rw [Kd.bares, a4, b4]
            rfl
    · rw [if_neg c] at h
      injection h with h
      injection h with h1 h2
      subst h1 h2
      exact ⟨rfl, Nat.zero_le _, fun _ hx => (nomatch hx), rfl⟩
theorem pans_snd {n : Nat} {p : List Nat → Option (Kd × List Nat)} (f : Snd n p) {ks : List Kd} {l r : List Nat} {k : Kd} (h : pans p ks l = some (k, r)) :
    ∃ q, k = .calls ks q ∧ l = q.sh ++ 41 :: r ∧ q.depth ≤ n ∧ (∀ x ∈ q.names, Nm x) ∧ q.bare = true := by
  unfold pans at h
  cases e : p l with
  | none => rw [e] at h; cases h
  | some q =>
    obtain ⟨k1, r1⟩ := q
    rw [e] at h
    obtain ⟨a1, a2, a3, a4⟩ := f _ _ _ e
    by_cases c : [41] <+: r1
    · simp only [if_pos c] at h
      injection h with h
      injection h with h3 h4
      have := pre_cons c
      rw [h4] at this
      rw [this] at a1
      exact ⟨k1, h3.symm, a1, a2, a3, a4⟩
    · simp only [if_neg c] at h
      cases h
theorem pb_snd {n : Nat} {p : List Nat → Option (Kd × List Nat)} (f : Snd n p) {l r : List Nat} {k : Kd} (h : pb p l = some (k, r)) :
    ∃ ps q, k = .calls ps q ∧ l = Kd.shs ps ++ (45 :: 62 :: 32 :: (q.sh ++ 41 :: r)) ∧ Kd.depths ps ≤ n ∧ q.depth ≤ n ∧ (∀ x ∈ Kd.namesL ps, Nm x) ∧ (∀ x ∈ q.names, Nm x) ∧ Kd.bares ps = true ∧ q.bare = true := by
  unfold pb at h
  by_cases c : [45, 62, 32] <+: l
  · rw [if_pos c] at h
    obtain ⟨t, rfl⟩ := c
    obtain ⟨q, h1, h2, h3, h4, h5⟩ := pans_snd f h
    have ed : List.drop 3 ([45, 62, 32] ++ t) = t := rfl
    rw [ed] at h2
    exact ⟨[], q, h1, by rw [h2]; rfl, Nat.zero_le _, h3, fun _ hx => (nomatch hx), h4, rfl, h5⟩
  · rw [if_neg c] at h
    cases e : p l with
    | none => rw [e] at h; cases h
    | some w =>
      obtain ⟨k1, r1⟩ := w
      simp only [e] at h
      obtain ⟨a1, a2, a3, a4⟩ := f _ _ _ e
      cases e2 : pl p r1.length r1 with
      | none => simp only [e2] at h; cases h
      | some q2 =>
        obtain ⟨ks2, r2⟩ := q2
        simp only [e2] at h
        obtain ⟨b1, b2, b3, b4⟩ := pl_snd f _ _ _ _ e2
        by_cases c2 : [32, 45, 62, 32] <+: r2
        · rw [if_pos c2] at h
          obtain ⟨t, rfl⟩ := c2
          obtain ⟨q, h1, h2, h3, h4, h5⟩ := pans_snd f h
          have ed : List.drop 4 ([32, 45, 62, 32] ++ t) = t := rfl
          rw [ed] at h2
          refine ⟨k1 :: ks2, q, h1, ?_, by rw [Kd.depths]; omega, h3, ?_, h4, by rw [Kd.bares, a4, b4]; rfl, h5⟩
          · rw [a1, b1, h2]
            simp [Kd.shs]
          · intro x hx
            rw [Kd.namesL, List.mem_append] at hx
            exact hx.elim (a3 x) (b3 x)
        · rw [if_neg c2] at h
          cases h
theorem ofL_tw (l : List Nat) : cl (ofL (l.takeWhile isLt)) ++ l.dropWhile isLt = l := by
  rw [cl_ofL, List.takeWhile_append_dropWhile]
theorem pk_snd : ∀ n, Snd n (pk n)
  | 0 => fun l k r h => by rw [pk] at h; cases h
  | n + 1 => fun l k r h => by
    rw [pk] at h
    by_cases c : [91] <+: l
    · rw [if_pos c] at h
      have c' := pre_cons c
      cases e : pk n (l.drop 1) with
      | none => rw [e] at h; cases h
      | some q =>
        obtain ⟨k1, r1⟩ := q
        simp only [e] at h
        obtain ⟨a1, a2, a3, a4⟩ := pk_snd n _ _ _ e
        by_cases c2 : [93] <+: r1
        · rw [if_pos c2] at h
          injection h with h
          injection h with h3 h4
          subst h3
          have := pre_cons c2
          rw [h4] at this
          rw [a1, this] at c'
          exact ⟨by rw [c']; simp [Kd.sh], by rw [Kd.depth]; omega, a3, a4⟩
        · rw [if_neg c2] at h
          cases h
    · rw [if_neg c] at h
      by_cases c1 : [40] <+: l
      · rw [if_pos c1] at h
        have c' := pre_cons c1
        obtain ⟨ps, q, rfl, h2, h3, h4, h5, h6, h7, h8⟩ := pb_snd (pk_snd n) h
        refine ⟨?_, ?_, ?_, ?_⟩
        · rw [c', h2]
          simp [Kd.sh]
        · rw [Kd.depth]
          omega
        · intro x hx
          rw [Kd.names, List.mem_append] at hx
          exact hx.elim (h5 x) (h6 x)
        · rw [Kd.bare, h7, h8]
          rfl
      · rw [if_neg c1] at h
        have hw := ofL_tw l
        unfold pword at h
        simp only at h
        generalize ofL (l.takeWhile isLt) = x at *
        generalize l.dropWhile isLt = t at *
        by_cases d1 : x = "num"
        · rw [if_pos d1] at h
          injection h with h
          injection h with h3 h4
          subst h3 h4 d1
          exact ⟨hw.symm, by rw [Kd.depth]; omega, fun _ hx => (nomatch hx), rfl⟩
        · rw [if_neg d1] at h
          by_cases d2 : x = "text"
          · rw [if_pos d2] at h
            injection h with h
            injection h with h3 h4
            subst h3 h4 d2
            exact ⟨hw.symm, by rw [Kd.depth]; omega, fun _ hx => (nomatch hx), rfl⟩
          · rw [if_neg d2] at h
            by_cases d3 : nmOk x = true
            · rw [if_pos d3] at h
              injection h with h
              injection h with h3 h4
              subst h3 h4
              exact ⟨hw.symm, by rw [Kd.depth]; omega, fun y hy => by rw [Kd.names, List.mem_singleton] at hy; rw [hy]; exact nm_of d3, rfl⟩
            · rw [if_neg d3] at h
              cases h
/-! and all of them -/
theorem pword_ok {x : Str} {l : List Nat} (hx : LtA x) (b : Brk l) : pword (cl x ++ l) = if x = "num" then some (.num, l) else if x = "text" then some (.text, l) else if nmOk x = true then some (.of x, l) else none := by
  obtain ⟨t1, t2⟩ := take_word (w := cl x) (l := l) (lt_word hx) b
  unfold pword
  simp only
  rw [t1, t2, ofL_cl]
theorem pk_word {n : Nat} {x : Str} {l : List Nat} (hx : LtA x) (h0 : cl x ≠ []) (b : Brk l) : pk (n + 1) (cl x ++ l) = pword (cl x ++ l) := by
  cases e : cl x with
  | nil => exact absurd e h0
  | cons c r =>
    have hc := hx c (show c ∈ cl x by rw [e]; simp)
    rw [pk, List.cons_append, if_neg (no_pre (by omega)), if_neg (no_pre (by omega))]
theorem pk_flat : ∀ (n : Nat) (k : Kd) (l : List Nat), k.flat = true → k.depth ≤ n → (∀ x ∈ k.names, Nm x) → Brk l → pk n (k.sh ++ l) = some (k, l)
  | 0, k, l, _, hd, _, _ => by
    have := k.depth_inner
    omega
  | n + 1, .num, l, _, _, _, b => by
    have lt : LtA "num" := by intro c hc; revert c; decide
    show pk (n + 1) (cl "num" ++ l) = _
    rw [pk_word lt (by decide) b, pword_ok lt b, if_pos rfl]
  | n + 1, .text, l, _, _, _, b => by
    have lt : LtA "text" := by intro c hc; revert c; decide
    show pk (n + 1) (cl "text" ++ l) = _
    rw [pk_word lt (by decide) b, pword_ok lt b, if_neg (by decide), if_pos rfl]
  | n + 1, .of x, l, _, _, hn, b => by
    have nx := hn x (by simp [Kd.names])
    obtain ⟨c, r, e⟩ := nx.cons
    show pk (n + 1) (cl x ++ l) = _
    rw [pk_word nx.1.2 (by rw [e]; simp) b, pword_ok nx.1.2 b, if_neg nx.2.2.1, if_neg nx.2.2.2, if_pos (nm_ok nx)]
  | n + 1, .row j, l, hf, hd, hn, b => by
    have hd' : j.depth + 1 ≤ n + 1 := hd
    have ih := pk_flat n j (93 :: l) hf (by omega) hn (.cons (by decide))
    have e : Kd.sh (.row j) ++ l = [91] ++ (j.sh ++ 93 :: l) := by simp [Kd.sh]
    rw [e, pk, if_pos (List.prefix_append _ _), show List.drop 1 ([91] ++ (j.sh ++ 93 :: l)) = j.sh ++ 93 :: l from rfl, ih]
    simp only
    exact if_pos ⟨l, rfl⟩
  | n + 1, .calls ps r, l, hf, _, _, _ => by cases hf
  | n + 1, .answers m j, l, hf, _, _, _ => by cases hf
theorem sht_brk (ks : List Kd) (t : List Nat) : Brk (Kd.sht ks ++ 32 :: t) := by
  cases ks with
  | nil => exact .cons (by decide)
  | cons a b => exact .cons (by decide)
theorem pl_flat {n : Nat} (t : List Nat) : ∀ (ks : List Kd) (g : Nat), ks.length ≤ g → ks.all Kd.flat = true → Kd.depths ks ≤ n → (∀ x ∈ Kd.namesL ks, Nm x) → pl (pk n) g (Kd.sht ks ++ 32 :: t) = some (ks, 32 :: t)
  | [], g, _, _, _, _ => by
    show pl (pk n) g (32 :: t) = _
    cases g with
    | zero => rfl
    | succ g => rw [pl, if_neg (no_pre (by decide))]
  | k :: ks, 0, hg, _, _, _ => by simp at hg
  | k :: ks, g + 1, hg, hf, hd, hn => by
    rw [List.all_cons, Bool.and_eq_true_iff] at hf
    rw [Kd.depths] at hd
    have e : Kd.sht (k :: ks) ++ 32 :: t = [44, 32] ++ (k.sh ++ (Kd.sht ks ++ 32 :: t)) := by simp [Kd.sht]
    rw [e, pl, if_pos (List.prefix_append _ _), show List.drop 2 ([44, 32] ++ (k.sh ++ (Kd.sht ks ++ 32 :: t))) = k.sh ++ (Kd.sht ks ++ 32 :: t) from rfl,
      pk_flat n k _ hf.1 (by omega) (fun x hx => hn x (by simp [Kd.namesL, hx])) (sht_brk ks t)]
    simp only
    rw [pl_flat t ks g (by simpa using hg) hf.2 (by omega) fun x hx => hn x (by simp [Kd.namesL, hx])]
theorem sht_ge : ∀ ks : List Kd, ks.length ≤ (Kd.sht ks).length
  | [] => Nat.zero_le _
  | k :: r => by
    have := sht_ge r
    rw [Kd.sht, List.length_cons, List.length_cons, List.length_cons, List.length_append]
    omega
theorem pans_flat {n : Nat} {r : Kd} {ks : List Kd} {l : List Nat} (hf : r.flat = true) (hd : r.depth ≤ n) (hn : ∀ x ∈ r.names, Nm x) : pans (pk n) ks (r.sh ++ 41 :: l) = some (.calls ks r, l) := by
  rw [pans, pk_flat n r _ hf hd hn (.cons (by decide))]
  simp only
  exact if_pos ⟨l, rfl⟩
theorem pk_plain : ∀ (n : Nat) (k : Kd) (l : List Nat), k.plain = true → k.depth ≤ n → (∀ x ∈ k.names, Nm x) → Brk l → pk n (k.sh ++ l) = some (k, l)
  | 0, k, l, _, hd, _, _ => by
    have := k.depth_inner
    omega
  | n + 1, .num, l, _, hd, hn, b => pk_flat _ _ _ rfl hd hn b
  | n + 1, .text, l, _, hd, hn, b => pk_flat _ _ _ rfl hd hn b
  | n + 1, .of x, l, _, hd, hn, b => pk_flat _ _ _ rfl hd hn b
  | n + 1, .row j, l, hf, hd, hn, b => by
    have hd' : j.depth + 1 ≤ n + 1 := hd
    have ih := pk_plain n j (93 :: l) hf (by omega) hn (.cons (by decide))
    have e : Kd.sh (.row j) ++ l = [91] ++ (j.sh ++ 93 :: l) := by simp [Kd.sh]
    rw [e, pk, if_pos (List.prefix_append _ _), show List.drop 1 ([91] ++ (j.sh ++ 93 :: l)) = j.sh ++ 93 :: l from rfl, ih]
    simp only
    exact if_pos ⟨l, rfl⟩
  | n + 1, .answers m j, l, hf, _, _, _ => by cases hf
  | n + 1, .calls ps r, l, hp, hd, hn, b => by
    have hp' : (ps.all Kd.flat && r.flat && decide (ps.length ≤ 3)) = true := hp
    rw [Bool.and_eq_true_iff, Bool.and_eq_true_iff, decide_eq_true_iff] at hp'
    have hd' : max (Kd.depths ps) r.depth + 1 ≤ n + 1 := hd
    have n1 : ∀ x ∈ Kd.namesL ps, Nm x := fun x hx => hn x (by simp [Kd.names, hx])
    have n2 : ∀ x ∈ r.names, Nm x := fun x hx => hn x (by simp [Kd.names, hx])
    have e : Kd.sh (.calls ps r) ++ l = 40 :: (Kd.shs ps ++ (45 :: 62 :: 32 :: (r.sh ++ 41 :: l))) := by simp [Kd.sh]
    rw [e, pk, if_neg (no_pre (by decide)), if_pos ⟨_, rfl⟩, List.drop_succ_cons, List.drop_zero]
    cases ps with
    | nil =>
      show pb (pk n) ([45, 62, 32] ++ (r.sh ++ 41 :: l)) = _
      rw [pb, if_pos (List.prefix_append _ _), show List.drop 3 ([45, 62, 32] ++ (r.sh ++ 41 :: l)) = r.sh ++ 41 :: l from rfl]
      exact pans_flat hp'.1.2 (by omega) n2
    | cons k ks =>
      have hf := hp'.1.1
      rw [List.all_cons, Bool.and_eq_true_iff] at hf
      rw [Kd.depths] at hd'
      generalize ht : (45 :: 62 :: 32 :: (r.sh ++ 41 :: l)) = t
      have e2 : Kd.shs (k :: ks) ++ t = k.sh ++ (Kd.sht ks ++ 32 :: t) := by simp [Kd.shs]
      have nk : ∀ x ∈ k.names, Nm x := fun x hx => n1 x (by simp [Kd.namesL, hx])
      have no : ¬ [45, 62, 32] <+: k.sh ++ (Kd.sht ks ++ 32 :: t) := by
        obtain ⟨c, s, e1, e3, _⟩ := Kd.sh_head (Kd.plain_of_flat hf.1) nk
        rw [e1]
        refine no_pre ?_
        rintro rfl
        rcases e3 with e3 | e3 | e3
        · exact absurd e3 (by decide)
        · exact absurd e3 (by decide)
        · exact absurd e3 (by decide)
      rw [e2, pb, if_neg no, pk_flat n k _ hf.1 (by omega) nk (sht_brk ks t)]
      simp only
      rw [pl_flat t ks _ (by have := sht_ge ks; rw [List.length_append]; omega) hf.2 (by omega) fun x hx => n1 x (by simp [Kd.namesL, hx])]
      simp only
      rw [← ht, if_pos ⟨_, rfl⟩]
      show pans (pk n) (k :: ks) (r.sh ++ 41 :: l) = _
      exact pans_flat hp'.1.2 (by omega) n2
/-! what the last look lets by -/
theorem flat_of_no : ∀ (k : Kd), k.bare = true → k.subs.filter Kd.isCalls = [] → k.flat = true
  | .num, _, _ => rfl
  | .text, _, _ => rfl
  | .of _, _, _ => rfl
  | .row j, h, e => by
    refine flat_of_no j h ?_
    have : (Kd.row j :: j.subs).filter Kd.isCalls = [] := e
    rw [List.filter_cons_of_neg (by simp [Kd.isCalls])] at this
    exact this
  | .calls ps r, _, e => by
    have : (Kd.calls ps r :: (Kd.subsL ps ++ r.subs)).filter Kd.isCalls = [] := e
    rw [List.filter_cons_of_pos (by rfl)] at this
    cases this
  | .answers _ _, h, _ => by cases h
theorem flats_of_no : ∀ (ks : List Kd), Kd.bares ks = true → (Kd.subsL ks).filter Kd.isCalls = [] → ks.all Kd.flat = true
  | [], _, _ => rfl
  | k :: r, h, e => by
    rw [Kd.bares, Bool.and_eq_true_iff] at h
    have e : (k.subs ++ Kd.subsL r).filter Kd.isCalls = [] := e
    rw [List.filter_append, List.append_eq_nil_iff] at e
    rw [List.all_cons, flat_of_no k h.1 e.1, flats_of_no r h.2 e.2]
    rfl
theorem plain_of_look : ∀ (k : Kd), k.bare = true → k.ccc = false → (k.subs.filter Kd.isCalls).any (fun c => decide (3 < c.arity)) = false → k.plain = true
  | .num, _, _, _ => rfl
  | .text, _, _, _ => rfl
  | .of _, _, _, _ => rfl
  | .row j, h, c, a => by
    have e : (Kd.row j).subs.filter Kd.isCalls = j.subs.filter Kd.isCalls := by
      show (Kd.row j :: j.subs).filter Kd.isCalls = _
      rw [List.filter_cons_of_neg (by simp [Kd.isCalls])]
    unfold Kd.ccc at c
    rw [e] at c a
    exact plain_of_look j h c a
  | .calls ps r, h, c, a => by
    rw [Kd.bare, Bool.and_eq_true_iff] at h
    have e : (Kd.calls ps r).subs.filter Kd.isCalls = Kd.calls ps r :: ((Kd.subsL ps).filter Kd.isCalls ++ r.subs.filter Kd.isCalls) := by
      show (Kd.calls ps r :: (Kd.subsL ps ++ r.subs)).filter Kd.isCalls = _
      rw [List.filter_cons_of_pos (by rfl), List.filter_append]
    unfold Kd.ccc at c
    rw [e, List.any_cons, Bool.or_eq_false_iff] at c a
    have c1 := of_decide_eq_false c.1
    have a1 : ¬ 3 < ps.length := of_decide_eq_false a.1
    rw [e, List.length_cons] at c1
    have e0 : (Kd.subsL ps).filter Kd.isCalls ++ r.subs.filter Kd.isCalls = [] := List.eq_nil_of_length_eq_zero (by omega)
    rw [List.append_eq_nil_iff] at e0
    show (ps.all Kd.flat && r.flat && decide (ps.length ≤ 3)) = true
    rw [flats_of_no ps h.1 e0.1, flat_of_no r h.2 e0.2, decide_eq_true (by omega)]
    rfl
  | .answers _ _, h, _, _ => by cases h
/-- what a text of a kind is -/
def Wr (d : Nat) (l : List Nat) (k : Kd) : Prop := l = k.sh ∧ k.plain = true ∧ k.depth ≤ d ∧ ∀ x ∈ k.names, Nm x
theorem rdK_iff (tx : Str) (k : Kd) : rdK tx = some k ↔ Wr 5 (cl tx) k := by
  constructor
  · intro h
    unfold rdK at h
    cases e : pk 5 (cl tx) with
    | none => rw [e] at h; cases h
    | some q =>
      obtain ⟨j, r⟩ := q
      rw [e] at h
      cases r with
      | cons a b => cases h
      | nil =>
        simp only at h
        obtain ⟨a1, a2, a3, a4⟩ := pk_snd 5 _ _ _ e
        by_cases c1 : j.ccc = true
        · rw [if_pos c1] at h
          cases h
        rw [if_neg c1] at h
        by_cases c2 : (j.subs.filter Kd.isCalls).any (fun c => decide (3 < c.arity)) = true
        · rw [if_pos c2] at h
          cases h
        rw [if_neg c2] at h
        injection h with h
        subst h
        rw [List.append_nil] at a1
        exact ⟨a1, plain_of_look j a4 (Bool.eq_false_iff.mpr c1) (Bool.eq_false_iff.mpr c2), a2, a3⟩
  · rintro ⟨h1, h2, h3, h4⟩
    have e := pk_plain 5 k [] h2 h3 h4 .nil
    rw [List.append_nil, ← h1] at e
    have e1 : k.ccc = false := by
      unfold Kd.ccc
      rcases plain_calls h2 with e | ⟨c, e, e2, _⟩
      · rw [e]
        rfl
      · rw [e, List.any_cons, e2]
        rfl
    have e2 : (k.subs.filter Kd.isCalls).any (fun c => decide (3 < c.arity)) = false := by
      rcases plain_calls h2 with e | ⟨c, e, _, e2⟩
      · rw [e]
        rfl
      · rw [e, List.any_cons, decide_eq_false (by omega)]
        rfl
    unfold rdK
    rw [e]
    simp only
    rw [e1, e2]
    rfl
end My
namespace My
open PySem L2
/-! the law's own reader: just the writings, too -/
def lst1 (l : List Nat) : List Nat := l.drop (l.length - 1)
def mid (l : List Nat) : List Nat := (l.take (l.length - 1)).drop 1
theorem lst1_wrap (a b : Nat) (m : List Nat) : lst1 (a :: (m ++ [b])) = [b] := by
  unfold lst1
  have : (a :: (m ++ [b])).length - 1 = (a :: m).length := by simp
  rw [this, ← List.cons_append, List.drop_left]
theorem mid_wrap (a b : Nat) (m : List Nat) : mid (a :: (m ++ [b])) = m := by
  unfold mid
  have : (a :: (m ++ [b])).length - 1 = (a :: m).length := by simp
  rw [this, ← List.cons_append, List.take_left]
  rfl
theorem snoc_of {l : List Nat} (h : l ≠ []) : ∃ m b, l = m ++ [b] := ⟨l.dropLast, l.getLast h, (List.dropLast_concat_getLast h).symm⟩
theorem lst1_snoc (m : List Nat) (b : Nat) : lst1 (m ++ [b]) = [b] := by
  unfold lst1
  have : (m ++ [b]).length - 1 = m.length := by simp
  rw [this, List.drop_left]
theorem cut1_snoc (m : List Nat) (b : Nat) : (m ++ [b]).take ((m ++ [b]).length - 1) = m := by
  have : (m ++ [b]).length - 1 = m.length := by simp
  rw [this, List.take_left]
theorem wrap_of {a b : Nat} {l : List Nat} (ne : a ≠ b) (h1 : l.take 1 = [a]) (h2 : lst1 l = [b]) : l = a :: (mid l ++ [b]) := by
  cases l with
  | nil => cases h1
  | cons c r =>
    have e1 : c = a := by
      have : [c] = [a] := h1
      injection this
    subst e1
    by_cases hr : r = []
    · subst hr
      have : [c] = [b] := h2
      injection this with e
      exact absurd e ne
    · obtain ⟨m, d, rfl⟩ := snoc_of hr
      rw [lst1_wrap] at h2
      injection h2 with e
      rw [mid_wrap, e]
/-- a kind without callbacks -/
def lfd : Nat → List Nat → Option Kd
  | 0, _ => none
  | d + 1, l => if l = cl "num" then some .num else if l = cl "text" then some .text
    else if l.take 1 = [91] ∧ lst1 l = [93] ∧ 0 < d then (lfd d (mid l)).map .row
    else if nmOk (ofL l) = true then some (.of (ofL l)) else none
def Wf (d : Nat) (l : List Nat) (k : Kd) : Prop := l = k.sh ∧ k.flat = true ∧ k.depth ≤ d ∧ ∀ x ∈ k.names, Nm x
theorem row_sh (j : Kd) : (Kd.row j).sh = 91 :: (j.sh ++ [93]) := by rw [Kd.sh]
theorem take1 (a : Nat) (r : List Nat) : (a :: r).take 1 = [a] := rfl
theorem lfd_iff : ∀ (d : Nat) (l : List Nat) (k : Kd), lfd d l = some k ↔ Wf d l k
  | 0, l, k => by
    refine ⟨fun h => (nomatch h), fun ⟨_, _, h, _⟩ => ?_⟩
    have := k.depth_inner
    omega
  | d + 1, l, k => by
    constructor
    · intro h
      rw [lfd] at h
      by_cases c1 : l = cl "num"
      · rw [if_pos c1] at h
        injection h with h
        subst h
        exact ⟨c1, rfl, by rw [Kd.depth]; omega, fun _ hx => (nomatch hx)⟩
      rw [if_neg c1] at h
      by_cases c2 : l = cl "text"
      · rw [if_pos c2] at h
        injection h with h
        subst h
        exact ⟨c2, rfl, by rw [Kd.depth]; omega, fun _ hx => (nomatch hx)⟩
      rw [if_neg c2] at h
      by_cases c3 : l.take 1 = [91] ∧ lst1 l = [93] ∧ 0 < d
      · rw [if_pos c3, Option.map_eq_some_iff] at h
        obtain ⟨j, hj, rfl⟩ := h
        obtain ⟨a1, a2, a3, a4⟩ := (lfd_iff d _ j).mp hj
        refine ⟨?_, a2, by rw [Kd.depth]; omega, a4⟩
        rw [row_sh, ← a1]
        exact wrap_of (by decide) c3.1 c3.2.1
      rw [if_neg c3] at h
      by_cases c4 : nmOk (ofL l) = true
      · rw [if_pos c4] at h
        injection h with h
        subst h
        refine ⟨by rw [Kd.sh, cl_ofL], rfl, by rw [Kd.depth]; omega, fun x hx => ?_⟩
        rw [Kd.names, List.mem_singleton] at hx
        rw [hx]
        exact nm_of c4
      · rw [if_neg c4] at h
        cases h
    · rintro ⟨rfl, h2, h3, h4⟩
      rw [lfd]
      cases k with
      | num => exact if_pos rfl
      | text =>
        rw [if_neg (show ¬ Kd.text.sh = cl "num" by decide)]
        exact if_pos rfl
      | of x =>
        have nx := h4 x (by simp [Kd.names])
        have e : (Kd.of x).sh = cl x := by rw [Kd.sh]
        rw [e, if_neg (fun h => nx.2.2.1 (str_ext h)), if_neg (fun h => nx.2.2.2 (str_ext h)), if_neg, ofL_cl, if_pos (nm_ok nx)]
        rintro ⟨h, _⟩
        obtain ⟨c, r, ec⟩ := nx.cons
        have hc := nx.1.2 c (show c ∈ cl x by rw [ec]; simp)
        rw [ec, take1] at h
        injection h with h
        omega
      | row j =>
        have h3 : j.depth + 1 ≤ d + 1 := h3
        have hj := j.depth_inner
        rw [row_sh, if_neg (fun h => by cases h), if_neg (fun h => by cases h), if_pos ⟨rfl, lst1_wrap _ _ _, by omega⟩, mid_wrap, (lfd_iff d j.sh j).mpr ⟨rfl, h2, by omega, h4⟩]
        rfl
      | calls ps r => cases h2
      | answers n j => cases h2
/-- the parts of a callback -/
def lcl (d : Nat) (ws : List (List Nat)) : Option Kd := match ws with
  | [w0, w1] => if w0 ≠ [] ∧ lst1 w0 ≠ [32] then none else
    let called := if w0 = [] then [] else (TL.spl [44, 32] 0 [] (w0.take (w0.length - 1))).map (lfd d)
    if (called.any Option.isNone || ((lfd d w1).isNone || decide (3 < called.length))) = true then none else (lfd d w1).map (.calls (called.filterMap id))
  | _ => none
def lrest (d : Nat) (l : List Nat) : Option Kd := if l.take 1 ≠ [40] then lfd (d + 1) l
    else if lst1 l ≠ [41] ∨ l.length < 6 then none
    else lcl d (TL.spl [45, 62, 32] 0 [] (mid l))
def lkd : Nat → List Nat → Option Kd
  | 0, l => lrest 0 l
  | e + 1, l => if l.take 1 = [91] ∧ lst1 l = [93] then (lkd e (mid l)).map .row else lrest (e + 1) l
theorem joinL_glue (S : List Nat) : ∀ (p : List Nat) (r : List (List Nat)), TL.joinL S (p :: r) = p ++ r.flatMap fun y => S ++ y
  | p, [] => by simp [TL.joinL]
  | p, q :: r => by
    show p ++ (S ++ TL.joinL S (q :: r)) = _
    rw [joinL_glue S q r]
    simp
theorem spl_joined {S : List Nat} (hS : S ≠ []) : ∀ (n : Nat) (l acc : List Nat), l.length ≤ n → TL.joinL S (TL.spl S 0 acc l) = acc ++ l ∧ TL.spl S 0 acc l ≠ []
  | n, [], acc, _ => by
    rw [TL.spl_nil]
    exact ⟨by simp [TL.joinL], by simp⟩
  | 0, c :: r, acc, h => by simp at h
  | n + 1, c :: r, acc, h => by
    rw [List.length_cons] at h
    cases hp : TL.pre S (c :: r) with
    | true =>
      rw [TL.spl_hit hp, TL.spl_pass]
      have e : (c :: r).take S.length = S := eq_of_beq hp
      have ls : 1 ≤ S.length := List.length_pos_iff.mpr hS
      have e2 : r.drop (S.length - 1) = (c :: r).drop S.length := by
        obtain ⟨m, hm⟩ : ∃ m, S.length = m + 1 := ⟨S.length - 1, by omega⟩
        rw [hm, List.drop_succ_cons]
        rfl
      have e3 : c :: r = S ++ (c :: r).drop S.length := by
        have := List.take_append_drop S.length (c :: r)
        rw [e] at this
        exact this.symm
      obtain ⟨ih, ih2⟩ := spl_joined hS n (r.drop (S.length - 1)) [] (by rw [List.length_drop]; omega)
      refine ⟨?_, by simp⟩
      cases hx : TL.spl S 0 [] (r.drop (S.length - 1)) with
      | nil => exact absurd hx ih2
      | cons q t =>
        rw [hx] at ih
        show acc ++ (S ++ TL.joinL S (q :: t)) = _
        rw [ih, List.nil_append, e2, ← e3]
    | false =>
      rw [TL.spl_miss hp]
      obtain ⟨ih, ih2⟩ := spl_joined hS n r (acc ++ [c]) (by omega)
      exact ⟨by rw [ih]; simp, ih2⟩
theorem all_some {d : Nat} : ∀ {ws : List (List Nat)}, (ws.map (lfd d)).any Option.isNone = false → ∃ ks : List Kd, (ws.map (lfd d)).filterMap id = ks ∧ ws = ks.map Kd.sh ∧ ks.all Kd.flat = true ∧ Kd.depths ks ≤ d ∧ ∀ x ∈ Kd.namesL ks, Nm x
  | [], _ => ⟨[], rfl, rfl, rfl, Nat.zero_le _, fun _ hx => (nomatch hx)⟩
  | w :: ws, h => by
    rw [List.map_cons, List.any_cons, Bool.or_eq_false_iff] at h
    obtain ⟨ks, h1, h2, h3, h4, h5⟩ := all_some h.2
    cases e : lfd d w with
    | none =>
      rw [e] at h
      exact absurd h.1 (by decide)
    | some k =>
      obtain ⟨a1, a2, a3, a4⟩ := (lfd_iff d w k).mp e
      refine ⟨k :: ks, ?_, by rw [List.map_cons, ← h2, ← a1], by rw [List.all_cons, a2, h3]; rfl, by rw [Kd.depths]; omega, fun x hx => ?_⟩
      · rw [List.map_cons, e, ← h1]
        rfl
      · rw [Kd.namesL, List.mem_append] at hx
        exact hx.elim (a4 x) (h5 x)
theorem map_some {d : Nat} : ∀ {ks : List Kd}, ks.all Kd.flat = true → Kd.depths ks ≤ d → (∀ x ∈ Kd.namesL ks, Nm x) → (ks.map Kd.sh).map (lfd d) = ks.map some
  | [], _, _, _ => rfl
  | k :: ks, h1, h2, h3 => by
    rw [List.all_cons, Bool.and_eq_true_iff] at h1
    rw [Kd.depths] at h2
    rw [List.map_cons, List.map_cons, List.map_cons, (lfd_iff d k.sh k).mpr ⟨rfl, h1.1, by omega, fun x hx => h3 x (by simp [Kd.namesL, hx])⟩, map_some h1.2 (by omega) fun x hx => h3 x (by simp [Kd.namesL, hx])]
theorem shs_cons (k : Kd) (ks : List Kd) : Kd.shs (k :: ks) = TL.joinL [44, 32] ((k :: ks).map Kd.sh) ++ [32] := by
  rw [List.map_cons, joinL_glue, Kd.shs, Kd.sht_glue]
  simp
/-- a flat writing has letters and brackets alone -/
theorem flat_signs : ∀ (k : Kd), k.flat = true → (∀ x ∈ k.names, Nm x) → ∀ c ∈ k.sh, isLt c = true ∨ c = 91 ∨ c = 93
  | .num, _, _, c, hc => .inl (by revert c; decide)
  | .text, _, _, c, hc => .inl (by revert c; decide)
  | .of x, _, hn, c, hc => .inl (lt_word (hn x (by simp [Kd.names])).1.2 c (by rw [Kd.sh] at hc; exact hc))
  | .row j, hf, hn, c, hc => by
    rw [row_sh, List.mem_cons, List.mem_append, List.mem_singleton] at hc
    rcases hc with h | h | h
    · exact .inr (.inl h)
    · exact flat_signs j hf hn c h
    · exact .inr (.inr h)
  | .calls _ _, hf, _, _, _ => by cases hf
  | .answers _ _, hf, _, _, _ => by cases hf
theorem flat_no {k : Kd} {c : Nat} (hf : k.flat = true) (hn : ∀ x ∈ k.names, Nm x) (h : isLt c = false) (h1 : c ≠ 91) (h2 : c ≠ 93) : c ∉ k.sh := fun hc => by
  rcases flat_signs k hf hn c hc with e | e | e
  · rw [h] at e
    cases e
  · exact h1 e
  · exact h2 e
theorem sht_signs : ∀ (ks : List Kd), ks.all Kd.flat = true → (∀ x ∈ Kd.namesL ks, Nm x) → 45 ∉ Kd.sht ks
  | [], _, _ => fun h => (nomatch h)
  | k :: r, hf, hn => by
    rw [List.all_cons, Bool.and_eq_true_iff] at hf
    intro h
    rw [Kd.sht, List.mem_cons, List.mem_cons, List.mem_append] at h
    rcases h with h | h | h | h
    · exact absurd h (by decide)
    · exact absurd h (by decide)
    · exact flat_no hf.1 (fun x hx => hn x (by simp [Kd.namesL, hx])) (by decide) (by decide) (by decide) h
    · exact sht_signs r hf.2 (fun x hx => hn x (by simp [Kd.namesL, hx])) h
theorem shs_signs : ∀ (ks : List Kd), ks.all Kd.flat = true → (∀ x ∈ Kd.namesL ks, Nm x) → 45 ∉ Kd.shs ks
  | [], _, _ => fun h => (nomatch h)
  | k :: r, hf, hn => by
    rw [List.all_cons, Bool.and_eq_true_iff] at hf
    intro h
    rw [Kd.shs, List.mem_append, List.mem_append, List.mem_singleton] at h
    rcases h with h | h | h
    · exact flat_no hf.1 (fun x hx => hn x (by simp [Kd.namesL, hx])) (by decide) (by decide) (by decide) h
    · exact sht_signs r hf.2 (fun x hx => hn x (by simp [Kd.namesL, hx])) h
    · exact absurd h (by decide)
theorem lcl_some {d : Nat} {ws : List (List Nat)} {k : Kd} (h : lcl d ws = some k) : ∃ ps r, k = .calls ps r ∧ ws = [Kd.shs ps, r.sh] ∧ ps.all Kd.flat = true ∧ r.flat = true ∧ ps.length ≤ 3 ∧ Kd.depths ps ≤ d ∧ r.depth ≤ d ∧ (∀ x ∈ Kd.namesL ps, Nm x) ∧ ∀ x ∈ r.names, Nm x := by
  match ws, h with
  | [w0, w1], h =>
    unfold lcl at h
    simp only at h
    by_cases c0 : w0 ≠ [] ∧ lst1 w0 ≠ [32]
    · rw [if_pos c0] at h
      cases h
    rw [if_neg c0] at h
    generalize ec : (if w0 = [] then [] else (TL.spl [44, 32] 0 [] (w0.take (w0.length - 1))).map (lfd d)) = called at h
    by_cases c1 : (called.any Option.isNone || ((lfd d w1).isNone || decide (3 < called.length))) = true
    · rw [if_pos c1] at h
      cases h
    rw [if_neg c1, Option.map_eq_some_iff] at h
    obtain ⟨r, hr, rfl⟩ := h
    rw [Bool.not_eq_true, Bool.or_eq_false_iff, Bool.or_eq_false_iff, decide_eq_false_iff_not] at c1
    obtain ⟨a1, a2, a3, a4⟩ := (lfd_iff d w1 r).mp hr
    by_cases c2 : w0 = []
    · rw [if_pos c2] at ec
      subst ec c2
      exact ⟨[], r, rfl, by rw [a1]; rfl, rfl, a2, Nat.zero_le _, Nat.zero_le _, a3, fun _ hx => (nomatch hx), a4⟩
    · rw [if_neg c2] at ec
      obtain ⟨m, b, rfl⟩ := snoc_of c2
      rw [lst1_snoc] at c0
      rw [cut1_snoc] at ec
      have hb : b = 32 := by
        by_cases e : b = 32
        · exact e
        · exact absurd ⟨c2, by simpa using e⟩ c0
      subst hb
      subst ec
      obtain ⟨ks, h1, h2, h3, h4, h5⟩ := all_some c1.1
      obtain ⟨j1, j2⟩ := spl_joined (S := [44, 32]) (by simp) m.length m [] (Nat.le_refl _)
      rw [h2, List.nil_append] at j1
      have hk : ks ≠ [] := by
        rintro rfl
        exact j2 (by rw [h2]; rfl)
      have hlen : ks.length ≤ 3 := by
        have := c1.2.2
        rw [List.length_map, h2, List.length_map] at this
        omega
      refine ⟨ks, r, by rw [h1], ?_, h3, a2, hlen, h4, a3, h5, a4⟩
      rw [← a1]
      cases ks with
      | nil => exact absurd rfl hk
      | cons k0 kr => rw [shs_cons, j1]
theorem calls_sh (ps : List Kd) (r : Kd) : (Kd.calls ps r).sh = 40 :: ((Kd.shs ps ++ ([45, 62, 32] ++ r.sh)) ++ [41]) := by
  rw [Kd.sh]
  simp
theorem lrest_some {d : Nat} {l : List Nat} {k : Kd} (h : lrest d l = some k) : Wr (d + 1) l k := by
  unfold lrest at h
  by_cases c1 : l.take 1 ≠ [40]
  · rw [if_pos c1] at h
    obtain ⟨a1, a2, a3, a4⟩ := (lfd_iff _ _ _).mp h
    exact ⟨a1, Kd.plain_of_flat a2, a3, a4⟩
  rw [if_neg c1] at h
  by_cases c2 : lst1 l ≠ [41] ∨ l.length < 6
  · rw [if_pos c2] at h
    cases h
  rw [if_neg c2] at h
  rw [not_or] at c2
  have e1 : l.take 1 = [40] := Decidable.not_not.mp c1
  have e2 : lst1 l = [41] := Decidable.not_not.mp c2.1
  obtain ⟨ps, r, rfl, h1, h2, h3, h4, h5, h6, h7, h8⟩ := lcl_some h
  have e3 := (spl_joined (S := [45, 62, 32]) (by simp) (mid l).length (mid l) [] (Nat.le_refl _)).1
  rw [h1, List.nil_append] at e3
  have e3 : Kd.shs ps ++ ([45, 62, 32] ++ r.sh) = mid l := e3
  refine ⟨?_, ?_, ?_, ?_⟩
  · rw [calls_sh, e3]
    exact wrap_of (by decide) e1 e2
  · show (ps.all Kd.flat && r.flat && decide (ps.length ≤ 3)) = true
    rw [h2, h3, decide_eq_true h4]
    rfl
  · rw [Kd.depth]
    omega
  · intro x hx
    rw [Kd.names, List.mem_append] at hx
    exact hx.elim (h7 x) (h8 x)
theorem sh_ne {k : Kd} (hp : k.plain = true) (hn : ∀ x ∈ k.names, Nm x) : 1 ≤ k.sh.length := by
  obtain ⟨c, r, e, _⟩ := Kd.sh_head hp hn
  rw [e, List.length_cons]
  omega
theorem lrest_of {d : Nat} {k : Kd} (h : Wr (d + 1) k.sh k) (nr : ∀ j, k ≠ .row j) : lrest d k.sh = some k := by
  obtain ⟨-, h2, h3, h4⟩ := h
  have flat : k.flat = true → k.sh.take 1 ≠ [40] → lrest d k.sh = some k := fun hf ht => by
    unfold lrest
    rw [if_pos ht]
    exact (lfd_iff _ _ _).mpr ⟨rfl, hf, h3, h4⟩
  cases k with
  | num => exact flat rfl (by decide)
  | text => exact flat rfl (by decide)
  | of x =>
    refine flat rfl ?_
    have nx := h4 x (by simp [Kd.names])
    obtain ⟨c, r, ec⟩ := nx.cons
    have hc := nx.1.2 c (show c ∈ cl x by rw [ec]; simp)
    rw [Kd.sh, ec, take1]
    intro h
    injection h with h
    omega
  | row j => exact absurd rfl (nr j)
  | answers n j => cases h2
  | calls ps r =>
    have hp' : (ps.all Kd.flat && r.flat && decide (ps.length ≤ 3)) = true := h2
    rw [Bool.and_eq_true_iff, Bool.and_eq_true_iff, decide_eq_true_iff] at hp'
    have h3 : max (Kd.depths ps) r.depth + 1 ≤ d + 1 := h3
    have n1 : ∀ x ∈ Kd.namesL ps, Nm x := fun x hx => h4 x (by simp [Kd.names, hx])
    have n2 : ∀ x ∈ r.names, Nm x := fun x hx => h4 x (by simp [Kd.names, hx])
    have lr := sh_ne (Kd.plain_of_flat hp'.1.2) n2
    have s1 := shs_signs ps hp'.1.1 n1
    have s2 : 45 ∉ r.sh := flat_no hp'.1.2 n2 (by decide) (by decide) (by decide)
    have es : TL.spl [45, 62, 32] 0 [] (Kd.shs ps ++ ([45, 62, 32] ++ r.sh)) = [Kd.shs ps, r.sh] := by
      rw [TL.spl_part1 s1, TL.spl_last1 s2]
      rfl
    unfold lrest
    rw [calls_sh, if_neg (fun h => h rfl), if_neg, mid_wrap, es]
    rotate_left
    · rintro (h | h)
      · exact h (lst1_wrap _ _ _)
      · simp at h
        omega
    have e1 := (lfd_iff d r.sh r).mpr ⟨rfl, hp'.1.2, by omega, n2⟩
    unfold lcl
    simp only
    cases ps with
    | nil =>
      rw [if_neg (fun h => h.1 rfl), if_pos (show Kd.shs [] = [] from rfl), e1]
      rfl
    | cons k ks =>
      have ne : Kd.shs (k :: ks) ≠ [] := by rw [shs_cons]; simp
      have ec : TL.spl [44, 32] 0 [] ((Kd.shs (k :: ks)).take ((Kd.shs (k :: ks)).length - 1)) = (k :: ks).map Kd.sh := by
        rw [shs_cons, cut1_snoc]
        refine TL.spl_join (by simp) fun p hp => ?_
        obtain ⟨j, hj, rfl⟩ := List.mem_map.mp hp
        exact flat_no (List.all_eq_true.mp hp'.1.1 j hj) (fun x hx => n1 x (Kd.namesL_mem hj hx)) (by decide) (by decide) (by decide)
      have el : lst1 (Kd.shs (k :: ks)) = [32] := by rw [shs_cons, lst1_snoc]
      rw [if_neg (fun h => h.2 el), if_neg ne, ec, map_some hp'.1.1 (by omega) n1, e1]
      have e2 : ((k :: ks).map some).any Option.isNone = false := by
        rw [List.any_map]
        exact List.any_eq_false.mpr fun x _ => by simp
      rw [e2, List.length_map, decide_eq_false (by omega)]
      show some (Kd.calls (((k :: ks).map some).filterMap id) r) = _
      rw [List.filterMap_map]
      simp
theorem lkd_iff : ∀ (d : Nat) (l : List Nat) (k : Kd), lkd d l = some k ↔ Wr (d + 1) l k
  | 0, l, k => by
    rw [lkd]
    refine ⟨lrest_some, fun h => ?_⟩
    obtain rfl := h.1
    refine lrest_of h fun j e => ?_
    subst e
    have h3 : j.depth + 1 ≤ 0 + 1 := h.2.2.1
    have := j.depth_inner
    omega
  | e + 1, l, k => by
    rw [lkd]
    by_cases c : l.take 1 = [91] ∧ lst1 l = [93]
    · rw [if_pos c, Option.map_eq_some_iff]
      have el := wrap_of (by decide) c.1 c.2
      constructor
      · rintro ⟨j, hj, rfl⟩
        obtain ⟨a1, a2, a3, a4⟩ := (lkd_iff e _ j).mp hj
        exact ⟨by rw [row_sh, ← a1]; exact el, a2, by rw [Kd.depth]; omega, a4⟩
      · rintro ⟨h1, h2, h3, h4⟩
        cases k with
        | row j =>
          have h3 : j.depth + 1 ≤ e + 1 + 1 := h3
          refine ⟨j, (lkd_iff e _ j).mpr ⟨?_, h2, by omega, h4⟩, rfl⟩
          rw [h1, row_sh, mid_wrap]
        | num =>
          rw [h1] at c
          exact absurd c.1 (by decide)
        | text =>
          rw [h1] at c
          exact absurd c.1 (by decide)
        | of x =>
          have nx := h4 x (by simp [Kd.names])
          obtain ⟨a, r, ec⟩ := nx.cons
          have hc := nx.1.2 a (show a ∈ cl x by rw [ec]; simp)
          have h1 : l = cl x := by rw [h1, Kd.sh]
          have c1 := c.1
          rw [h1, ec, take1] at c1
          injection c1 with h
          omega
        | calls ps r =>
          rw [h1, calls_sh] at c
          exact absurd c.1 (by rw [take1]; decide)
        | answers n j => cases h2
    · rw [if_neg c]
      refine ⟨lrest_some, fun h => ?_⟩
      obtain rfl := h.1
      refine lrest_of h fun j ej => ?_
      subst ej
      refine c ?_
      rw [row_sh]
      exact ⟨rfl, lst1_wrap _ _ _⟩
theorem law_reads (tx : Str) : lkd 4 (cl tx) = rdK tx := by
  cases e : rdK tx with
  | some k => exact (lkd_iff 4 _ k).mpr ((rdK_iff tx k).mp e)
  | none =>
    cases e2 : lkd 4 (cl tx) with
    | none => rfl
    | some k =>
      rw [(rdK_iff tx k).mpr ((lkd_iff 4 _ k).mp e2)] at e
      cases e
end My
namespace My
open PySem L2
/-! texts spoilt -/
theorem at_some {α : Type} {xs : List α} {r : Int} (h0 : 0 ≤ r) (h1 : r < (xs.length : Int)) : ∃ v, v ∈ xs ∧ atI xs r = some v := by
  have hj : r.toNat < xs.length := by omega
  refine ⟨xs[r.toNat], List.getElem_mem hj, ?_⟩
  have e : ((r.toNat : Nat) : Int) = r := by omega
  have := atI_nat (List.getElem?_eq_getElem hj)
  rw [e] at this
  exact this
def okV (n : Nat) : V → Bool
  | .str z => decide (z.length ≤ n)
  | _ => false
theorem okV_of {n : Nat} {v : V} {xs : List V} (h : xs.all (okV n) = true) (m : v ∈ xs) : ∃ z : Str, v = .str z ∧ z.length ≤ n := by
  have := List.all_eq_true.mp h v m
  cases v with
  | str z => exact ⟨z, rfl, of_decide_eq_true this⟩
  | _ => cases this
theorem joinL_len (S : List Nat) : ∀ ps : List (List Nat), ps ≠ [] → (TL.joinL S ps).length + S.length = (ps.map (·.length)).sum + ps.length * S.length
  | [], h => absurd rfl h
  | [p], _ => by simp [TL.joinL]
  | p :: q :: r, _ => by
    have ih := joinL_len S (q :: r) (by simp)
    show (p ++ (S ++ TL.joinL S (q :: r))).length + _ = _
    rw [List.length_append, List.length_append, List.map_cons, List.sum_cons, List.length_cons, Nat.succ_mul]
    omega
theorem split_blank (a : Str) : Txt.split a " " ≠ [] ∧ ((Txt.split a " ").map (·.length)).sum + (Txt.split a " ").length = a.length + 1 := by
  have e := TL.split_spl a " " (by decide) (TL.kind_ok (by decide +kernel))
  have et : TL.tl (" " : Str) = [32] := rfl
  rw [et] at e
  obtain ⟨j1, j2⟩ := spl_joined (S := [32]) (by simp) (TL.tl a).length (TL.tl a) [] (Nat.le_refl _)
  rw [← e] at j1 j2
  have hl := joinL_len [32] _ j2
  rw [j1, List.nil_append, List.map_map, List.length_map] at hl
  have e2 : ((fun x : List Nat => x.length) ∘ TL.tl) = fun x : Str => x.length := funext fun x => (TL.len_tl x).symm
  rw [e2, ← TL.len_tl] at hl
  refine ⟨fun z => j2 (by rw [z]; rfl), ?_⟩
  have : ([32] : List Nat).length = 1 := rfl
  rw [this] at hl
  omega
theorem set_sum {n : Nat} {z : Str} (hz : z.length ≤ n) : ∀ (ys : List Str) (j : Nat), ((ys.set j z).map (·.length)).sum ≤ (ys.map (·.length)).sum + n
  | [], j => by simp
  | y :: r, 0 => by
    rw [List.set_cons_zero, List.map_cons, List.map_cons, List.sum_cons, List.sum_cons]
    omega
  | y :: r, j + 1 => by
    have := set_sum hz r j
    rw [List.set_cons_succ, List.map_cons, List.map_cons, List.sum_cons, List.sum_cons]
    omega
theorem join_len2 (sep : Str) : ∀ ys : List Str, (Str.join sep ys).length ≤ (ys.map (·.length)).sum + ys.length * sep.length
  | [] => Nat.zero_le _
  | [x] => by simp [Str.join]
  | x :: y :: r => by
    have ih := join_len2 sep (y :: r)
    show ((x ++ sep) ++ Str.join sep (y :: r)).length ≤ _
    rw [Str.length_append, Str.length_append, List.map_cons, List.sum_cons, List.length_cons, Nat.succ_mul]
    omega
def spSign : Sp := fun vs H Q _ => ∃ (d g : Addr) (n : Int), vs = [.ref d] ∧ Tray H d g n ∧ n ≤ 900000 ∧ ∀ (c : Nat) (H' : Hp), Tray H' d g (n + 2) → But d g H H' → Q (.str ⟨#[c]⟩) H'
def spSpoil : Sp := fun vs H Q _ => ∃ (d g : Addr) (n : Int) (tx : Str), vs = [.ref d, .str tx] ∧ Tray H d g n ∧ n ≤ 800000 ∧ tx.length ≤ 9000 ∧ ∀ (z : Str) (H' : Hp), z.length ≤ 2 * tx.length + 1000 → Tray H' d g (n + 10) → But d g H H' → Q (.str z) H'
def spOdd : Sp := fun vs H Q _ => ∃ (d g : Addr) (n : Int), vs = [.ref d] ∧ Tray H d g n ∧ n ≤ 900000 ∧ ∀ (z : Str) (H' : Hp), z.length ≤ 100 → Tray H' d g (n + 1) → But d g H H' → Q (.str z) H'
section
variable {P : Program} {w : World} {K : PySem.W.Frag} {mg : Str → Option Value} {base : Heap} {f : Addr} {fd : FuncData}
theorem ok_sign (B : Bn mg) (F : Fun K "_law_sign" "_law_sign" s__law_sign f fd) (c__law_draw : Cal P w K mg base "_law_draw" 1 ["tray", "many"] spDraw) : FnOk P w K mg base CX0 2 f fd ["tray"] spSign := by
  refine F.ok sc__law_sign (fun vs H Q E h => ?_) (fun cdv A outer s H vs Q E hr h => ?_)
  · obtain ⟨d, g, n, rfl, _⟩ := h
    rfl
  obtain ⟨d, g, n, rfl, D, hn, q⟩ := h
  refine ⟨_, (pss_cons (ps_if (pt_cmpR op_eq (pc c__law_draw (hr.mono (by first | decide | omega)) (pa_cons (pv 0) (pa_cons pe_int pa_nil))) pe_int (nomark _)) (pss_cons (ps_set (i := 1) sc__law_sign.nd rfl (Or.inl rfl) pe_str)
    (pss_one (ps_ret (pe_ix ix_str (pv 1) (pc c__law_draw (hr.mono (by first | decide | omega)) (pa_cons (pv 0) (pa_cons (pe_callB call_len_str (by rfl) B.b_len PySem.boot_len (pa_cons (pv 1) pa_nil)) pa_nil))) (fun _ _ => rfl))))) pss_nil)
    (pss_cons (ps_set (i := 1) sc__law_sign.nd rfl (Or.inl rfl) pe_str)
    (pss_cons (ps_set (i := 1) sc__law_sign.nd rfl (Or.inl rfl) (pe_op op_add_str (pv 1) pe_str))
    (pss_one (ps_ret (pe_ix ix_str (pv 1) (pc c__law_draw (hr.mono (by first | decide | omega)) (pa_cons (pv 0) (pa_cons (pe_callB call_len_str (by rfl) B.b_len PySem.boot_len (pa_cons (pv 1) pa_nil)) pa_nil))) (fun _ _ => rfl))))))), ?_⟩
  refine ⟨_, rfl, d, g, 2, n, rfl, D, by decide, by decide, by omega, fun r H1 r0 r1 D1 B1 => ?_⟩
  refine ⟨rfl, _, rfl, ite2 (fun c => ?_) (fun c => ?_)⟩
  · refine ⟨_, rfl, _, rfl, _, rfl, _, rfl, (by decide +kernel), d, g, _, n + 1, rfl, D1, (by decide +kernel), (by decide +kernel), by omega, fun r2 H2 z0 z1 D2 B2 => ?_⟩
    obtain ⟨v, hv, ev⟩ := at_some (xs := (" ,;.?[]()->0123456789abcnumrtex" : Str).cps.toList) z0 z1
    exact ⟨_, _, _, rfl, rfl, (by decide +kernel), ev, q _ _ (D2.le (by omega)) (B1.trans B2)⟩
  · refine ⟨_, rfl, _, _, rfl, rfl, (by decide +kernel), ?_⟩
    generalize hz : ((" !\"#$&'()*+,-./0123456789:;<=>?@ABCDEFGHIJKLMNOPQRSTUVWXYZ[\\]^_`" : Str) ++ ("abcdefghijklmnopqrstuvwxyz{|}~" : Str)) = some2
    have hl : some2.length = 94 := by rw [← hz]; decide +kernel
    refine ⟨_, rfl, _, rfl, _, rfl, _, rfl, Nat.le_of_lt (line5 (by omega)), d, g, _, n + 1, rfl, D1, by omega, by omega, by omega, fun r2 H2 z0 z1 D2 B2 => ?_⟩
    obtain ⟨v, hv, ev⟩ := at_some (xs := some2.cps.toList) z0 (by rw [← cl_len] at z1; exact z1)
    exact ⟨_, _, _, rfl, rfl, Nat.le_of_lt (line5 (by omega)), ev, q _ _ (D2.le (by omega)) (B1.trans B2)⟩
theorem ok_sign_spoilt (B : Bn mg) (F : Fun K "_law_sign_spoilt" "_law_sign_spoilt" s__law_sign_spoilt f fd) (c__law_draw : Cal P w K mg base "_law_draw" 1 ["tray", "many"] spDraw) (c__law_sign : Cal P w K mg base "_law_sign" 2 ["tray"] spSign) :
    FnOk P w K mg base CX0 3 f fd ["tray", "text"] spSpoil := by
  refine F.ok sc__law_sign_spoilt (fun vs H Q E h => ?_) (fun cdv A outer s H vs Q E hr h => ?_)
  · obtain ⟨d, g, n, tx, rfl, _⟩ := h
    rfl
  obtain ⟨d, g, n, tx, rfl, D, hn, h9, q⟩ := h
  refine ⟨_, (pss_cons (ps_set (i := 2) sc__law_sign_spoilt.nd rfl (Or.inl rfl) (pc c__law_draw (hr.mono (by first | decide | omega)) (pa_cons (pv 0) (pa_cons pe_int pa_nil))))
    (pss_cons (ps_set (i := 3) sc__law_sign_spoilt.nd rfl (Or.inl rfl) (pc c__law_draw (hr.mono (by first | decide | omega)) (pa_cons (pv 0) (pa_cons (pe_op op_add (pe_callB call_len_str (by rfl) B.b_len PySem.boot_len (pa_cons (pv 1) pa_nil)) pe_int) pa_nil))))
    (pss_cons (ps_set (i := 4) sc__law_sign_spoilt.nd rfl (Or.inl rfl) (pe_ix (ixL K rfl) (pe_lst (pa_cons pe_str (pa_cons (pc c__law_sign (hr.mono (by first | decide | omega)) (pa_cons (pv 0) pa_nil)) pa_nil))) (pe_callTy call_int1 (by rfl) B.b_int (by decide +kernel) (pa_cons (pe_cmpR op_gt (pv 2) pe_int (nomark _)) pa_nil)) (fun _ _ => rfl)))
    (pss_one (ps_ret (pe_op op_add_str (pe_op op_add_str (pe_slice sl_str (pv 1) po_none (po_some (pv 3))) (pv 4)) (pe_slice sl_str (pv 1) (po_some (pe_op op_add (pv 3) (pe_callTy call_int1 (by rfl) B.b_int (by decide +kernel) (pa_cons (pe_cmpR op_lt (pv 2) pe_int (nomark _)) pa_nil)))) po_none))))))), ?_⟩
  have htx : tx.length ≤ sizeLine := Nat.le_of_lt (line5 (by omega))
  refine ⟨_, rfl, d, g, 3, n, rfl, D, by decide, by decide, by omega, fun way H1 w0 w1 D1 B1 => ?_⟩
  refine ⟨_, rfl, _, rfl, _, rfl, htx, _, _, rfl, rfl, d, g, _, n + 1, rfl, D1, by omega, by omega, by omega, fun at0 H2 a0 a1 D2 B2 => ?_⟩
  refine ⟨_, rfl, d, g, n + 2, rfl, D2.le (by omega), by omega, fun c H3 D3 B3 => ⟨(by show 2 ≤ sizeLine; decide), fun l nl => ?_⟩⟩
  have D4 := D3.new (o := .lst [V.str "", V.str ⟨#[c]⟩]) nl
  have B4 := ((B1.trans B2).trans B3).new (o := .lst [V.str "", V.str ⟨#[c]⟩]) nl
  have hl : (upd H3 l (.lst [V.str "", V.str ⟨#[c]⟩])) l = some (.lst [V.str "", V.str ⟨#[c]⟩]) := upd_same
  generalize upd H3 l (.lst [V.str "", V.str ⟨#[c]⟩]) = H4 at D4 B4 hl
  refine ⟨_, rfl, _, _, rfl, rfl, .inr ⟨_, rfl, ?_⟩⟩
  obtain ⟨v, hv, ev⟩ := at_some (xs := [V.str "", V.str ⟨#[c]⟩]) (r := if decide (0 < way) = true then 1 else 0) (by split <;> decide) (by show _ < (2 : Int); split <;> decide)
  obtain ⟨sg, rfl, hsg⟩ := okV_of (n := 1) (xs := [V.str "", V.str ⟨#[c]⟩]) (by rfl) hv
  refine ⟨_, _, _, _, rfl, rfl, SqL.of hl, ev, ?_⟩
  have l1 := cutS_length tx none (some at0)
  have l2 := fun o => cutS_length tx o none
  refine ⟨_, rfl, _, rfl, _, rfl, tx, rfl, htx, _, rfl, _, _, rfl, rfl, Nat.le_of_lt (line5 (by omega)), ?_⟩
  refine ⟨_, rfl, _, rfl, _, rfl, _, _, rfl, rfl, .inr ⟨_, rfl, _, _, rfl, rfl, _, rfl, tx, rfl, htx, _, _, rfl, rfl, Nat.le_of_lt (line5 ?_), ?_⟩⟩
  · have := l2 (some (at0 + if decide (way < 2) = true then 1 else 0))
    rw [len_app]
    omega
  · refine q _ _ ?_ (D4.le (by omega)) B4
    have := l2 (some (at0 + if decide (way < 2) = true then 1 else 0))
    rw [len_app, len_app]
    omega
end
end My
namespace My
open PySem L2
/-- a list of short texts, whichever -/
structure Shorts (n : Nat) (H : Hp) (l : Addr) (L : List V) : Prop where
  ok : L.all (okV n) = true
  pos : 1 ≤ L.length
  few : L.length ≤ 100
  loc : H l = some (.lst L)
theorem Shorts.same {n : Nat} {H H' : Hp} {l : Addr} {L : List V} (h : Shorts n H l L) (s : Same H H') : Shorts n H' l L := ⟨h.ok, h.pos, h.few, s _ _ h.loc⟩
theorem few_line {n : Nat} (h : n ≤ 200) : n ≤ sizeLine := Nat.le_of_lt (line5 (by omega))
theorem none_back {H H' : Hp} {l : Addr} (s : Same H H') (n : H' l = none) : H l = none := by
  cases c : H l with
  | none => rfl
  | some o =>
    rw [s _ _ c] at n
    cases n
theorem lst_new {t : TA} {σ : St} {H : Hp} {Q : VK} {L : List V} (k : Nat) (h50 : k ≤ 50) (ht : ∀ (H : Hp) (R : List V → Hp → Prop), t σ H R = R L H) (h1 : (L.all (okV 100) && decide (1 ≤ L.length) && decide (L.length = k)) = true)
    (h : ∀ (l : Addr) (L' : List V) (H' : Hp), L'.length = k → Shorts 100 H' l L' → Same H H' → H l = none → Q (.ref l) H') : tLst t σ H Q := by
  rw [Bool.and_eq_true_iff, Bool.and_eq_true_iff, decide_eq_true_iff, decide_eq_true_iff] at h1
  unfold tLst
  rw [ht]
  exact ⟨few_line (by omega), fun p np => h p L _ h1.2 ⟨h1.1.1, h1.1.2, by omega, upd_same⟩ (same_new np _) np⟩
theorem cat_new {t : TA} {i : Nat} {σ : St} {H : Hp} {Q : VK} {L : List V} {l1 : Addr} {L1 : List V} {n : Nat} (s1 : Shorts 100 H l1 L1) (n1 : L1.length = n) (hv : ∀ R : VK, R (.ref l1) H → tVar i σ H R) (k : Nat) (h50 : k ≤ 50) (hk : n + k ≤ 100)
    (ht : ∀ (H : Hp) (R : List V → Hp → Prop), t σ H R = R L H) (h1 : (L.all (okV 100) && decide (1 ≤ L.length) && decide (L.length = k)) = true)
    (h : ∀ (l : Addr) (L' : List V) (H' : Hp), L'.length = n + k → Shorts 100 H' l L' → Same H H' → H l = none → Q (.ref l) H') : tOp rCat (tVar i) (tLst t) σ H Q := by
  refine hv _ (lst_new k h50 ht h1 fun l2 L2 H2 k2 h2 s2 _ => ?_)
  refine ⟨l1, l2, L1, L2, rfl, rfl, s2 _ _ s1.loc, h2.loc, few_line (by omega), fun l n => h l (L1 ++ L2) _ (by rw [List.length_append]; omega) ⟨by rw [List.all_append, s1.ok, h2.ok]; rfl, by rw [List.length_append]; have := s1.pos; omega, by rw [List.length_append]; omega, upd_same⟩ (s2.trans (same_new n _)) (none_back s2 n)⟩
section
variable {P : Program} {w : World} {K : PySem.W.Frag} {mg : Str → Option Value} {base : Heap} {f : Addr} {fd : FuncData}
theorem ok_odd (B : Bn mg) (F : Fun K "_law_odd" "_law_odd" s__law_odd f fd) (c__law_draw : Cal P w K mg base "_law_draw" 1 ["tray", "many"] spDraw) : FnOk P w K mg base CX0 2 f fd ["tray"] spOdd := by
  refine F.ok sc__law_odd (fun vs H Q E h => ?_) (fun cdv A outer s H vs Q E hr h => ?_)
  · obtain ⟨d, g, n, rfl, _⟩ := h
    rfl
  obtain ⟨d, g, n, rfl, D, hn, q⟩ := h
  refine ⟨_, (pss_cons (ps_set (i := 1) sc__law_odd.nd rfl (Or.inl rfl) (pe_lst (pa_cons pe_str (pa_cons pe_str (pa_cons pe_str (pa_cons pe_str (pa_cons pe_str (pa_cons pe_str (pa_cons pe_str (pa_cons pe_str (pa_cons pe_str (pa_cons pe_str (pa_cons pe_str (pa_cons pe_str (pa_cons pe_str pa_nil)))))))))))))))
    (pss_cons (ps_set (i := 1) sc__law_odd.nd rfl (Or.inl rfl) (pe_op op_cat (pv 1) (pe_lst (pa_cons pe_str (pa_cons pe_str (pa_cons pe_str (pa_cons pe_str (pa_cons pe_str (pa_cons pe_str pa_nil)))))))))
    (pss_cons (ps_set (i := 1) sc__law_odd.nd rfl (Or.inl rfl) (pe_op op_cat (pv 1) (pe_lst (pa_cons pe_str pa_nil))))
    (pss_cons (ps_set (i := 1) sc__law_odd.nd rfl (Or.inl rfl) (pe_op op_cat (pv 1) (pe_lst (pa_cons pe_str (pa_cons pe_str (pa_cons pe_str (pa_cons pe_str pa_nil)))))))
    (pss_cons (ps_set (i := 1) sc__law_odd.nd rfl (Or.inl rfl) (pe_op op_cat (pv 1) (pe_lst (pa_cons pe_str (pa_cons pe_str (pa_cons pe_str (pa_cons pe_str (pa_cons pe_str pa_nil))))))))
    (pss_cons (ps_set (i := 1) sc__law_odd.nd rfl (Or.inl rfl) (pe_op op_cat (pv 1) (pe_lst (pa_cons pe_str pa_nil))))
    (pss_one (ps_ret (pe_ix (ixL K rfl) (pv 1) (pc c__law_draw (hr.mono (by first | decide | omega)) (pa_cons (pv 0) (pa_cons (pe_callB (lenSeq K rfl) (by rfl) B.b_len PySem.boot_len (pa_cons (pv 1) pa_nil)) pa_nil))) (fun _ _ => rfl)))))))))), ?_⟩
  refine seq_set ?_
  refine lst_new 13 (by decide) (fun _ _ => rfl) ?_ fun l1 L1 H1 k1 h1 s1 n1 => ?_
  · decide +kernel
  refine seq_set ?_
  refine cat_new h1 k1 (fun _ q => ⟨_, rfl, q⟩) 6 (by decide) (by decide) (fun _ _ => rfl) ?_ fun l2 L2 H2 k2 h2 s2 n2 => ?_
  · decide +kernel
  refine seq_set ?_
  refine cat_new h2 k2 (fun _ q => ⟨_, rfl, q⟩) 1 (by decide) (by decide) (fun _ _ => rfl) ?_ fun l3 L3 H3 k3 h3 s3 n3 => ?_
  · decide +kernel
  refine seq_set ?_
  refine cat_new h3 k3 (fun _ q => ⟨_, rfl, q⟩) 4 (by decide) (by decide) (fun _ _ => rfl) ?_ fun l4 L4 H4 k4 h4 s4 n4 => ?_
  · decide +kernel
  refine seq_set ?_
  refine cat_new h4 k4 (fun _ q => ⟨_, rfl, q⟩) 5 (by decide) (by decide) (fun _ _ => rfl) ?_ fun l5 L5 H5 k5 h5 s5 n5 => ?_
  · decide +kernel
  refine seq_set ?_
  refine cat_new h5 k5 (fun _ q => ⟨_, rfl, q⟩) 1 (by decide) (by decide) (fun _ _ => rfl) ?_ fun l6 L6 H6 k6 h6 s6 n6 => ?_
  · decide +kernel
  have sall := ((s1.trans s2).trans (s3.trans s4)).trans (s5.trans s6)
  have few := h6.few
  have pos := h6.pos
  refine ⟨_, rfl, _, rfl, _, rfl, l6, L6, rfl, .inl (SqL.of h6.loc), d, g, _, n, rfl, D.same sall, by omega, by omega, by omega, fun r H7 z0 z1 D7 B7 => ?_⟩
  obtain ⟨v, hv, ev⟩ := at_some z0 z1
  obtain ⟨z, rfl, hz⟩ := okV_of h6.ok hv
  have ne := (D.same ((s1.trans s2).trans ((s3.trans s4).trans s5))).ne n6
  exact ⟨_, _, _, _, rfl, rfl, SqL.of (B7 _ _ ne.1 ne.2 h6.loc), ev, q z H7 hz D7 ((But.of_same sall).trans B7)⟩
end
end My
namespace My
open PySem L2
section
variable {P : Program} {w : World} {K : PySem.W.Frag} {mg : Str → Option Value} {base : Heap} {f : Addr} {fd : FuncData}
theorem ok_spoilt (B : Bn mg) (F : Fun K "_law_spoilt" "_law_spoilt" s__law_spoilt f fd) (c__law_draw : Cal P w K mg base "_law_draw" 1 ["tray", "many"] spDraw) (c__law_sign_spoilt : Cal P w K mg base "_law_sign_spoilt" 3 ["tray", "text"] spSpoil) :
    FnOk P w K mg base CX0 4 f fd ["tray", "text"] (fun vs H Q E => ∃ (d g : Addr) (n : Int) (tx : Str), vs = [.ref d, .str tx] ∧ Tray H d g n ∧ n ≤ 700000 ∧ tx.length ≤ 9000 ∧ ∀ (z : Str) (H' : Hp), z.length ≤ 2 * tx.length + 1000 → Tray H' d g (n + 20) → But d g H H' → Q (.str z) H') := by
  refine F.ok sc__law_spoilt (fun vs H Q E h => ?_) (fun cdv A outer s H vs Q E hr h => ?_)
  · obtain ⟨d, g, n, tx, rfl, _⟩ := h
    rfl
  obtain ⟨d, g, n, tx, rfl, D, hn, h9, q⟩ := h
  refine ⟨_, (pss_cons (ps_set (i := 2) sc__law_spoilt.nd rfl (Or.inl rfl) (pc c__law_draw (hr.mono (by first | decide | omega)) (pa_cons (pv 0) (pa_cons pe_int pa_nil))))
    (pss_cons (ps_if (pt_cmpR op_lt (pv 2) pe_int (nomark _)) (pss_one (ps_ret (pc c__law_sign_spoilt (hr.mono (by first | decide | omega)) (pa_cons (pv 0) (pa_cons (pv 1) pa_nil))))) pss_nil)
    (pss_cons (ps_if (pt_cmpR op_eq (pv 2) pe_int (nomark _)) (pss_cons (ps_set (i := 5) sc__law_spoilt.nd rfl (Or.inl rfl) (pe_ix (ixL K rfl) (pe_lst (pa_cons pe_int (pa_cons pe_int (pa_cons pe_int (pa_cons pe_int pa_nil))))) (pc c__law_draw (hr.mono (by first | decide | omega)) (pa_cons (pv 0) (pa_cons pe_int pa_nil))) (fun _ _ => rfl)))
    (pss_one (ps_ret (pe_op op_add_str (pe_op op_add_str (pe_op op_mul_str pe_str (pv 5)) (pv 1)) (pe_op op_mul_str pe_str (pv 5)))))) pss_nil)
    (pss_cons (ps_if (pt_cmpR op_eq (pv 2) pe_int (nomark _)) (pss_one (ps_ret (pe_ix (ixL K rfl) (pe_lst (pa_cons (pe_op op_add_str (pe_op op_add_str pe_str (pv 1)) pe_str) (pa_cons (pe_op op_add_str (pe_op op_add_str pe_str (pv 1)) pe_str) (pa_cons (pe_op op_add_str (pe_op op_add_str pe_str (pv 1)) pe_str) pa_nil)))) (pc c__law_draw (hr.mono (by first | decide | omega)) (pa_cons (pv 0) (pa_cons pe_int pa_nil))) (fun _ _ => rfl)))) pss_nil)
    (pss_cons (ps_set (i := 3) sc__law_spoilt.nd rfl (Or.inl rfl) (pe_split (pv 1) pe_str))
    (pss_cons (ps_set (i := 4) sc__law_spoilt.nd rfl (Or.inl rfl) (pe_lst (pa_cons pe_str (pa_cons pe_str (pa_cons pe_str (pa_cons pe_str (pa_cons pe_str (pa_cons pe_str (pa_cons pe_str (pa_cons pe_str (pa_cons pe_str (pa_cons pe_str (pa_cons pe_str (pa_cons pe_str (pa_cons pe_str (pa_cons pe_str pa_nil))))))))))))))))
    (pss_cons (ps_set (i := 4) sc__law_spoilt.nd rfl (Or.inl rfl) (pe_op op_cat (pv 4) (pe_lst (pa_cons pe_str (pa_cons pe_str pa_nil)))))
    (pss_cons (ps_asg (pe_ix (ixL K rfl) (pv 4) (pc c__law_draw (hr.mono (by first | decide | omega)) (pa_cons (pv 0) (pa_cons pe_int pa_nil))) (fun _ _ => rfl)) (pg_sub (pv 3) (pc c__law_draw (hr.mono (by first | decide | omega)) (pa_cons (pv 0) (pa_cons (pe_callB (lenSeq K rfl) (by rfl) B.b_len PySem.boot_len (pa_cons (pv 3) pa_nil)) pa_nil))) set_list))
    (pss_one (ps_ret (pe_join pe_str (pv 3)))))))))))), ?_⟩
  have htx : tx.length ≤ sizeLine := Nat.le_of_lt (line5 (by omega))
  refine seq_set ?_
  refine ⟨_, rfl, d, g, 6, n, rfl, D, by decide, by decide, by omega, fun way H1 w0 w1 D1 B1 => ?_⟩
  refine seq_abs (fun σ' H' => σ' = [some (.ref d), some (.str tx), some (.int way), none, none, none] ∧ H' = H1) (fun σ2 H2 w2 => ?_) (fun nx hnx => ?_)
  rotate_left
  · refine ⟨_, rfl, _, _, rfl, rfl, _, rfl, ite2 (fun c => ?_) (fun c => hnx _ _ ⟨rfl, rfl⟩)⟩
    exact ⟨_, rfl, _, rfl, d, g, n + 1, tx, rfl, D1, by omega, h9, fun z H' hz D' B' => q z H' hz (D'.le (by omega)) (B1.trans B')⟩
  obtain ⟨rfl, rfl⟩ := w2
  refine seq_abs (fun σ' H' => σ' = [some (.ref d), some (.str tx), some (.int way), none, none, none] ∧ H' = H2) (fun σ3 H3 w3 => ?_) (fun nx hnx => ?_)
  rotate_left
  · refine ⟨_, rfl, rfl, _, rfl, ite2 (fun c => ?_) (fun c => hnx _ _ ⟨rfl, rfl⟩)⟩
    refine ⟨(by show 4 ≤ sizeLine; decide), fun l nl => ?_⟩
    have D2 := D1.new (o := .lst [V.int 1, V.int 2, V.int 3, V.int 300]) nl
    have B2 := B1.new (o := .lst [V.int 1, V.int 2, V.int 3, V.int 300]) nl
    have ne := D1.ne nl
    have hl : (upd H2 l (.lst [V.int 1, V.int 2, V.int 3, V.int 300])) l = some (.lst [V.int 1, V.int 2, V.int 3, V.int 300]) := upd_same
    generalize upd H2 l (.lst [V.int 1, V.int 2, V.int 3, V.int 300]) = H3 at D2 B2 hl
    refine ⟨_, rfl, d, g, 4, n + 1, rfl, D2, by decide, by decide, by omega, fun r H4 r0 r1 D4 B4 => ?_⟩
    obtain ⟨v, hv, ev⟩ := at_some (xs := [V.int 1, V.int 2, V.int 3, V.int 300]) r0 r1
    have hm : ∃ m : Nat, v = .int (m : Int) ∧ 1 ≤ m ∧ m ≤ 300 ∧ (Txt.mul "[" (m : Int)).length ≤ 300 ∧ (Txt.mul "]" (m : Int)).length ≤ 300 := by
      rcases List.mem_cons.mp hv with rfl | hv
      · exact ⟨1, rfl, by decide, by decide, by decide +kernel, by decide +kernel⟩
      rcases List.mem_cons.mp hv with rfl | hv
      · exact ⟨2, rfl, by decide, by decide, by decide +kernel, by decide +kernel⟩
      rcases List.mem_cons.mp hv with rfl | hv
      · exact ⟨3, rfl, by decide, by decide, by decide +kernel, by decide +kernel⟩
      rcases List.mem_cons.mp hv with rfl | hv
      · exact ⟨300, rfl, by decide, by decide, by decide +kernel, by decide +kernel⟩
      · cases hv
    obtain ⟨m, rfl, m1, m3, e1, e2⟩ := hm
    refine ⟨_, _, _, _, rfl, rfl, SqL.of (B4 _ _ ne.1 ne.2 hl), ev, ?_⟩
    refine ⟨_, rfl, _, _, rfl, rfl, by omega, by omega, by decide, ?_⟩
    refine ⟨_, rfl, _, _, rfl, rfl, Nat.le_of_lt (line5 (by omega)), ?_⟩
    refine ⟨_, rfl, _, _, rfl, rfl, by omega, by omega, by decide, ?_⟩
    refine ⟨_, _, rfl, rfl, Nat.le_of_lt (line5 (by rw [len_app]; omega)), ?_⟩
    exact q _ _ (by rw [len_app, len_app]; omega) (D4.le (by omega)) (B2.trans B4)
  obtain ⟨rfl, rfl⟩ := w3
  refine seq_abs (fun σ' H' => σ' = [some (.ref d), some (.str tx), some (.int way), none, none, none] ∧ H' = H3) (fun σ4 H4 w4 => ?_) (fun nx hnx => ?_)
  rotate_left
  · refine ⟨_, rfl, rfl, _, rfl, ite2 (fun c => ?_) (fun c => hnx _ _ ⟨rfl, rfl⟩)⟩
    have big : ∀ {k : Nat}, k ≤ 20000 → k ≤ sizeLine := fun h => Nat.le_of_lt (line5 (by omega))
    have la : ∀ (a b : Str), a.length ≤ 10 → b.length ≤ 10 → ((a ++ tx) ++ b).length ≤ tx.length + 20 := fun a b ha hb => by rw [len_app, len_app]; omega
    refine ⟨_, rfl, _, _, rfl, rfl, big (by show 1 + tx.length ≤ 20000; omega), _, _, rfl, rfl, big (by rw [len_app]; show 1 + tx.length + 1 ≤ 20000; omega), ?_⟩
    refine ⟨_, rfl, _, _, rfl, rfl, big (by show 4 + tx.length ≤ 20000; omega), _, _, rfl, rfl, big (by rw [len_app]; show 4 + tx.length + 1 ≤ 20000; omega), ?_⟩
    refine ⟨_, rfl, _, _, rfl, rfl, big (by show 1 + tx.length ≤ 20000; omega), _, _, rfl, rfl, big (by rw [len_app]; show 1 + tx.length + 8 ≤ 20000; omega), ?_⟩
    have l1 := la "(" ")" (by decide) (by decide)
    have l2 := la "(-> " ")" (by decide) (by decide)
    have l3 := la "(" " -> num)" (by decide) (by decide)
    generalize (("(" : Str) ++ tx) ++ (")" : Str) = t1 at l1
    generalize (("(-> " : Str) ++ tx) ++ (")" : Str) = t2 at l2
    generalize (("(" : Str) ++ tx) ++ (" -> num)" : Str) = t3 at l3
    refine ⟨(by show 3 ≤ sizeLine; decide), fun l nl => ?_⟩
    have D2 := D1.new (o := .lst [V.str t1, V.str t2, V.str t3]) nl
    have B2 := B1.new (o := .lst [V.str t1, V.str t2, V.str t3]) nl
    have ne := D1.ne nl
    have hl : (upd H3 l (.lst [V.str t1, V.str t2, V.str t3])) l = some (.lst [V.str t1, V.str t2, V.str t3]) := upd_same
    generalize upd H3 l (.lst [V.str t1, V.str t2, V.str t3]) = H4 at D2 B2 hl
    refine ⟨_, rfl, d, g, 3, n + 1, rfl, D2, by decide, by decide, by omega, fun r H5 r0 r1 D5 B5 => ?_⟩
    obtain ⟨v, hv, ev⟩ := at_some (xs := [V.str t1, V.str t2, V.str t3]) r0 r1
    obtain ⟨z, rfl, hz⟩ := okV_of (n := tx.length + 20) (xs := [V.str t1, V.str t2, V.str t3]) (by simp [okV, l1, l2, l3]) hv
    exact ⟨_, _, _, _, rfl, rfl, SqL.of (B5 _ _ ne.1 ne.2 hl), ev, q z H5 (by omega) (D5.le (by omega)) (B2.trans B5)⟩
  obtain ⟨rfl, rfl⟩ := w4
  refine seq_set ?_
  refine ⟨_, rfl, ⟨_, rfl⟩, _, _, rfl, rfl, rfl, Nat.le_of_lt (line5 (by omega)), fun p np => ?_⟩
  obtain ⟨sne, ssum⟩ := split_blank tx
  generalize Txt.split tx " " = ws at sne ssum
  have D5 := D1.new (o := .lst (ws.map V.str)) np
  have B5 := B1.new (o := .lst (ws.map V.str)) np
  have nep := D1.ne np
  have hp : (upd H4 p (.lst (ws.map V.str))) p = some (.lst (ws.map V.str)) := upd_same
  generalize upd H4 p (.lst (ws.map V.str)) = H5 at D5 B5 hp
  have wpos : 1 ≤ ws.length := List.length_pos_iff.mpr sne
  refine seq_set ?_
  refine lst_new 14 (by decide) (fun _ _ => rfl) ?_ fun l1 L1 H6 k1 h1 s1 n1 => ?_
  · decide +kernel
  refine seq_set ?_
  refine cat_new h1 k1 (fun _ q => ⟨_, rfl, q⟩) 2 (by decide) (by decide) (fun _ _ => rfl) ?_ fun l2 L2 H7 k2 h2 s2 n2 => ?_
  · decide +kernel
  have D7 := D5.same (s1.trans s2)
  have ne2 := (D5.same s1).ne n2
  have hp7 := s2 _ _ (s1 _ _ hp)
  have hL16 : 16 ≤ L2.length := by omega
  refine ⟨_, rfl, _, rfl, d, g, 16, n + 1, rfl, D7, by decide, by decide, by omega, fun r H8 r0 r1 D8 B8 => ?_⟩
  obtain ⟨v, hv, ev⟩ := at_some (xs := L2) r0 (by omega)
  obtain ⟨z, rfl, hz⟩ := okV_of h2.ok hv
  refine ⟨_, _, _, _, rfl, rfl, SqL.of (B8 _ _ ne2.1 ne2.2 h2.loc), ev, ?_⟩
  have hp8 := B8 _ _ nep.1 nep.2 hp7
  refine ⟨_, rfl, _, rfl, _, rfl, p, _, rfl, .inl (SqL.of hp8), d, g, _, _, rfl, D8, by rw [List.length_map]; omega, by rw [List.length_map]; omega, by omega, fun r2 H9 y0 y1 D9 B9 => ?_⟩
  have hp9 := B9 _ _ nep.1 nep.2 hp8
  have y1 : r2 < (ws.length : Int) := by rw [List.length_map] at y1; exact y1
  refine ⟨p, _, r2, r2.toNat, rfl, rfl, hp9, ?_, ?_⟩
  · unfold ixN
    rw [if_pos y0, if_pos (by rw [List.length_map]; exact y1)]
  have e1 : (ws.map V.str).set r2.toNat (V.str z) = (ws.set r2.toNat z).map V.str := by rw [List.map_set]
  rw [e1]
  have hsum := set_sum (n := 100) hz ws r2.toNat
  have hlen : (ws.set r2.toNat z).length = ws.length := List.length_set
  generalize ws.set r2.toNat z = us at hsum hlen
  have o1 : (" " : Str).length = 1 := rfl
  have lj := join_len2 " " us
  refine ⟨⟨_, rfl⟩, _, rfl, _, p, us, rfl, rfl, .inl (SqL.of upd_same), by rw [o1]; omega, ?_⟩
  rw [show Txt.join " " us = Str.join " " us from PySem.StrLaws.glued_eq_join _ _]
  have npH : H p = none := by
    cases c : H p with
    | none => rfl
    | some o =>
      rw [B1 _ _ nep.1 nep.2 c] at np
      cases np
  exact q _ _ (by rw [o1] at lj; omega) ((D9.at nep.1 nep.2).le (by omega)) (((B5.trans (But.of_same (s1.trans s2))).trans (B8.trans B9)).atNew npH)
end
end My
namespace My
open PySem L2
/-! the law's own reader -/
/-- a list == [] -/
theorem op_eqNil {X : Cx} (hu : X.A.units < cLine) : OpR X (compareOp .Eq) (fun x y H Q => ∃ a b xs, x = .ref a ∧ y = .ref b ∧ SqL X.K H a xs ∧ SqL X.K H b [] ∧ Q (.bl xs.isEmpty) H) := by
  intro pins s σ H x y v u Q I rx ry h
  obtain ⟨a, b, xs, rfl, rfl, ha, hb, q⟩ := h
  cases (show v = Value.ref a from rx)
  cases (show u = Value.ref b from ry)
  obtain ⟨us, r1, p1, _⟩ := I.list ha
  obtain ⟨ws, r2, p2, _⟩ := I.list hb
  cases r2
  cases r1 with
  | nil => exact SeqAt.rcP_lists (e := fun _ => true) p1.isList p2.isList rfl hu (fun j h1 h2 => absurd h1 (Nat.not_lt_zero j)) _ _ ⟨.bl true, H, I, rfl, q⟩
  | cons r t => exact SeqAt.RcAt.lists_lengths p1.isList p2.isList (by simp) hu X.prog X.w _ _ ⟨.bl false, H, I, rfl, q⟩
theorem eqNil {X : Cx} (K : PySem.W.Frag) (h : X.K = K) (hu : X.A.units + 64 < cLine) : OpR X (compareOp .Eq) (fun x y H Q => ∃ a b xs, x = .ref a ∧ y = .ref b ∧ SqL K H a xs ∧ SqL K H b [] ∧ Q (.bl xs.isEmpty) H) := by
  subst h
  exact op_eqNil (by omega)
theorem inDp {X : Cx} (K : PySem.W.Frag) (h : X.K = K) (hu : X.A.units + 65 < cLine) : OpR X (compareOp .In) (rInD K) := by
  subst h
  exact op_inD hu
def notAbc (z : List Nat) : List Nat := z.filter fun c => !decide (c ∈ abc.cps.toList)
def Pna (H0 : Hp) (D : Addr) (z : List Nat) (i : Nat) (H : Hp) : Prop := Same H0 H ∧ H D = some (.lst ((notAbc (z.take i)).map fun c => V.str ⟨#[c]⟩))
theorem notAbc_empty (z : List Nat) : (notAbc z).isEmpty = z.all fun c => decide (c ∈ abc.cps.toList) := by
  unfold notAbc
  induction z with
  | nil => rfl
  | cons c r ih =>
    rw [List.all_cons]
    by_cases h : c ∈ abc.cps.toList
    · rw [List.filter_cons_of_neg (by simp [h]), ih, decide_eq_true h, Bool.true_and]
    · rw [List.filter_cons_of_pos (by simp [h]), decide_eq_false h, Bool.false_and]
      rfl
section
variable {P : Program} {w : World} {K : PySem.W.Frag} {mg : Str → Option Value} {base : Heap} {f : Addr} {fd : FuncData}
theorem ok_law_is_name (B : Bn mg) (F : Fun K "_law_is_name" "_law_is_name" s__law_is_name f fd) : FnOk P w K mg base CX0 1 f fd ["text"] spIsName := by
  refine F.ok sc__law_is_name (fun vs H Q E h => ?_) (fun cdv A outer s H vs Q E hr h => ?_)
  · obtain ⟨z, rfl, _⟩ := h
    rfl
  obtain ⟨z, rfl, hz, q⟩ := h
  refine ⟨_, (pss_cons (ps_if (PW.pt (pw_or (pt_cmpR (inSeq K rfl) (pv 0) (pe_lst (pa_cons pe_str (pa_cons pe_str (pa_cons pe_str pa_nil)))) (by rfl)) (pw_or1 (pt_cmpR op_gt (pe_callB call_len_str (by rfl) B.b_len PySem.boot_len (pa_cons (pv 0) pa_nil)) pe_int (nomark _))))) (pss_one (ps_ret pe_bl)) pss_nil)
    (pss_one (ps_ret (pe_cmpR (eqNil K rfl hr.units) (pe_lc (own := [("sign", 1)]) (g := (gName 1)) rfl sc__law_is_name.nd (pi_str (pv 0)) (blkOk_by (N := ["text", "sign"]) (sc := defScope s__law_is_name) (by decide +kernel)) (fun _ _ _ _ _ => (pg_name (i := 1) sc__law_is_name.nd rfl (Or.inl rfl) (hf := Or.inr rfl))) (fun _ _ _ _ _ => (pts_one (pt_cmpR op_notIn_sign (pv 1) pe_str (by rfl)))) (fun _ _ _ _ _ => (pv 1))) (pe_lst pa_nil) (nomark _))))), ?_⟩
  have hzl : z.length ≤ sizeLine := Nat.le_of_lt (line5 hz)
  refine ⟨_, rfl, (by show 3 ≤ sizeLine; decide), fun l nl => ?_⟩
  have s1 := same_new nl (.lst [V.str "", V.str "num", V.str "text"])
  refine ⟨l, _, rfl, .inl (SqL.of upd_same), rfl, by rfl, _, rfl, ?_⟩
  generalize upd H l (.lst [V.str "", V.str "num", V.str "text"]) = H1 at s1
  have e0 : (if false = true then !inV (.str z) [V.str "", V.str "num", V.str "text"] else inV (.str z) [V.str "", V.str "num", V.str "text"]) = decide (z ∈ (["", "num", "text"] : List Str)) := inV_str (us := ["", "num", "text"])
  rw [e0]
  have zero : (1 ≤ z.length) ↔ z ≠ "" := by
    constructor
    · rintro h rfl
      exact absurd h (by decide)
    · intro h
      rcases Nat.eq_zero_or_pos z.length with c | c
      · exact absurd (str_ext (x := z) (y := "") (List.eq_nil_of_length_eq_zero (by rw [cl_len]; exact c))) h
      · exact c
  by_cases c0 : z ∈ (["", "num", "text"] : List Str)
  · rw [decide_eq_true c0]
    refine iteT ?_
    have e : nmOk z = false := by
      unfold nmOk
      rcases List.mem_cons.mp c0 with rfl | c0
      · rfl
      · rw [decide_eq_true c0]
        rfl
    rw [← e]
    exact q H1 s1
  rw [decide_eq_false c0]
  have n1 : z ≠ "" := fun h => c0 (by simp [h])
  have n2 : z ∉ (["num", "text"] : List Str) := fun h => c0 (List.mem_cons_of_mem _ h)
  refine iteF ⟨_, rfl, _, rfl, hzl, _, _, rfl, rfl, _, rfl, ?_⟩
  by_cases c1 : z.length ≤ 8
  · rw [decide_eq_false (by omega)]
    refine iteF ?_
    refine ⟨_, rfl, z, rfl, fun D nD => ⟨fun i m H' => m = z.cps.toList.length - i ∧ i ≤ z.cps.toList.length ∧ Pna H1 D z.cps.toList i H', ⟨z.cps.toList.length, by simp, Nat.zero_le _, same_new nD _, upd_same⟩, ?_⟩⟩
    rintro i m H2 ⟨rfl, hi, s2, hacc⟩
    have hsz : z.cps.toList.length = z.cps.size := Array.length_toList
    have hzs : z.cps.size ≤ 8 := c1
    by_cases hlt : i < z.cps.toList.length
    · refine .inr ⟨by show i < z.cps.size; omega, Pna H1 D z.cps.toList (i + 1), fun H' p' => ⟨z.cps.toList.length - (i + 1), by omega, rfl, hlt, p'⟩, fun x H' y => ?_⟩
      obtain ⟨e, c, hc, rfl⟩ := y
      subst e
      have hc2 : z.cps.toList[i]? = some c := by rw [Array.getElem?_toList]; exact hc
      refine ⟨rfl, _, rfl, c, _, rfl, rfl, _, rfl, ?_⟩
      have et : notAbc (z.cps.toList.take (i + 1)) = notAbc (z.cps.toList.take i) ++ (if decide (c ∈ abc.cps.toList) = true then [] else [c]) := by
        unfold notAbc
        rw [← take_next hc2, List.filter_append]
        by_cases h : c ∈ abc.cps.toList
        · rw [if_pos (decide_eq_true h), List.filter_cons_of_neg (by simp [h])]
          rfl
        · rw [if_neg (by simp [h]), List.filter_cons_of_pos (by simp [h])]
          rfl
      by_cases h : c ∈ abc.cps.toList
      · show if (!decide (c ∈ abc.cps.toList)) = true then _ else _
        rw [if_pos (decide_eq_true h), List.append_nil] at et
        rw [decide_eq_true h]
        refine iteF ⟨s2, ?_⟩
        rw [et]
        exact hacc
      · show if (!decide (c ∈ abc.cps.toList)) = true then _ else _
        rw [if_neg (by simp [h])] at et
        rw [decide_eq_false h]
        refine iteT ⟨_, rfl, _, hacc, ?_, Same.atNew s2 nD, ?_⟩
        · rw [List.length_map]
          have h1 : (notAbc (z.cps.toList.take i)).length ≤ (z.cps.toList.take i).length := List.length_filter_le _ _
          have h2 := List.length_take_le' i z.cps.toList
          exact line5 (by omega)
        · rw [upd_same, et, List.map_append]
          rfl
    · have e : i = z.cps.toList.length := by omega
      subst e
      refine .inl ⟨by show z.cps.size ≤ _; omega, ?_⟩
      rw [List.take_length] at hacc
      refine ⟨Nat.zero_le _, fun p np => ?_⟩
      refine ⟨D, p, _, rfl, rfl, SqL.of (same_new np _ _ _ hacc), SqL.of upd_same, ?_⟩
      have e : ((notAbc z.cps.toList).map fun c => V.str ⟨#[c]⟩).isEmpty = nmOk z := by
        rw [List.isEmpty_map, notAbc_empty]
        unfold nmOk
        rw [decide_eq_false n2, decide_eq_true (zero.mpr n1), decide_eq_true c1]
        rfl
      rw [e]
      exact q _ (s1.trans (s2.trans (same_new np _)))
  · rw [decide_eq_true (by omega)]
    refine iteT ?_
    have e : nmOk z = false := by
      unfold nmOk
      rw [decide_eq_false c1]
      simp
    rw [← e]
    exact q H1 s1
end
end My
namespace My
open PySem L2
def KoAt (H : Hp) (v : V) : Option Kd → Prop
  | none => v = .non
  | some k => KdAt H v k
theorem KoAt.same {H H' : Hp} {v : V} {o : Option Kd} (h : KoAt H v o) (s : Same H H') : KoAt H' v o := by
  cases o with
  | none => exact h
  | some k => exact (show KdAt H v k from h).mono (Tups.of_same s)
theorem KoAt.ne {H : Hp} {v : V} {k : Kd} (h : KdAt H v k) : v ≠ .non := by
  intro e
  subst e
  cases h
def spFlatOf (d : Nat) : Sp := fun vs H Q _ => ∃ (tx : Str), vs = [.str tx, .int (d : Int)] ∧ tx.length ≤ 20000 ∧ ∀ v H', KoAt H' v (lfd d (cl tx)) → Same H H' → Q v H'
theorem cl_cut (z : Str) (lo hi : Option Int) : cl (cutS z lo hi) = ((cl z).drop (HT.sIx z.length 0 lo)).take (HT.sIx z.length z.length hi - HT.sIx z.length 0 lo) := by
  simp [cutS]
theorem sIx_neg1 (n d : Nat) : HT.sIx n d (some (-1)) = n - 1 := by
  unfold HT.sIx
  simp only
  rw [if_pos (by decide)]
  omega
theorem sIx_one (n d : Nat) : HT.sIx n d (some 1) = min 1 n := HT.sIx_nat n d 1
theorem cut_first (z : Str) : cl (cutS z none (some 1)) = (cl z).take 1 := by
  rw [cl_cut, sIx_one]
  show ((cl z).drop 0).take (min 1 z.length - 0) = _
  rw [List.drop_zero, Nat.sub_zero, ← cl_len]
  cases cl z with
  | nil => rfl
  | cons a r =>
    rw [List.length_cons, Nat.min_eq_left (by omega)]
theorem cut_lst1 (z : Str) : cl (cutS z (some (-1)) none) = lst1 (cl z) := by
  rw [cl_cut, sIx_neg1]
  show ((cl z).drop (z.length - 1)).take (z.length - (z.length - 1)) = _
  unfold lst1
  rw [cl_len, List.take_of_length_le]
  rw [List.length_drop, cl_len]
  omega
theorem cut_mid (z : Str) : cl (cutS z (some 1) (some (-1))) = mid (cl z) := by
  rw [cl_cut, sIx_neg1, sIx_one]
  unfold mid
  rw [cl_len]
  by_cases h : z.length = 0
  · have : cl z = [] := List.eq_nil_of_length_eq_zero (by rw [cl_len]; exact h)
    rw [this]
    simp
  · rw [Nat.min_eq_left (by omega), List.drop_take]
theorem cut_but (z : Str) : cl (cutS z none (some (-1))) = (cl z).take ((cl z).length - 1) := by
  rw [cl_cut, sIx_neg1]
  show ((cl z).drop 0).take (z.length - 1 - 0) = _
  rw [List.drop_zero, Nat.sub_zero, cl_len]
theorem dec_cl (a b : Str) : decide (V.str a = V.str b) = decide (cl a = cl b) := by
  refine decide_eq_decide.mpr ⟨fun h => ?_, fun h => ?_⟩
  · injection h with h
    rw [h]
  · rw [str_ext h]
section
variable {P : Program} {w : World} {K : PySem.W.Frag} {mg : Str → Option Value} {base : Heap} {f : Addr} {fd : FuncData}
theorem ok_flat_of (B : Bn mg) (F : Fun K "_law_flat_of" "_law_flat_of" s__law_flat_of f fd) (hm : mg "_law_flat_of" = some (.ref f)) (hb : Binds K fd ["text", "deep"] []) (c__law_is_name : Cal P w K mg base "_law_is_name" 1 ["text"] spIsName) :
    ∀ d : Nat, FnOk P w K mg base CX0 (d + 2) f fd ["text", "deep"] (spFlatOf d) := by
  suffices step : ∀ (d : Nat) (sp : Sp), (∀ e, d = e + 1 → sp = spFlatOf e) → Cal P w K mg base "_law_flat_of" (d + 1) ["text", "deep"] sp → FnOk P w K mg base CX0 (d + 2) f fd ["text", "deep"] (spFlatOf d) by
    intro d
    induction d with
    | zero => exact step 0 (fun _ _ _ _ => False) (fun e h => by omega) ⟨f, fd, ⟨fun vs H Q E h => absurd h id, fun A outer s H args us vs Q E _ _ _ _ h => absurd h id⟩, hm, F.kp, hb⟩
    | succ e ih => exact step (e + 1) _ (fun m h => by injection h with h; rw [h]) ⟨f, fd, ih, hm, F.kp, hb⟩
  intro d sp hsp c__law_flat_of
  refine F.ok sc__law_flat_of (fun vs H Q E h => ?_) (fun cdv A outer s H vs Q E hr h => ?_)
  · obtain ⟨tx, rfl, _⟩ := h
    rfl
  obtain ⟨tx, rfl, htx, q⟩ := h
  refine ⟨_, (pss_cons (ps_if (PW.pt (pw_and (pt_cmpR (inSeq K rfl) (pv 0) (pe_lst (pa_cons pe_str (pa_cons pe_str pa_nil))) (by rfl)) (pw_and1 (pt_cmpR op_gt (pv 1) pe_int (nomark _))))) (pss_one (ps_ret (pe_tup (pa_cons (pv 0) pa_nil)))) pss_nil)
    (pss_cons (ps_if (PW.pt (pw_and (pt_cmpR op_eq (pe_slice sl_str (pv 0) po_none (po_some pe_int)) pe_str (nomark _)) (pw_and (pt_cmpR op_eq (pe_slice sl_str (pv 0) (po_some (pe_un un_neg pe_int)) po_none) pe_str (nomark _)) (pw_and1 (pt_cmpR op_gt (pv 1) pe_int (nomark _)))))) (pss_cons (ps_set (i := 2) sc__law_flat_of.nd rfl (Or.inl rfl) (pc c__law_flat_of (hr.mono (by first | decide | omega)) (pa_cons (pe_slice sl_str (pv 0) (po_some pe_int) (po_some (pe_un un_neg pe_int))) (pa_cons (pe_op op_sub (pv 1) pe_int) pa_nil))))
    (pss_one (ps_ret (pe_ifExp (pt_cmpR op_isN (pv 2) pe_non (nomark _)) pe_non (pe_tup (pa_cons pe_str (pa_cons (pv 2) pa_nil))))))) pss_nil)
    (pss_cons (ps_if (PW.pt (pw_and (pt_cmpR op_gt (pv 1) pe_int (nomark _)) (pw_and1 (pt_val (pc c__law_is_name (hr.mono (by first | decide | omega)) (pa_cons (pv 0) pa_nil)))))) (pss_one (ps_ret (pe_tup (pa_cons pe_str (pa_cons (pv 0) pa_nil))))) pss_nil)
    (pss_one (ps_ret pe_non))))), ?_⟩
  have hz : tx.length ≤ sizeLine := Nat.le_of_lt (line5 (by omega))
  refine seq_abs (fun σ' H' => σ' = [some (.str tx), some (.int (d : Int)), none] ∧ Same H H' ∧ ¬ (tx ∈ (["num", "text"] : List Str) ∧ 0 < d)) (fun σ1 H1 w1 => ?_) (fun nx hnx => ?_)
  rotate_left
  · refine ⟨_, rfl, (by show 2 ≤ sizeLine; decide), fun l nl => ?_⟩
    have s1 := same_new nl (.lst [V.str "num", V.str "text"])
    refine ⟨l, _, rfl, .inl (SqL.of upd_same), rfl, by rfl, _, rfl, ?_⟩
    generalize upd H l (.lst [V.str "num", V.str "text"]) = H1 at s1
    have e0 : (if false = true then !inV (.str tx) [V.str "num", V.str "text"] else inV (.str tx) [V.str "num", V.str "text"]) = decide (tx ∈ (["num", "text"] : List Str)) := inV_str (us := ["num", "text"])
    rw [e0]
    refine ite2 (fun c => ?_) (fun c => ?_)
    · refine ⟨_, rfl, _, _, rfl, rfl, _, rfl, ite2 (fun c2 => ?_) (fun c2 => hnx _ _ ⟨rfl, s1, fun h => c2 (decide_eq_true (by omega))⟩)⟩
      refine ⟨_, rfl, (by show 1 ≤ sizeLine; decide), fun a na => ?_⟩
      have d1 : 0 < d := by
        have := of_decide_eq_true c2
        omega
      obtain ⟨e, rfl⟩ : ∃ e, d = e + 1 := ⟨d - 1, by omega⟩
      refine q _ _ ?_ (s1.trans (same_new na _))
      rcases List.mem_cons.mp (of_decide_eq_true c) with h | h
      · subst h
        rw [lfd, if_pos rfl]
        exact KdAt.num upd_same
      · rcases List.mem_cons.mp h with h | h
        · subst h
          rw [lfd, if_neg (by decide), if_pos rfl]
          exact KdAt.text upd_same
        · cases h
    · exact iteF (hnx _ _ ⟨rfl, s1, fun h => c (decide_eq_true h.1)⟩)
  obtain ⟨rfl, s1, no1⟩ := w1
  refine seq_abs (fun σ' H' => σ' = [some (.str tx), some (.int (d : Int)), none] ∧ H' = H1 ∧ ¬ ((cl tx).take 1 = [91] ∧ lst1 (cl tx) = [93] ∧ 1 < d)) (fun σ2 H2 w2 => ?_) (fun nx hnx => ?_)
  rotate_left
  · refine ⟨_, rfl, _, rfl, tx, rfl, hz, rfl, _, rfl, ?_⟩
    rw [dec_cl, cut_first]
    refine ite2 (fun c => ?_) (fun c => ?_)
    · refine ⟨_, rfl, _, rfl, _, rfl, tx, rfl, hz, rfl, _, rfl, ?_⟩
      rw [dec_cl, cut_lst1]
      refine ite2 (fun c2 => ?_) (fun c2 => ?_)
      · refine ⟨_, rfl, _, _, rfl, rfl, _, rfl, ite2 (fun c3 => ?_) (fun c3 => hnx _ _ ⟨rfl, rfl, fun h => c3 (decide_eq_true (by omega))⟩)⟩
        have d1 : 1 < d := by
          have := of_decide_eq_true c3
          omega
        obtain ⟨e, rfl⟩ : ∃ e, d = e + 1 := ⟨d - 1, by omega⟩
        obtain rfl := hsp e rfl
        have k1 : (cl tx).take 1 = [91] := of_decide_eq_true c
        have k2 : lst1 (cl tx) = [93] := of_decide_eq_true c2
        have ex : lfd (e + 1) (cl tx) = (lfd e (mid (cl tx))).map .row := by
          rw [lfd, if_neg, if_neg, if_pos ⟨k1, k2, by omega⟩]
          · intro h
            rw [h] at k1
            exact absurd k1 (by decide)
          · intro h
            rw [h] at k1
            exact absurd k1 (by decide)
        have e1 : (((e + 1 : Nat) : Int) - 1) = (e : Int) := by omega
        have hcm := cutS_length tx (some 1) (some (-1))
        refine ⟨_, rfl, _, rfl, _, rfl, _, rfl, tx, rfl, hz, _, rfl, _, _, rfl, rfl, cutS tx (some 1) (some (-1)), ?_, by omega, fun v H3 hv s3 => ?_⟩
        · show [V.str _, V.int (((e + 1 : Nat) : Int) - 1)] = _
          rw [e1]
        rw [cut_mid] at hv
        cases ho : lfd e (mid (cl tx)) with
        | none =>
          rw [ho] at hv ex
          obtain rfl : v = .non := hv
          exact ⟨_, rfl, rfl, _, rfl, iteT (q _ _ (by rw [ex]; rfl) (s1.trans s3))⟩
        | some k =>
          rw [ho] at hv ex
          have hv : KdAt H3 v k := hv
          refine ⟨_, rfl, rfl, _, rfl, ?_⟩
          rw [decide_eq_false (KoAt.ne hv)]
          refine iteF ⟨_, rfl, (by show 2 ≤ sizeLine; decide), fun a na => ?_⟩
          refine q _ _ ?_ ((s1.trans s3).trans (same_new na _))
          rw [ex]
          exact KdAt.row upd_same (hv.mono (Tups.of_same (same_new na _)))
      · exact iteF (hnx _ _ ⟨rfl, rfl, fun h => c2 (decide_eq_true h.2.1)⟩)
    · exact iteF (hnx _ _ ⟨rfl, rfl, fun h => c (decide_eq_true h.1)⟩)
  obtain ⟨rfl, rfl, no2⟩ := w2
  refine ⟨_, rfl, _, _, rfl, rfl, _, rfl, ite2 (fun c => ?_) (fun c => ?_)⟩
  · have d0 : 0 < d := by
      have := of_decide_eq_true c
      omega
    obtain ⟨e, rfl⟩ : ∃ e, d = e + 1 := ⟨d - 1, by omega⟩
    have c1 : cl tx ≠ cl "num" := fun h => no1 ⟨by rw [str_ext h]; simp, d0⟩
    have c2 : cl tx ≠ cl "text" := fun h => no1 ⟨by rw [str_ext h]; simp, d0⟩
    have ex : lfd (e + 1) (cl tx) = if nmOk tx = true then some (.of tx) else none := by
      rw [lfd, if_neg c1, if_neg c2, if_neg (fun h => no2 ⟨h.1, h.2.1, by omega⟩), ofL_cl]
    refine ⟨_, rfl, tx, rfl, by omega, fun H3 s3 => ⟨_, rfl, ?_⟩⟩
    cases hk : nmOk tx with
    | true =>
      rw [hk, if_pos rfl] at ex
      refine iteT ⟨_, rfl, (by show 2 ≤ sizeLine; decide), fun a na => ?_⟩
      refine q _ _ ?_ ((s1.trans s3).trans (same_new na _))
      rw [ex]
      exact KdAt.of upd_same
    | false =>
      rw [hk, if_neg (by decide)] at ex
      refine iteF ?_
      refine q _ _ ?_ (s1.trans s3)
      rw [ex]
      rfl
  · have d0 : d = 0 := by
      have : ¬ ((d : Int) > 0) := fun h => c (decide_eq_true h)
      omega
    subst d0
    exact iteF (q _ _ rfl s1)
end
end My
namespace My
open PySem L2
theorem room65 {k : Nat} {A : Around} (r : Room k A) : A.units + 65 < cLine := by
  have := r.un
  omega
inductive KosAt (H : Hp) : List V → List (Option Kd) → Prop
  | nil : KosAt H [] []
  | cons {v : V} {o : Option Kd} {vs : List V} {os : List (Option Kd)} : KoAt H v o → KosAt H vs os → KosAt H (v :: vs) (o :: os)
theorem KoAt.mono {H H' : Hp} {v : V} {o : Option Kd} (h : KoAt H v o) (s : Tups H H') : KoAt H' v o := by
  cases o with
  | none => exact h
  | some k => exact (show KdAt H v k from h).mono s
theorem KosAt.mono {H H' : Hp} (s : Tups H H') : ∀ {vs : List V} {os : List (Option Kd)}, KosAt H vs os → KosAt H' vs os
  | _, _, .nil => .nil
  | _, _, .cons h r => .cons (h.mono s) (KosAt.mono s r)
theorem KosAt.app {H : Hp} : ∀ {vs ws : List V} {os ps : List (Option Kd)}, KosAt H vs os → KosAt H ws ps → KosAt H (vs ++ ws) (os ++ ps)
  | _, _, _, _, .nil, b => b
  | _, _, _, _, .cons h r, b => .cons h (KosAt.app r b)
theorem KosAt.len {H : Hp} : ∀ {vs : List V} {os : List (Option Kd)}, KosAt H vs os → vs.length = os.length
  | _, _, .nil => rfl
  | _, _, .cons _ r => by rw [List.length_cons, KosAt.len r, List.length_cons]
def oda : Option Kd → PyData
  | none => .none
  | some k => k.data
theorem KosAt.dp {K : PySem.W.Frag} {H : Hp} : ∀ {vs : List V} {os : List (Option Kd)}, KosAt H vs os → DpAll K H vs (os.map oda)
  | _, _, .nil => .nil
  | _, _, .cons (o := o) h r => by
    refine .cons ?_ (KosAt.dp r)
    cases o with
    | none =>
      obtain rfl := h
      exact .non
    | some k => exact (show KdAt H _ k from h).dp
theorem oda_none : ∀ os : List (Option Kd), ((os.map oda).any fun z => PyData.eqv z .none) = os.any Option.isNone
  | [] => rfl
  | o :: r => by
    rw [List.map_cons, List.any_cons, List.any_cons, oda_none r]
    cases o with
    | none => rfl
    | some k => cases k <;> rfl
theorem oda_shaped {d : Nat} (hd : d ≤ 10) : ∀ {ws : List (List Nat)}, PyData.canLayAll0 ((ws.map (lfd d)).map oda) = true ∧ PyData.depthAll ((ws.map (lfd d)).map oda) ≤ 2 * d
  | [] => ⟨rfl, Nat.zero_le _⟩
  | w :: ws => by
    obtain ⟨a, b⟩ := oda_shaped hd (ws := ws)
    rw [List.map_cons, List.map_cons, PyData.canLayAll0, PyData.depthAll]
    cases e : lfd d w with
    | none =>
      refine ⟨?_, ?_⟩
      · rw [a]
        rfl
      · show max (PyData.depth .none) _ ≤ _
        rw [show PyData.depth .none = 0 by simp [PyData.depth]]
        omega
    | some k =>
      obtain ⟨_, h2, h3, h4⟩ := (lfd_iff d w k).mp e
      have := Kd.data_depth k
      refine ⟨?_, ?_⟩
      · rw [a]
        show (PyData.canLay0 k.data && true) = true
        rw [Kd.data_lay k fun x hx => (h4 x hx).1.2]
        rfl
      · show max (PyData.depth k.data) _ ≤ _
        omega
theorem kosome {H : Hp} : ∀ {vs : List V} {os : List (Option Kd)}, KosAt H vs os → os.any Option.isNone = false → KdsAt H vs (os.filterMap id)
  | _, _, .nil, _ => .nil
  | _, _, .cons (o := o) h r, e => by
    rw [List.any_cons, Bool.or_eq_false_iff] at e
    cases o with
    | none => exact absurd e.1 (by decide)
    | some k => exact .cons h (kosome r e.2)
theorem split_sep (a b : Str) {S : List Nat} (hb : cl b = S) (hS : S ≠ []) (hk : b.cps.all (· < 256) = true) : (Txt.split a b).map cl = TL.spl S 0 [] (cl a) ∧ ((Txt.split a b).map (·.length)).sum + (Txt.split a b).length * S.length = a.length + S.length := by
  have e : (Txt.split a b).map TL.tl = TL.spl (TL.tl b) 0 [] (TL.tl a) := TL.split_spl a b (by rw [show TL.tl b = S from hb]; exact hS) (TL.kind_ok hk)
  rw [show TL.tl b = S from hb] at e
  refine ⟨e, ?_⟩
  obtain ⟨j1, j2⟩ := spl_joined hS (TL.tl a).length (TL.tl a) [] (Nat.le_refl _)
  rw [← e] at j1 j2
  have hl := joinL_len S _ j2
  rw [j1, List.nil_append, List.map_map, List.length_map] at hl
  have e2 : ((fun x : List Nat => x.length) ∘ TL.tl) = fun x : Str => x.length := funext fun x => (TL.len_tl x).symm
  rw [e2, ← TL.len_tl] at hl
  exact hl.symm
theorem le_sumS {y : Str} : ∀ {ys : List Str}, y ∈ ys → y.length ≤ (ys.map (·.length)).sum
  | z :: r, h => by
    rw [List.map_cons, List.sum_cons]
    rcases List.mem_cons.mp h with rfl | h
    · omega
    · have := le_sumS h
      omega
def spKindOf (d : Nat) : Sp := fun vs H Q _ => ∃ (tx : Str), vs = [.str tx, .int ((d + 1 : Nat) : Int)] ∧ tx.length ≤ 20000 ∧ ∀ v H', KoAt H' v (lkd d (cl tx)) → Same H H' → Q v H'
def spFlatOfTo (E : Nat) : Sp := fun vs H Q X => ∃ d, d ≤ E ∧ spFlatOf d vs H Q X
def Pko (H0 : Hp) (D : Addr) (os : List (Option Kd)) (i : Nat) (H : Hp) : Prop := Same H0 H ∧ ∃ vs, H D = some (.lst vs) ∧ KosAt H vs (os.take i)
section
variable {P : Program} {w : World} {K : PySem.W.Frag} {mg : Str → Option Value} {base : Heap} {f : Addr} {fd : FuncData}
theorem ok_kind_of (B : Bn mg) (F : Fun K "_law_kind_of" "_law_kind_of" s__law_kind_of f fd) (hm : mg "_law_kind_of" = some (.ref f)) (hb : Binds K fd ["text", "deep"] []) (c__law_flat_of : Cal P w K mg base "_law_flat_of" 7 ["text", "deep"] (spFlatOfTo 5)) :
    ∀ d : Nat, d ≤ 4 → FnOk P w K mg base CX0 (d + 8) f fd ["text", "deep"] (spKindOf d) := by
  suffices step : ∀ (d : Nat) (sp : Sp), d ≤ 4 → (∀ e, d = e + 1 → sp = spKindOf e) → Cal P w K mg base "_law_kind_of" (d + 7) ["text", "deep"] sp → FnOk P w K mg base CX0 (d + 8) f fd ["text", "deep"] (spKindOf d) by
    intro d
    induction d with
    | zero => exact fun _ => step 0 (fun _ _ _ _ => False) (by omega) (fun e h => by omega) ⟨f, fd, ⟨fun vs H Q E h => absurd h id, fun A outer s H args us vs Q E _ _ _ _ h => absurd h id⟩, hm, F.kp, hb⟩
    | succ e ih => exact fun le => step (e + 1) _ le (fun m h => by injection h with h; rw [h]) ⟨f, fd, (ih (by omega)).mono (by omega), hm, F.kp, hb⟩
  intro d sp hd4 hsp c__law_kind_of
  refine F.ok sc__law_kind_of (fun vs H Q E h => ?_) (fun cdv A outer s H vs Q E hr h => ?_)
  · obtain ⟨tx, rfl, _⟩ := h
    rfl
  obtain ⟨tx, rfl, htx, q⟩ := h
  refine ⟨_, (pss_cons (ps_if (PW.pt (pw_and (pt_cmpR op_eq (pe_slice sl_str (pv 0) po_none (po_some pe_int)) pe_str (nomark _)) (pw_and (pt_cmpR op_eq (pe_slice sl_str (pv 0) (po_some (pe_un un_neg pe_int)) po_none) pe_str (nomark _)) (pw_and1 (pt_cmpR op_gt (pv 1) pe_int (nomark _)))))) (pss_cons (ps_set (i := 5) sc__law_kind_of.nd rfl (Or.inl rfl) (pc c__law_kind_of (hr.mono (by first | decide | omega)) (pa_cons (pe_slice sl_str (pv 0) (po_some pe_int) (po_some (pe_un un_neg pe_int))) (pa_cons (pe_op op_sub (pv 1) pe_int) pa_nil))))
    (pss_one (ps_ret (pe_ifExp (pt_cmpR op_isN (pv 5) pe_non (nomark _)) pe_non (pe_tup (pa_cons pe_str (pa_cons (pv 5) pa_nil))))))) pss_nil)
    (pss_cons (ps_if (pt_cmpR op_ne (pe_slice sl_str (pv 0) po_none (po_some pe_int)) pe_str (nomark _)) (pss_one (ps_ret (pc c__law_flat_of (hr.mono (by first | decide | omega)) (pa_cons (pv 0) (pa_cons (pv 1) pa_nil))))) pss_nil)
    (pss_cons (ps_if (PW.pt (pw_or (pt_cmpR op_ne (pe_slice sl_str (pv 0) (po_some (pe_un un_neg pe_int)) po_none) pe_str (nomark _)) (pw_or1 (pt_cmpR op_lt (pe_callB call_len_str (by rfl) B.b_len PySem.boot_len (pa_cons (pv 0) pa_nil)) pe_int (nomark _))))) (pss_one (ps_ret pe_non)) pss_nil)
    (pss_cons (ps_set (i := 2) sc__law_kind_of.nd rfl (Or.inl rfl) (pe_split (pe_slice sl_str (pv 0) (po_some pe_int) (po_some (pe_un un_neg pe_int))) pe_str))
    (pss_cons (ps_if (PW.pt (pw_or (pt_cmpR op_ne (pe_callB (lenSeq K rfl) (by rfl) B.b_len PySem.boot_len (pa_cons (pv 2) pa_nil)) pe_int (nomark _)) (pw_or1 (PW.pt (pw_and (pt_cmpR op_ne (pe_ix (ixL K rfl) (pv 2) pe_int (fun _ _ => rfl)) pe_str (nomark _)) (pw_and1 (pt_cmpR op_ne (pe_slice sl_str (pe_ix (ixL K rfl) (pv 2) pe_int (fun _ _ => rfl)) (po_some (pe_un un_neg pe_int)) po_none) pe_str (nomark _)))))))) (pss_one (ps_ret pe_non)) pss_nil)
    (pss_cons (ps_set (i := 3) sc__law_kind_of.nd rfl (Or.inl rfl) (pe_lst pa_nil))
    (pss_cons (ps_if (pt_cmpR op_ne (pe_ix (ixL K rfl) (pv 2) pe_int (fun _ _ => rfl)) pe_str (nomark _)) (pss_one (ps_setLc (i := 3) (own := [("one", 6)]) (g := (gName 6)) rfl sc__law_kind_of.nd rfl rfl (sw_true rfl rfl rfl (by decide +kernel)) (piL K rfl (pe_split (pe_slice sl_str (pe_ix (ixL K rfl) (pv 2) pe_int (fun _ _ => rfl)) po_none (po_some (pe_un un_neg pe_int))) pe_str)) (blkOk_by (N := ["text", "deep", "words", "called", "answer", "lower", "one"]) (sc := defScope s__law_kind_of) (by decide +kernel)) (fun _ _ _ _ _ => (pg_name (i := 6) sc__law_kind_of.nd rfl (Or.inl rfl) (hf := Or.inr rfl))) (fun _ _ _ _ _ => pts_nil) (fun _ _ _ _ _ => (pc c__law_flat_of (hr.mono (by first | decide | omega)) (pa_cons (pv 6) (pa_cons (pe_op op_sub (pv 1) pe_int) pa_nil)))))) pss_nil)
    (pss_cons (ps_set (i := 4) sc__law_kind_of.nd rfl (Or.inl rfl) (pc c__law_flat_of (hr.mono (by first | decide | omega)) (pa_cons (pe_ix (ixL K rfl) (pv 2) pe_int (fun _ _ => rfl)) (pa_cons (pe_op op_sub (pv 1) pe_int) pa_nil))))
    (pss_cons (ps_if (PW.pt (pw_or (pt_cmpR (inDp K rfl (room65 hr)) pe_non (pv 3) (by rfl)) (pw_or (pt_cmpR op_isN (pv 4) pe_non (nomark _)) (pw_or1 (pt_cmpR op_gt (pe_callB (lenSeq K rfl) (by rfl) B.b_len PySem.boot_len (pa_cons (pv 3) pa_nil)) pe_int (nomark _)))))) (pss_one (ps_ret pe_non)) pss_nil)
    (pss_one (ps_ret (pe_tup (pa_cons pe_str (pa_cons (pe_callTy (tupleOf K rfl) (by rfl) B.b_tuple (by decide +kernel) (pa_cons (pv 3) pa_nil)) (pa_cons (pv 4) pa_nil))))))))))))))), ?_⟩
  have hz : ∀ {z : Str}, z.length ≤ tx.length → z.length ≤ sizeLine := fun h => Nat.le_of_lt (line5 (by omega))
  refine seq_abs (fun σ' H' => σ' = [some (.str tx), some (.int ((d + 1 : Nat) : Int)), none, none, none, none, none] ∧ H' = H ∧ lkd d (cl tx) = lrest d (cl tx)) (fun σ2 H2 w2 => ?_) (fun nx hnx => ?_)
  rotate_left
  · have leave : ¬ ((cl tx).take 1 = [91] ∧ lst1 (cl tx) = [93] ∧ 0 < d) → lkd d (cl tx) = lrest d (cl tx) := fun h => by
      cases d with
      | zero => rw [lkd]
      | succ e => rw [lkd, if_neg fun z => h ⟨z.1, z.2, by omega⟩]
    refine ⟨_, rfl, _, rfl, tx, rfl, hz (Nat.le_refl _), rfl, _, rfl, ?_⟩
    rw [dec_cl, cut_first]
    refine ite2 (fun c => ?_) (fun c => ?_)
    · refine ⟨_, rfl, _, rfl, _, rfl, tx, rfl, hz (Nat.le_refl _), rfl, _, rfl, ?_⟩
      rw [dec_cl, cut_lst1]
      refine ite2 (fun c2 => ?_) (fun c2 => ?_)
      · refine ⟨_, rfl, _, _, rfl, rfl, _, rfl, ite2 (fun c3 => ?_) (fun c3 => hnx _ _ ⟨rfl, rfl, leave fun h => c3 (decide_eq_true (by omega))⟩)⟩
        have d1 : 0 < d := by
          have := of_decide_eq_true c3
          omega
        obtain ⟨e, rfl⟩ : ∃ e, d = e + 1 := ⟨d - 1, by omega⟩
        obtain rfl := hsp e rfl
        have k1 : (cl tx).take 1 = [91] := of_decide_eq_true c
        have k2 : lst1 (cl tx) = [93] := of_decide_eq_true c2
        have ex : lkd (e + 1) (cl tx) = (lkd e (mid (cl tx))).map .row := by rw [lkd, if_pos ⟨k1, k2⟩]
        have e1 : (((e + 1 + 1 : Nat) : Int) - 1) = ((e + 1 : Nat) : Int) := by omega
        have hcm := cutS_length tx (some 1) (some (-1))
        refine ⟨_, rfl, _, rfl, _, rfl, _, rfl, tx, rfl, hz (Nat.le_refl _), _, rfl, _, _, rfl, rfl, cutS tx (some 1) (some (-1)), ?_, by omega, fun v H3 hv s3 => ?_⟩
        · show [V.str _, V.int (((e + 1 + 1 : Nat) : Int) - 1)] = _
          rw [e1]
        rw [cut_mid] at hv
        cases ho : lkd e (mid (cl tx)) with
        | none =>
          rw [ho] at hv ex
          obtain rfl : v = .non := hv
          exact ⟨_, rfl, rfl, _, rfl, iteT (q _ _ (by rw [ex]; rfl) s3)⟩
        | some k =>
          rw [ho] at hv ex
          have hv : KdAt H3 v k := hv
          refine ⟨_, rfl, rfl, _, rfl, ?_⟩
          rw [decide_eq_false (KoAt.ne hv)]
          refine iteF ⟨_, rfl, (by show 2 ≤ sizeLine; decide), fun a na => ?_⟩
          refine q _ _ ?_ (s3.trans (same_new na _))
          rw [ex]
          exact KdAt.row upd_same (hv.mono (Tups.of_same (same_new na _)))
      · exact iteF (hnx _ _ ⟨rfl, rfl, leave fun h => c2 (decide_eq_true h.2.1)⟩)
    · exact iteF (hnx _ _ ⟨rfl, rfl, leave fun h => c (decide_eq_true h.1)⟩)
  obtain ⟨rfl, rfl, el⟩ := w2
  rw [el] at q
  refine seq_abs (fun σ' H' => σ' = [some (.str tx), some (.int ((d + 1 : Nat) : Int)), none, none, none, none, none] ∧ H' = H2 ∧ (cl tx).take 1 = [40]) (fun σ3 H3 w3 => ?_) (fun nx hnx => ?_)
  rotate_left
  · refine ⟨_, rfl, _, rfl, tx, rfl, hz (Nat.le_refl _), rfl, _, rfl, ?_⟩
    rw [dec_cl, cut_first]
    by_cases c : (cl tx).take 1 = [40]
    · rw [show decide ((cl tx).take 1 = cl "(") = true from decide_eq_true c]
      exact iteF (hnx _ _ ⟨rfl, rfl, c⟩)
    · rw [show decide ((cl tx).take 1 = cl "(") = false from decide_eq_false c]
      refine iteT ⟨_, rfl, _, rfl, d + 1, by omega, tx, rfl, htx, fun v H3 hv s3 => q v H3 ?_ s3⟩
      unfold lrest
      rw [if_pos c]
      exact hv
  obtain ⟨rfl, rfl, h40⟩ := w3
  have q40 : ∀ v H', KoAt H' v (if lst1 (cl tx) ≠ [41] ∨ (cl tx).length < 6 then none else lcl d (TL.spl [45, 62, 32] 0 [] (mid (cl tx)))) → Same H3 H' → Q v H' := fun v H' hv s' => q v H' (by
    unfold lrest
    rw [if_neg (fun h => h h40)]
    exact hv) s'
  clear q
  refine seq_abs (fun σ' H' => σ' = [some (.str tx), some (.int ((d + 1 : Nat) : Int)), none, none, none, none, none] ∧ H' = H3 ∧ ¬ (lst1 (cl tx) ≠ [41] ∨ (cl tx).length < 6)) (fun σ4 H4 w4 => ?_) (fun nx hnx => ?_)
  rotate_left
  · refine ⟨_, rfl, _, rfl, _, rfl, tx, rfl, hz (Nat.le_refl _), rfl, _, rfl, ?_⟩
    rw [dec_cl, cut_lst1]
    by_cases c : lst1 (cl tx) = [41]
    · rw [show decide (lst1 (cl tx) = cl ")") = true from decide_eq_true c]
      refine iteF ⟨_, rfl, _, rfl, hz (Nat.le_refl _), _, _, rfl, rfl, _, rfl, ite2 (fun c2 => ?_) (fun c2 => ?_)⟩
      · have : (cl tx).length < 6 := by
          have := of_decide_eq_true c2
          rw [cl_len]
          omega
        exact q40 _ _ (by rw [if_pos (.inr this)]; rfl) (Same.refl _)
      · have : ¬ (cl tx).length < 6 := fun h => c2 (decide_eq_true (by rw [cl_len] at h; omega))
        exact hnx _ _ ⟨rfl, rfl, fun h => h.elim (fun z => z c) this⟩
    · rw [show decide (lst1 (cl tx) = cl ")") = false from decide_eq_false c]
      exact iteT (q40 _ _ (by rw [if_pos (.inl c)]; rfl) (Same.refl _))
  obtain ⟨rfl, rfl, h41⟩ := w4
  have q41 : ∀ v H', KoAt H' v (lcl d (TL.spl [45, 62, 32] 0 [] (mid (cl tx)))) → Same H4 H' → Q v H' := fun v H' hv s' => q40 v H' (by rw [if_neg h41]; exact hv) s'
  clear q40
  have hcm := cutS_length tx (some 1) (some (-1))
  refine seq_set ?_
  refine ⟨_, rfl, _, rfl, _, rfl, _, rfl, tx, rfl, hz (Nat.le_refl _), ⟨_, rfl⟩, _, _, rfl, rfl, rfl, Nat.le_of_lt (line5 (by omega)), fun p np => ?_⟩
  obtain ⟨ecl, esum⟩ := split_sep (cutS tx (some 1) (some (-1))) "-> " (S := [45, 62, 32]) rfl (by simp) (by decide +kernel)
  rw [cut_mid] at ecl
  rw [← ecl] at q41
  generalize cutS tx (some 1) (some (-1)) = mtx at hcm ecl esum q41 ⊢
  generalize Txt.split mtx "-> " = ws at ecl esum q41 ⊢
  clear ecl
  have wle : ∀ x ∈ ws, x.length ≤ tx.length := fun x hx => by
    have h1 := le_sumS hx
    have h2 : 1 ≤ ws.length := List.length_pos_iff.mpr (List.ne_nil_of_mem hx)
    have h3 : ([45, 62, 32] : List Nat).length = 3 := rfl
    rw [h3] at esum
    omega
  have s5 := same_new np (.lst (ws.map V.str))
  have hp : (upd H4 p (.lst (ws.map V.str))) p = some (.lst (ws.map V.str)) := upd_same
  generalize upd H4 p (.lst (ws.map V.str)) = H5 at s5 hp
  refine seq_abs (fun σ' H' => σ' = [some (.str tx), some (.int ((d + 1 : Nat) : Int)), some (.ref p), none, none, none, none] ∧ H' = H5 ∧ ∃ w0 w1, ws = [w0, w1] ∧ ¬ (cl w0 ≠ [] ∧ lst1 (cl w0) ≠ [32])) (fun σ6 H6 w6 => ?_) (fun nx hnx => ?_)
  rotate_left
  · refine ⟨_, rfl, p, _, rfl, .inl (SqL.of hp), rfl, _, rfl, ?_⟩
    by_cases c : ws.length = 2
    · obtain ⟨w0, w1, rfl⟩ : ∃ w0 w1, ws = [w0, w1] := by
        match ws, c with
        | [w0, w1], _ => exact ⟨w0, w1, rfl⟩
      refine iteF ?_
      refine ⟨_, rfl, _, _, _, .str w0, rfl, rfl, SqL.of hp, at_of (j := 0) rfl rfl, rfl, _, rfl, ?_⟩
      rw [dec_cl]
      by_cases c0 : cl w0 = []
      · rw [show decide (cl w0 = cl "") = true from decide_eq_true c0]
        exact iteF (hnx _ _ ⟨rfl, rfl, w0, w1, rfl, fun h => h.1 c0⟩)
      · rw [show decide (cl w0 = cl "") = false from decide_eq_false c0]
        refine iteT ?_
        refine ⟨_, rfl, _, _, _, .str w0, rfl, rfl, SqL.of hp, at_of (j := 0) rfl rfl, _, rfl, _, rfl, w0, rfl, hz (wle w0 (by simp)), rfl, _, rfl, ?_⟩
        rw [dec_cl, cut_lst1]
        by_cases c1 : lst1 (cl w0) = [32]
        · rw [show decide (lst1 (cl w0) = cl " ") = true from decide_eq_true c1]
          exact iteF (hnx _ _ ⟨rfl, rfl, w0, w1, rfl, fun h => h.2 c1⟩)
        · rw [show decide (lst1 (cl w0) = cl " ") = false from decide_eq_false c1]
          refine iteT (q41 _ _ ?_ s5)
          show KoAt _ _ (lcl d [cl w0, cl w1])
          unfold lcl
          simp only
          rw [if_pos ⟨c0, c1⟩]
          rfl
    · rw [show decide (V.int (((ws.map V.str).length : Nat) : Int) = V.int 2) = false from decide_eq_false (by rw [List.length_map]; intro h; injection h with h; omega)]
      refine iteT (q41 _ _ ?_ s5)
      have : lcl d (ws.map cl) = none := by
        match ws, c with
        | [], _ => rfl
        | [_], _ => rfl
        | [_, _], c => exact absurd rfl c
        | _ :: _ :: _ :: _, _ => rfl
      rw [this]
      rfl
  obtain ⟨rfl, rfl, w0, w1, rfl, hw0⟩ := w6
  have l0 := wle w0 (by simp)
  have l1 := wle w1 (by simp)
  have q2 : ∀ (v : V) (H' : Hp), KoAt H' v (lcl d [cl w0, cl w1]) → Same H6 H' → Q v H' := fun v H' hv s' => q41 v H' hv (s5.trans s')
  clear q41 wle esum
  unfold lcl at q2
  simp only at q2
  rw [if_neg hw0] at q2
  generalize hcd : (if cl w0 = [] then [] else (TL.spl [44, 32] 0 [] ((cl w0).take ((cl w0).length - 1))).map (lfd d)) = called at q2
  refine seq_set ?_
  refine ⟨Nat.zero_le _, fun pc npc => ?_⟩
  have s7 := same_new npc (.lst [])
  have hpc : (upd H6 pc (.lst [])) pc = some (.lst []) := upd_same
  generalize upd H6 pc (.lst []) = H7 at s7 hpc
  refine seq_abs (fun σ' H' => ∃ (pc : Addr) (vs : List V), σ' = [some (.str tx), some (.int ((d + 1 : Nat) : Int)), some (.ref p), some (.ref pc), none, none, none] ∧ Same H6 H' ∧ H' pc = some (.lst vs) ∧ KosAt H' vs called ∧ called.length ≤ 20010 ∧ SeqAt.shaped (.list (called.map oda)) = true) (fun σ8 H8 w8 => ?_) (fun nx hnx => ?_)
  rotate_left
  · refine ⟨_, rfl, _, _, _, .str w0, rfl, rfl, SqL.of (s7 _ _ hp), at_of (j := 0) rfl rfl, rfl, _, rfl, ?_⟩
    rw [dec_cl]
    by_cases c0 : cl w0 = []
    · rw [show decide (cl w0 = cl "") = true from decide_eq_true c0]
      rw [if_pos c0] at hcd
      subst hcd
      exact iteF (hnx _ _ ⟨pc, [], rfl, s7, hpc, .nil, by decide, rfl⟩)
    · rw [show decide (cl w0 = cl "") = false from decide_eq_false c0]
      rw [if_neg c0, ← cut_but] at hcd
      refine iteT ?_
      have hcb := cutS_length w0 none (some (-1))
      have e1 : (((d + 1 : Nat) : Int) - 1) = (d : Int) := by omega
      refine ⟨_, rfl, _, _, _, .str w0, rfl, rfl, SqL.of (s7 _ _ hp), at_of (j := 0) rfl rfl, _, rfl, _, rfl, w0, rfl, hz l0, ⟨_, rfl⟩, _, _, rfl, rfl, rfl, Nat.le_of_lt (line5 (by omega)), fun p2 np2 => ?_⟩
      obtain ⟨ecl, esum⟩ := split_sep (cutS w0 none (some (-1))) ", " (S := [44, 32]) rfl (by simp) (by decide +kernel)
      rw [← ecl] at hcd
      generalize cutS w0 none (some (-1)) = mtx at hcb ecl esum hcd ⊢
      generalize Txt.split mtx ", " = ys at ecl esum hcd ⊢
      have s9 := same_new np2 (.lst (ys.map V.str))
      have hp2 : (upd H7 p2 (.lst (ys.map V.str))) p2 = some (.lst (ys.map V.str)) := upd_same
      generalize upd H7 p2 (.lst (ys.map V.str)) = H9 at s9 hp2 ⊢
      have two : ([44, 32] : List Nat).length = 2 := rfl
      rw [two] at esum
      have yle : ∀ x ∈ ys, x.length ≤ 20000 := fun x hx => by
        have h1 := le_sumS hx
        have h2 : 1 ≤ ys.length := List.length_pos_iff.mpr (List.ne_nil_of_mem hx)
        omega
      have lcd : called.length = ys.length := by rw [← hcd, List.length_map, List.length_map]
      refine ⟨p2, rfl, ⟨_, SqL.of hp2⟩, fun D nD => lc_list (xs := ys.map V.str) (Pko H9 D called) ?_ ?_ ?_ ?_⟩
      · exact ⟨same_new nD _, [], upd_same, .nil⟩
      · exact fun i H10 _ p => SqL.of (p.1 _ _ hp2)
      · rintro i x H10 hx ⟨s10, vs, hD, kv⟩
        rw [List.getElem?_map] at hx
        obtain ⟨y, hy, rfl⟩ := Option.map_eq_some_iff.mp hx
        have hyo : called[i]? = some (lfd d (cl y)) := by
          rw [← hcd, List.map_map, List.getElem?_map, hy]
          rfl
        have hil : i < ys.length := (List.getElem?_eq_some_iff.mp hy).1
        refine ⟨rfl, _, rfl, _, rfl, _, _, rfl, rfl, d, by omega, y, ?_, yle y (List.mem_of_getElem? hy), fun v H11 hv s11 => ?_⟩
        · show [V.str y, V.int (((d + 1 : Nat) : Int) - 1)] = _
          rw [e1]
        refine ⟨vs, s11 _ _ hD, line5 (by have := kv.len; rw [List.length_take] at this; omega), Same.atNew (s10.trans s11) nD, vs ++ [v], upd_same, ?_⟩
        rw [← take_next hyo]
        have T : Tups H11 (upd H11 D (.lst (vs ++ [v]))) := Tups.upd (s11 _ _ hD)
        exact (kv.mono ((Tups.of_same s11).trans T)).app (.cons (hv.mono T) .nil)
      rintro H10 ⟨s10, vs, hD, kv⟩
      rw [List.length_map, ← lcd, List.take_length] at kv
      refine hnx _ _ ⟨D, vs, rfl, s7.trans (s9.trans s10), hD, kv, by omega, ?_⟩
      obtain ⟨sh1, sh2⟩ := oda_shaped (d := d) (by omega) (ws := ys.map cl)
      rw [hcd] at sh1 sh2
      unfold SeqAt.shaped
      rw [show PyData.canLay0 (.list (called.map oda)) = true by rw [PyData.canLay0]; exact sh1, Bool.true_and]
      exact decide_eq_true (by rw [PyData.depth]; omega)
  obtain ⟨pc, vs, rfl, s8, hpc8, kv, lcd, shp⟩ := w8
  have hp8 := s8 _ _ hp
  have e1 : (((d + 1 : Nat) : Int) - 1) = (d : Int) := by omega
  refine seq_set ?_
  refine ⟨_, rfl, _, _, _, .str w1, rfl, rfl, SqL.of hp8, at_of (j := 1) rfl rfl, _, rfl, _, _, rfl, rfl, d, by omega, w1, ?_, by omega, fun u H9 hu s9 => ?_⟩
  · show [V.str w1, V.int (((d + 1 : Nat) : Int) - 1)] = _
    rw [e1]
  have hpc9 := s9 _ _ hpc8
  have kv9 := kv.mono (Tups.of_same s9)
  have lv := kv9.len
  refine seq_abs (fun σ' H' => σ' = [some (.str tx), some (.int ((d + 1 : Nat) : Int)), some (.ref p), some (.ref pc), some u, none, none] ∧ H' = H9 ∧ (called.any Option.isNone || ((lfd d (cl w1)).isNone || decide (3 < called.length))) = false) (fun σ10 H10 w10 => ?_) (fun nx hnx => ?_)
  rotate_left
  · have stop : (called.any Option.isNone || ((lfd d (cl w1)).isNone || decide (3 < called.length))) = true → Q .non H9 := fun h => q2 .non H9 (by rw [if_pos h]; rfl) (s8.trans s9)
    refine ⟨_, rfl, .none, _, .non, .lst (SqL.of hpc9) kv9.dp, rfl, shp, _, rfl, ?_⟩
    rw [oda_none]
    cases h1 : called.any Option.isNone with
    | true => exact iteT (stop (by rw [h1]; rfl))
    | false =>
      refine iteF ⟨_, rfl, rfl, _, rfl, ?_⟩
      cases h2 : lfd d (cl w1) with
      | none =>
        rw [h2] at hu
        obtain rfl : u = .non := hu
        exact iteT (stop (by rw [h2]; simp))
      | some r =>
        rw [h2] at hu
        rw [decide_eq_false (KoAt.ne (show KdAt H9 u r from hu))]
        refine iteF ⟨_, rfl, pc, _, rfl, .inl (SqL.of hpc9), _, _, rfl, rfl, _, rfl, ite2 (fun c => ?_) (fun c => ?_)⟩
        · have := of_decide_eq_true c
          exact stop (by rw [h2, decide_eq_true (show 3 < called.length by omega)]; simp)
        · have : ¬ 3 < called.length := fun h => c (decide_eq_true (by omega))
          exact hnx _ _ ⟨rfl, rfl, by rw [h1, h2, decide_eq_false this]; rfl⟩
  obtain ⟨rfl, rfl, hno⟩ := w10
  rw [if_neg (by rw [hno]; decide)] at q2
  rw [Bool.or_eq_false_iff, Bool.or_eq_false_iff] at hno
  cases h2 : lfd d (cl w1) with
  | none =>
    rw [h2] at hno
    exact absurd hno.2.1 (by decide)
  | some r =>
    rw [h2] at q2 hu
    have hu : KdAt H10 u r := hu
    refine ⟨_, rfl, pc, vs, rfl, .inl ⟨SqL.of hpc9, fun t nt => ?_⟩⟩
    have s11 := same_new nt (.tup vs)
    have ht : (upd H10 t (.tup vs)) t = some (.tup vs) := upd_same
    generalize upd H10 t (.tup vs) = H11 at s11 ht ⊢
    refine ⟨_, rfl, (by show 3 ≤ sizeLine; decide), fun a na => ?_⟩
    have s12 := same_new na (.tup [.str "calls", .ref t, u])
    have T := (Tups.of_same s11).trans (Tups.of_same s12)
    exact q2 _ _ (KdAt.calls upd_same (s12 _ _ ht) (kosome (kv9.mono T) hno.1) (hu.mono T)) ((s8.trans s9).trans (s11.trans s12))
end
end My
namespace My
open PySem L2
def spLaw (K : PySem.W.Frag) : Sp := fun vs H Q _ => ∃ (a : Addr) (ns : List Int), vs = [.ref a] ∧ SqL K H a (ns.map V.int) ∧ ns.length ≤ 63 ∧ ∀ H', Q (.bl true) H'
def spKindTo (E : Nat) : Sp := fun vs H Q X => ∃ e, e ≤ E ∧ spKind e vs H Q X
def spSpoilt : Sp := fun vs H Q _ => ∃ (d g : Addr) (n : Int) (tx : Str), vs = [.ref d, .str tx] ∧ Tray H d g n ∧ n ≤ 700000 ∧ tx.length ≤ 9000 ∧ ∀ (z : Str) (H' : Hp), z.length ≤ 2 * tx.length + 1000 → Tray H' d g (n + 20) → But d g H H' → Q (.str z) H'
theorem sc_law61 : FnScope ["script", "tray", "names", "k", "spoils", "odd", "text", "due", "found", "refused", "j", "e"] ["script"] (defScope s_law) := ⟨rfl, rfl, rfl, by decide +kernel, rfl, by decide +kernel, by decide +kernel⟩
def bnd : Nat → Nat
  | 0 => 1400
  | 1 => 3800
  | 2 => 8600
  | _ => 18200
theorem bnd_step {i a b : Nat} (hi : i < 3) (ha : a ≤ bnd i) (hb : b ≤ 2 * a + 1000) : a ≤ 9000 ∧ b ≤ bnd (i + 1) := by
  have : i = 0 ∨ i = 1 ∨ i = 2 := by omega
  rcases this with rfl | rfl | rfl <;> simp only [bnd] at * <;> omega
theorem bnd_le (i : Nat) : bnd i ≤ 20000 := by
  match i with
  | 0 => decide
  | 1 => decide
  | 2 => decide
  | n + 3 => show 18200 ≤ 20000; decide
def Plaw (a d g nl : Addr) (n : Int) (nms : List Str) (H0 : Hp) (i : Nat) (σ : St) (H : Hp) : Prop :=
  ∃ u3 u4 u5 u6 u7 u8 u9 u10 u11, σ = [some (.ref a), some (.ref d), some (.ref nl), u3, u4, u5, u6, u7, u8, u9, u10, u11] ∧ But d g H0 H ∧ Tray H d g (n + 200 * (i : Int)) ∧ H nl = some (.lst (nms.map V.str))
def Pspl (a d g nl : Addr) (n : Int) (nms : List Str) (H0 : Hp) (i : Nat) (σ : St) (H : Hp) : Prop :=
  ∃ tx u3 u4 u5 u7 u8 u9 u10 u11, σ = [some (.ref a), some (.ref d), some (.ref nl), u3, u4, u5, some (.str tx), u7, u8, u9, u10, u11] ∧ tx.length ≤ bnd i ∧ But d g H0 H ∧ Tray H d g (n + 20 * (i : Int)) ∧ H nl = some (.lst (nms.map V.str))
section
variable {P : Program} {w : World} {K : PySem.W.Frag} {mg : Str → Option Value} {base : Heap} {f : Addr} {fd : FuncData} {D fN cN kN D0 f0 c0 e0 C1 C2 C3 C4 C5 C6 C7 C8 : Addr} {gN g0 : FuncData}
set_option maxHeartbeats 2000000 in
theorem ok_law (B : Bn mg) (F : Fun K "law" "law" s_law f fd) (N : NoTextC P K mg D fN cN kN gN D0 f0 c0 e0 g0) (te : PySem.W.exmOne K (.ref D) (.ref D) = some true) (xf : XfC K D) (nw : PySem.W.findIn K (.ref D) "what" = some none) (T : ErrI K D)
    (hSt : mg "StillError" = some (.ref D0)) (hVE : mg "ValueError" = none) (h1 : mg "Breaks" = some (.ref C1)) (h2 : mg "Holds" = some (.ref C2)) (h3 : mg "NoBridge" = some (.ref C3)) (h4 : mg "NoEdition" = some (.ref C4)) (h5 : mg "NoKind" = some (.ref C5)) (h6 : mg "NoName" = some (.ref C6)) (h7 : mg "NoRow" = some (.ref C7)) (h8 : mg "TooGreat" = some (.ref C8))
    (kSt : PySem.W.kitOne K (.ref D) (.ref D0) = some true) (kVE : PySem.W.kitOne K (.ref D) (.type "ValueError") = some true) (kAny : PySem.W.kitAny K (.ref D) [.ref C1, .ref C2, .ref C3, .ref C4, .ref C5, .ref C6, .ref C7, .ref C8] = some false)
    (c__law_tray : Cal P w K mg base "_law_tray" 1 ["script"] (spTray K)) (c__law_draw : Cal P w K mg base "_law_draw" 1 ["tray", "many"] spDraw)
    (c__law_names : Cal P w K mg base "_law_names" 3 ["tray", "many", "used"] spNames) (c__law_kind : Cal P w K mg base "_law_kind" 12 ["tray", "names", "deep"] (spKindTo 5))
    (c__law_shown : Cal P w K mg base "_law_shown" 6 ["kind"] (spShow 5)) (c__law_alike : Cal P w K mg base "_law_alike" 16 ["found", "due"] (spAlike K 15))
    (c__law_odd : Cal P w K mg base "_law_odd" 2 ["tray"] spOdd) (c__law_spoilt : Cal P w K mg base "_law_spoilt" 4 ["tray", "text"] spSpoilt) (c__law_kind_of : Cal P w K mg base "_law_kind_of" 12 ["text", "deep"] (spKindOf 4))
    (c_read_kind : CalX P w K mg base "read_kind" 19 ["text"] (spReadX D)) : FnOk P w K mg base CX0 20 f fd ["script"] (spLaw K) := by
  refine F.ok sc_law61 (fun vs H Q E h => ?_) (fun cdv A outer s H vs Q E hr h => ?_)
  · obtain ⟨a, ns, rfl, _⟩ := h
    rfl
  obtain ⟨a, ns, rfl, hS, h63, q⟩ := h
  refine ⟨_, (pss_cons (ps_set (i := 1) sc_law61.nd rfl (Or.inl rfl) (pc c__law_tray (hr.mono (by first | decide | omega)) (pa_cons (pv 0) pa_nil)))
    (pss_cons (ps_set (i := 2) sc_law61.nd rfl (Or.inl rfl) (pc c__law_names (hr.mono (by first | decide | omega)) (pa_cons (pv 1) (pa_cons (pc c__law_draw (hr.mono (by first | decide | omega)) (pa_cons (pv 1) (pa_cons pe_int pa_nil))) (pa_cons (pe_lst pa_nil) pa_nil)))))
    (pss_cons (ps_for PassesOwn.never rfl (pi_range1 rfl B.b_range (pa_cons (pe_op op_add pe_int (pe_callB (lenSeq K rfl) (by rfl) B.b_len PySem.boot_len (pa_cons (pe_slice (slL K rfl) (pv 0) po_none (po_some pe_int)) pa_nil))) pa_nil)) (pg_name (i := 3) sc_law61.nd rfl (Or.inl rfl)) (pss_cons (ps_set (i := 4) sc_law61.nd rfl (Or.inl rfl) (pc c__law_draw (hr.mono (by first | decide | omega)) (pa_cons (pv 1) (pa_cons pe_int pa_nil))))
    (pss_cons (ps_set (i := 5) sc_law61.nd rfl (Or.inl rfl) (pc c__law_draw (hr.mono (by first | decide | omega)) (pa_cons (pv 1) (pa_cons pe_int pa_nil))))
    (pss_cons (ps_set (i := 6) sc_law61.nd rfl (Or.inl rfl) (pc c__law_odd (hr.mono (by first | decide | omega)) (pa_cons (pv 1) pa_nil)))
    (pss_cons (ps_if (pt_cmpR op_lt (pv 5) pe_int (nomark _)) (pss_cons (ps_set (i := 6) sc_law61.nd rfl (Or.inl rfl) (pc c__law_shown (hr.mono (by first | decide | omega)) (pa_cons (pc c__law_kind (hr.mono (by first | decide | omega)) (pa_cons (pv 1) (pa_cons (pv 2) (pa_cons (pe_op op_add pe_int (pc c__law_draw (hr.mono (by first | decide | omega)) (pa_cons (pv 1) (pa_cons pe_int pa_nil)))) pa_nil)))) pa_nil)))
    (pss_one (ps_for PassesOwn.never rfl (pi_range1 rfl B.b_range (pa_cons (pv 4) pa_nil)) (pg_name (i := 10) sc_law61.nd rfl (Or.inl rfl)) (pss_one (ps_set (i := 6) sc_law61.nd rfl (Or.inl rfl) (pc c__law_spoilt (hr.mono (by first | decide | omega)) (pa_cons (pv 1) (pa_cons (pv 6) pa_nil)))))))) pss_nil)
    (pss_cons (ps_set (i := 7) sc_law61.nd rfl (Or.inl rfl) (pc c__law_kind_of (hr.mono (by first | decide | omega)) (pa_cons (pv 6) (pa_cons pe_int pa_nil))))
    (pss_cons (ps_set (i := 8) sc_law61.nd rfl (Or.inl rfl) pe_non)
    (pss_cons (ps_set (i := 9) sc_law61.nd rfl (Or.inl rfl) (pe_lst pa_nil))
    (pss_cons (ps_try_as (x := "NoText") (i := 11) (c := .ref D) (Wout := fun _ _ _ _ => False) rfl rfl sc_law61.nd rfl rfl ⟨rfl, by decide, .inl N.m⟩ takes0
      (fun W pn xe tk _ => pss_one (ps_set (i := 8) sc_law61.nd rfl (Or.inl rfl) (pcx c_read_kind (hr.mono (by first | decide | omega)) tk (pa_cons (pv 6) pa_nil))))
      (fun a oe cls d pn hz hf => pss_one (ps_set (i := 9) sc_law61.nd rfl (Or.inl rfl) (pe_lst (pa_cons (pe_xf xf nw hz hf (pv 11)) (pa_cons (pe_callB (call_isF T hz hf) (by rfl) B.b_isinstance (by decide +kernel) (pa_cons (pv 11) (pa_cons (pgT hSt) pa_nil)))
        (pa_cons (pe_callB (call_isF T hz hf) (by rfl) B.b_isinstance (by decide +kernel) (pa_cons (pv 11) (pa_cons (pe_bltn (v := .ty "ValueError") (by rfl) hVE (by decide +kernel) rfl) pa_nil)))
        (pa_cons (pe_callB (call_isFT T hz hf) (by rfl) B.b_isinstance (by decide +kernel) (pa_cons (pv 11) (pa_cons (pe_tup (pa_cons (pgT h1) (pa_cons (pgT h2) (pa_cons (pgT h3) (pa_cons (pgT h4) (pa_cons (pgT h5) (pa_cons (pgT h6) (pa_cons (pgT h7) (pa_cons (pgT h8) pa_nil))))))))) pa_nil))) pa_nil)))))))) 
    (pss_cons (ps_if (PW.pt (pw_and (pt_cmpR op_isN (pv 7) pe_non (nomark _)) (pw_and1 (pt_not (pt_val (pc c__law_alike (hr.mono (by first | decide | omega)) (pa_cons (pv 9) (pa_cons (pe_lst (pa_cons (pv 6) (pa_cons pe_bl (pa_cons pe_bl (pa_cons pe_bl pa_nil))))) pa_nil)))))))) (pss_one (ps_ret pe_bl)) pss_nil)
    (pss_one (ps_if (PW.pt (pw_and (pt_cmpR op_notN (pv 7) pe_non (nomark _)) (pw_and1 (PW.pt (pw_or (pt_cmpR (neD K rfl hr.units) (pv 9) (pe_lst pa_nil) (nomark _)) (pw_or1 (pt_not (pt_val (pc c__law_alike (hr.mono (by first | decide | omega)) (pa_cons (pv 8) (pa_cons (pv 7) pa_nil))))))))))) (pss_one (ps_ret pe_bl)) pss_nil))))))))))))
    (pss_one (ps_ret pe_bl))))), ?_⟩
  refine ⟨_, rfl, a, ns, rfl, hS, h63, fun d g H1 nd ng D1 s1 => ?_⟩
  refine ⟨_, rfl, _, rfl, d, g, 5, 0, rfl, D1, by decide, by decide, by decide, fun r H2 r0 r1 D2 B2 => ⟨Nat.zero_le _, fun u nu => ?_⟩⟩
  have neu := D2.ne nu
  have er : r = ((r.toNat : Nat) : Int) := by omega
  rw [er]
  refine ⟨d, g, u, 0 + 1, r.toNat, [], rfl, D2.new nu, by decide, neu.1, neu.2, upd_same, by simp; omega, fun x hx => by simp at hx, fun nl zs H3 nnl hnl lz az ndz D3 B3 => ?_⟩
  have sBut : ∀ {Hx : Hp}, But d g H1 Hx → Same H Hx := fun b x o e => b x o (ne_of_none e nd) (ne_of_none e ng) (s1 x o e)
  have B23 : But d g H1 H3 := (B2.new nu).trans B3
  have hn8 : nl ≠ d ∧ nl ≠ g := (D2.new nu).ne nnl
  have hlt : ∀ x ∈ zs, LtS x := fun x hx => (az x hx).1.1
  refine ⟨_, rfl, _, rfl, a, _, rfl, (sBut B23).seq hS, fun p np => ?_⟩
  obtain ⟨ns', ecut, lcut⟩ := cut_ints ns none (some 16)
  rw [ecut]
  refine ⟨p, _, rfl, .inl (SqL.of upd_same), _, _, rfl, rfl, _, rfl, by rw [List.length_map]; omega, by rw [List.length_map]; omega, ?_⟩
  have lt : (3 + (((ns'.map V.int).length : Nat) : Int)).toNat ≤ 66 := by rw [List.length_map]; omega
  generalize (3 + (((ns'.map V.int).length : Nat) : Int)).toNat = turns at lt
  have B3p := B23.new (o := .lst (ns'.map V.int)) np
  have D3p := D3.new (o := .lst (ns'.map V.int)) np
  have hnp : (upd H3 p (.lst (ns'.map V.int))) nl = some (.lst (zs.map V.str)) := same_new np _ _ _ hnl
  generalize upd H3 p (.lst (ns'.map V.int)) = H4 at B3p D3p hnp
  have hr7 : r.toNat ≤ 5 := by omega
  refine for_range (lo := 0) (n := turns) (Plaw a d g nl 200 zs H1) ?_ ?_ ?_
  · exact ⟨none, none, none, none, none, none, none, none, none, rfl, B3p, D3p.le (by simp; omega), hnp⟩
  · rintro i σ H5 hi ⟨u3, u4, u5, u6, u7, u8, u9, u10, u11, rfl, B5, D5, h5⟩
    refine ⟨_, rfl, d, g, 4, 200 + 200 * (i : Int), rfl, D5, by decide, by decide, by omega, fun sp H6 z0 z1 D6 B6 => ?_⟩
    refine ⟨_, rfl, d, g, 8, 200 + 200 * (i : Int) + 1, rfl, D6, by decide, by decide, by omega, fun od H7 y0 y1 D7 B7 => ?_⟩
    refine ⟨_, rfl, d, g, 200 + 200 * (i : Int) + 2, rfl, D7.le (by omega), by omega, fun tx0 H8 l0 D8 B8 => ?_⟩
    have B58 := ((B5.trans B6).trans B7).trans B8
    have h8n := B8 _ _ hn8.1 hn8.2 (B7 _ _ hn8.1 hn8.2 (B6 _ _ hn8.1 hn8.2 h5))
    dsimp only
    refine seq_abs (fun σ' H' => ∃ tx u3 u4 u5 u7 u8 u9 u10 u11, σ' = [some (.ref a), some (.ref d), some (.ref nl), u3, u4, u5, some (.str tx), u7, u8, u9, u10, u11] ∧ tx.length ≤ 20000 ∧ But d g H1 H' ∧ Tray H' d g (200 + 200 * (i : Int) + 190) ∧ H' nl = some (.lst (zs.map V.str))) (fun σ9 H9 w9 => ?_) (fun nx hnx => ?_)
    rotate_left
    · refine ⟨_, rfl, _, _, rfl, rfl, _, rfl, ite2 (fun c => ?_) (fun c => ?_)⟩
      · refine ⟨_, rfl, _, rfl, _, rfl, d, g, 5, 200 + 200 * (i : Int) + 3, rfl, D8.le (by omega), by decide, by decide, by omega, fun r6 H9 x0 x1 D9 B9 => ?_⟩
        refine ⟨_, _, rfl, rfl, (1 + r6).toNat, by omega, d, g, nl, _, _, zs, rfl, by omega, by omega, D9, by omega, hn8.1, hn8.2, B9 _ _ hn8.1 hn8.2 h8n, by omega, hlt, fun v k H10 hk k1 k2 k3 k4 D10 B10 => ?_⟩
        have kl : ∀ x ∈ k.names, LtS x := fun x hx => hlt x (k4 x hx)
        have h10 := B10 _ _ hn8.1 hn8.2 (B9 _ _ hn8.1 hn8.2 h8n)
        have B510 := (B58.trans B9).trans B10
        refine ⟨v, k, rfl, hk, k1, by omega, by omega, kl, fun z H11 hz s11 => ?_⟩
        have lz := Kd.sh_short (k := k) (by omega) kl
        rw [← hz, cl_len] at lz
        refine ⟨_, rfl, _, rfl, by omega, by omega, ?_⟩
        refine for_range (lo := 0) (n := sp.toNat) (Pspl a d g nl (200 + 200 * (i : Int) + 70) zs H1) ?_ ?_ ?_
        · exact ⟨z, _, _, _, _, _, _, _, _, rfl, lz, B510.trans (But.of_same s11), (D10.same s11).le (by omega), s11 _ _ h10⟩
        · rintro j σ H12 hj ⟨tx, u3, u4, u5, u7, u8, u9, u10, u11, rfl, lt2, B12, D12, h12⟩
          have hj3 : j < 3 := by omega
          refine ⟨_, rfl, _, rfl, d, g, _, tx, rfl, D12, by omega, (bnd_step hj3 lt2 (Nat.le_refl _)).1, fun z2 H13 hz2 D13 B13 => ?_⟩
          exact ⟨z2, _, _, _, _, _, _, _, _, rfl, (bnd_step hj3 lt2 hz2).2, B12.trans B13, D13.le (by omega), B13 _ _ hn8.1 hn8.2 h12⟩
        · rintro σ H12 ⟨tx, u3, u4, u5, u7, u8, u9, u10, u11, rfl, lt2, B12, D12, h12⟩
          exact hnx _ _ ⟨tx, _, _, _, _, _, _, _, _, rfl, Nat.le_trans lt2 (bnd_le _), B12, D12.le (by omega), h12⟩
      · exact hnx _ _ ⟨tx0, _, _, _, _, _, _, _, _, rfl, by omega, B58, D8.le (by omega), h8n⟩
    obtain ⟨tx, u3, u4, u5, u7, u8, u9, u10, u11, rfl, ltx, B9, D9, h9⟩ := w9
    refine ⟨_, rfl, tx, rfl, ltx, fun v H10 hv s10 => ?_⟩
    rw [law_reads] at hv
    refine ⟨Nat.zero_le _, fun rf nrf => ?_⟩
    have s11 := same_new nrf (.lst [])
    have hrf : (upd H10 rf (.lst [])) rf = some (.lst []) := upd_same
    generalize upd H10 rf (.lst []) = H11 at s11 hrf
    have fin : ∀ (u3 u4 u5 u6 u7 u8 u9 u10 u11 : Option V) (H' : Hp), Same H9 H' → Plaw a d g nl 200 zs H1 (i + 1) [some (.ref a), some (.ref d), some (.ref nl), u3, u4, u5, u6, u7, u8, u9, u10, u11] H' := fun u3 u4 u5 u6 u7 u8 u9 u10 u11 H' s =>
      ⟨u3, u4, u5, u6, u7, u8, u9, u10, u11, rfl, B9.trans (But.of_same s), (D9.same s).le (by omega), s _ _ h9⟩
    cases ho : rdK tx with
    | none =>
      rw [ho] at hv
      obtain rfl : v = .non := hv
      refine ⟨_, rfl, tx, rfl, ltx, fun k w H' e => ?_, fun _ dd H12 s12 ndd hdd => ?_⟩
      · rw [ho] at e
        cases e
      refine ⟨true, te, fun _ b nb => ?_, fun z => nomatch z⟩
      refine ⟨_, rfl, rfl, rfl, dd, _, .str tx, rfl, hdd, rfl, ?_⟩
      refine ⟨_, rfl, .ref D0, _, true, dd, _, rfl, rfl, rfl, hdd, .own D0, kSt, ?_⟩
      refine ⟨_, rfl, .ty "ValueError", _, true, dd, _, rfl, rfl, rfl, hdd, .ty "ValueError", kVE, ?_⟩
      refine ⟨_, rfl, (by show 8 ≤ sizeLine; decide), fun t nt => ?_⟩
      have s13 := same_new nt (.tup [V.ref C1, V.ref C2, V.ref C3, V.ref C4, V.ref C5, V.ref C6, V.ref C7, V.ref C8])
      refine ⟨t, _, _, false, dd, _, rfl, upd_same, rfl, rfl, s13 _ _ hdd, .cons (.own C1) (.cons (.own C2) (.cons (.own C3) (.cons (.own C4) (.cons (.own C5) (.cons (.own C6) (.cons (.own C7) (.cons (.own C8) .nil))))))), kAny, ?_⟩
      generalize upd H12 t (.tup [V.ref C1, V.ref C2, V.ref C3, V.ref C4, V.ref C5, V.ref C6, V.ref C7, V.ref C8]) = H13 at s13 ⊢
      refine ⟨(by show 4 ≤ sizeLine; decide), fun rf2 nrf2 => ?_⟩
      have s14 := same_new nrf2 (.lst [V.str tx, V.bl true, V.bl true, V.bl false])
      have hrf2 : (upd H13 rf2 (.lst [V.str tx, V.bl true, V.bl true, V.bl false])) rf2 = some (.lst [V.str tx, V.bl true, V.bl true, V.bl false]) := upd_same
      generalize upd H13 rf2 (.lst [V.str tx, V.bl true, V.bl true, V.bl false]) = H14 at s14 hrf2 ⊢
      refine ⟨_, rfl, rfl, _, rfl, iteT ?_⟩
      refine ⟨_, rfl, _, rfl, (by show 4 ≤ sizeLine; decide), fun l nl2 => ?_⟩
      have s15 := same_new nl2 (.lst [V.str tx, V.bl true, V.bl true, V.bl false])
      have hl : (upd H14 l (.lst [V.str tx, V.bl true, V.bl true, V.bl false])) l = some (.lst [V.str tx, V.bl true, V.bl true, V.bl false]) := upd_same
      have hrf3 := s15 _ _ hrf2
      generalize upd H14 l (.lst [V.str tx, V.bl true, V.bl true, V.bl false]) = H15 at s15 hl hrf3 ⊢
      refine ⟨_, _, .list [.str tx, .bool true, .bool true, .bool false], rfl, .lst (SqL.of hrf3) (.cons (.str _) (.cons (.bl _) (.cons (.bl _) (.cons (.bl _) .nil)))), .lst (SqL.of hl) (.cons (.str _) (.cons (.bl _) (.cons (.bl _) (.cons (.bl _) .nil)))), (by simp [PyData.depth, PyData.depthAll]), fun H16 s16 => ⟨_, rfl, iteF ?_⟩⟩
      refine ⟨_, rfl, rfl, _, rfl, iteF ?_⟩
      exact fin _ _ _ _ _ _ _ _ _ _ (s10.trans (s11.trans (s12.trans (s13.trans (s14.trans (s15.trans s16))))))
    | some k =>
      rw [ho] at hv
      have hv : KdAt H10 v k := hv
      refine ⟨_, rfl, tx, rfl, ltx, fun k2 w H12 e hw s12 => ?_, fun e => ?_⟩
      rotate_left
      · rw [ho] at e
        cases e
      rw [ho] at e
      injection e with e
      subst e
      have kd := Kd.data_depth k
      have kw := ((rdK_iff tx k).mp ho).2.2.1
      have hv12 := (hv.mono (Tups.of_same s11)).mono (Tups.of_same s12)
      have hrf12 := s12 _ _ hrf
      refine ⟨_, rfl, rfl, _, rfl, ?_⟩
      rw [decide_eq_false (KoAt.ne hv12)]
      refine iteF ?_
      refine ⟨_, rfl, rfl, _, rfl, ?_⟩
      rw [decide_eq_false (KoAt.ne hv12)]
      refine iteT ?_
      refine ⟨_, rfl, Nat.zero_le _, fun l nl2 => ?_⟩
      have s13 := same_new nl2 (.lst [])
      refine ⟨.list [], .list [], .lst (SqL.of (s13 _ _ hrf12)) .nil, .lst (SqL.of upd_same) .nil, rfl, rfl, _, rfl, iteF ?_⟩
      generalize upd H12 l (.lst []) = H13 at s13 ⊢
      refine ⟨_, rfl, _, rfl, _, _, k.data, rfl, (hw.mono (Tups.of_same s13)).dp, (hv12.mono (Tups.of_same s13)).dp, by omega, fun H14 s14 => ⟨_, rfl, iteF ?_⟩⟩
      exact fin _ _ _ _ _ _ _ _ _ _ (s10.trans (s11.trans (s12.trans (s13.trans s14))))
  · rintro σ H5 _
    exact q H5
end
end My
namespace My
open PySem L2
set_option maxHeartbeats 0 in
theorem all_mk {l : PySem.W.OpenLaw} {w : World} {K : PySem.W.Frag} {h : Heap} {mg : Str → Option Value} {fa : Addr} (X : K.In h) (G : h.Ns mainGlobals mg) (hfa : mg "law" = some (.ref fa))
    {f0 : Addr} {od0 an0 : Option Addr} {sl0 : Array (Option Value)} {oc0 kV0 dc0 pm0 cd0 ct0 : Value}
    (a0 : PySem.W.nsIn K mainGlobals "kinds_directly_in" = some (some (.ref f0)))
    (l0 : K.lookup f0 = some ⟨oc0, od0, .func (PySem.W.fnOf "kinds_directly_in" "kinds_directly_in" (defArgs s_kinds_directly_in) (defBody s_kinds_directly_in) (defScope s_kinds_directly_in) .none kV0 dc0 pm0 an0 cd0 ct0), sl0⟩)
    (c0 : PySem.W.codeIn K cd0 "kinds_directly_in" = true)
    (k0 : PySem.W.keepIn K (.ref f0) = true)
    {f1 : Addr} {od1 an1 : Option Addr} {sl1 : Array (Option Value)} {oc1 kV1 dc1 pm1 cd1 ct1 : Value}
    (a1 : PySem.W.nsIn K mainGlobals "kinds_in" = some (some (.ref f1)))
    (l1 : K.lookup f1 = some ⟨oc1, od1, .func (PySem.W.fnOf "kinds_in" "kinds_in" (defArgs s_kinds_in) (defBody s_kinds_in) (defScope s_kinds_in) .none kV1 dc1 pm1 an1 cd1 ct1), sl1⟩)
    (c1 : PySem.W.codeIn K cd1 "kinds_in" = true)
    (k1 : PySem.W.keepIn K (.ref f1) = true)
    {f2 : Addr} {od2 an2 : Option Addr} {sl2 : Array (Option Value)} {oc2 kV2 dc2 pm2 cd2 ct2 : Value}
    (a2 : PySem.W.nsIn K mainGlobals "calls_in" = some (some (.ref f2)))
    (l2 : K.lookup f2 = some ⟨oc2, od2, .func (PySem.W.fnOf "calls_in" "calls_in" (defArgs s_calls_in) (defBody s_calls_in) (defScope s_calls_in) .none kV2 dc2 pm2 an2 cd2 ct2), sl2⟩)
    (c2 : PySem.W.codeIn K cd2 "calls_in" = true)
    (k2 : PySem.W.keepIn K (.ref f2) = true)
    {f3 : Addr} {od3 an3 : Option Addr} {sl3 : Array (Option Value)} {oc3 kV3 dc3 pm3 cd3 ct3 : Value}
    (a3 : PySem.W.nsIn K mainGlobals "has_calls_in_calls" = some (some (.ref f3)))
    (l3 : K.lookup f3 = some ⟨oc3, od3, .func (PySem.W.fnOf "has_calls_in_calls" "has_calls_in_calls" (defArgs s_has_calls_in_calls) (defBody s_has_calls_in_calls) (defScope s_has_calls_in_calls) .none kV3 dc3 pm3 an3 cd3 ct3), sl3⟩)
    (c3 : PySem.W.codeIn K cd3 "has_calls_in_calls" = true)
    (k3 : PySem.W.keepIn K (.ref f3) = true)
    {f4 : Addr} {od4 an4 : Option Addr} {sl4 : Array (Option Value)} {oc4 kV4 dc4 pm4 cd4 ct4 : Value}
    (a4 : PySem.W.nsIn K mainGlobals "is_name" = some (some (.ref f4)))
    (l4 : K.lookup f4 = some ⟨oc4, od4, .func (PySem.W.fnOf "is_name" "is_name" (defArgs s_is_name) (defBody s_is_name) (defScope s_is_name) .none kV4 dc4 pm4 an4 cd4 ct4), sl4⟩)
    (c4 : PySem.W.codeIn K cd4 "is_name" = true)
    (k4 : PySem.W.keepIn K (.ref f4) = true)
    {f5 : Addr} {od5 an5 : Option Addr} {sl5 : Array (Option Value)} {oc5 kV5 dc5 pm5 cd5 ct5 : Value}
    (a5 : PySem.W.nsIn K mainGlobals "callback_at" = some (some (.ref f5)))
    (l5 : K.lookup f5 = some ⟨oc5, od5, .func (PySem.W.fnOf "callback_at" "callback_at" (defArgs s_callback_at) (defBody s_callback_at) (defScope s_callback_at) .none kV5 dc5 pm5 an5 cd5 ct5), sl5⟩)
    (c5 : PySem.W.codeIn K cd5 "callback_at" = true)
    (k5 : PySem.W.keepIn K (.ref f5) = true)
    {f6 : Addr} {od6 an6 : Option Addr} {sl6 : Array (Option Value)} {oc6 kV6 dc6 pm6 cd6 ct6 : Value}
    (a6 : PySem.W.nsIn K mainGlobals "kind_at" = some (some (.ref f6)))
    (l6 : K.lookup f6 = some ⟨oc6, od6, .func (PySem.W.fnOf "kind_at" "kind_at" (defArgs s_kind_at) (defBody s_kind_at) (defScope s_kind_at) .none kV6 dc6 pm6 an6 cd6 ct6), sl6⟩)
    (c6 : PySem.W.codeIn K cd6 "kind_at" = true)
    (k6 : PySem.W.keepIn K (.ref f6) = true)
    {f7 : Addr} {od7 an7 : Option Addr} {sl7 : Array (Option Value)} {oc7 kV7 dc7 pm7 cd7 ct7 : Value}
    (a7 : PySem.W.nsIn K mainGlobals "read_kind" = some (some (.ref f7)))
    (l7 : K.lookup f7 = some ⟨oc7, od7, .func (PySem.W.fnOf "read_kind" "read_kind" (defArgs s_read_kind) (defBody s_read_kind) (defScope s_read_kind) .none kV7 dc7 pm7 an7 cd7 ct7), sl7⟩)
    (c7 : PySem.W.codeIn K cd7 "read_kind" = true)
    (k7 : PySem.W.keepIn K (.ref f7) = true)
    {f8 : Addr} {od8 an8 : Option Addr} {sl8 : Array (Option Value)} {oc8 kV8 dc8 pm8 cd8 ct8 : Value}
    (a8 : PySem.W.nsIn K mainGlobals "_law_tray" = some (some (.ref f8)))
    (l8 : K.lookup f8 = some ⟨oc8, od8, .func (PySem.W.fnOf "_law_tray" "_law_tray" (defArgs s__law_tray) (defBody s__law_tray) (defScope s__law_tray) .none kV8 dc8 pm8 an8 cd8 ct8), sl8⟩)
    (c8 : PySem.W.codeIn K cd8 "_law_tray" = true)
    (k8 : PySem.W.keepIn K (.ref f8) = true)
    {f9 : Addr} {od9 an9 : Option Addr} {sl9 : Array (Option Value)} {oc9 kV9 dc9 pm9 cd9 ct9 : Value}
    (a9 : PySem.W.nsIn K mainGlobals "_law_draw" = some (some (.ref f9)))
    (l9 : K.lookup f9 = some ⟨oc9, od9, .func (PySem.W.fnOf "_law_draw" "_law_draw" (defArgs s__law_draw) (defBody s__law_draw) (defScope s__law_draw) .none kV9 dc9 pm9 an9 cd9 ct9), sl9⟩)
    (c9 : PySem.W.codeIn K cd9 "_law_draw" = true)
    (k9 : PySem.W.keepIn K (.ref f9) = true)
    {f10 : Addr} {od10 an10 : Option Addr} {sl10 : Array (Option Value)} {oc10 kV10 dc10 pm10 cd10 ct10 : Value}
    (a10 : PySem.W.nsIn K mainGlobals "_law_alike" = some (some (.ref f10)))
    (l10 : K.lookup f10 = some ⟨oc10, od10, .func (PySem.W.fnOf "_law_alike" "_law_alike" (defArgs s__law_alike) (defBody s__law_alike) (defScope s__law_alike) .none kV10 dc10 pm10 an10 cd10 ct10), sl10⟩)
    (c10 : PySem.W.codeIn K cd10 "_law_alike" = true)
    (k10 : PySem.W.keepIn K (.ref f10) = true)
    {f11 : Addr} {od11 an11 : Option Addr} {sl11 : Array (Option Value)} {oc11 kV11 dc11 pm11 cd11 ct11 : Value}
    (a11 : PySem.W.nsIn K mainGlobals "_law_name" = some (some (.ref f11)))
    (l11 : K.lookup f11 = some ⟨oc11, od11, .func (PySem.W.fnOf "_law_name" "_law_name" (defArgs s__law_name) (defBody s__law_name) (defScope s__law_name) .none kV11 dc11 pm11 an11 cd11 ct11), sl11⟩)
    (c11 : PySem.W.codeIn K cd11 "_law_name" = true)
    (k11 : PySem.W.keepIn K (.ref f11) = true)
    {f12 : Addr} {od12 an12 : Option Addr} {sl12 : Array (Option Value)} {oc12 kV12 dc12 pm12 cd12 ct12 : Value}
    (a12 : PySem.W.nsIn K mainGlobals "_law_names" = some (some (.ref f12)))
    (l12 : K.lookup f12 = some ⟨oc12, od12, .func (PySem.W.fnOf "_law_names" "_law_names" (defArgs s__law_names) (defBody s__law_names) (defScope s__law_names) .none kV12 dc12 pm12 an12 cd12 ct12), sl12⟩)
    (c12 : PySem.W.codeIn K cd12 "_law_names" = true)
    (k12 : PySem.W.keepIn K (.ref f12) = true)
    {f13 : Addr} {od13 an13 : Option Addr} {sl13 : Array (Option Value)} {oc13 kV13 dc13 pm13 cd13 ct13 : Value}
    (a13 : PySem.W.nsIn K mainGlobals "_law_flat_kind" = some (some (.ref f13)))
    (l13 : K.lookup f13 = some ⟨oc13, od13, .func (PySem.W.fnOf "_law_flat_kind" "_law_flat_kind" (defArgs s__law_flat_kind) (defBody s__law_flat_kind) (defScope s__law_flat_kind) .none kV13 dc13 pm13 an13 cd13 ct13), sl13⟩)
    (c13 : PySem.W.codeIn K cd13 "_law_flat_kind" = true)
    (k13 : PySem.W.keepIn K (.ref f13) = true)
    {f14 : Addr} {od14 an14 : Option Addr} {sl14 : Array (Option Value)} {oc14 kV14 dc14 pm14 cd14 ct14 : Value}
    (a14 : PySem.W.nsIn K mainGlobals "_law_kind" = some (some (.ref f14)))
    (l14 : K.lookup f14 = some ⟨oc14, od14, .func (PySem.W.fnOf "_law_kind" "_law_kind" (defArgs s__law_kind) (defBody s__law_kind) (defScope s__law_kind) .none kV14 dc14 pm14 an14 cd14 ct14), sl14⟩)
    (c14 : PySem.W.codeIn K cd14 "_law_kind" = true)
    (k14 : PySem.W.keepIn K (.ref f14) = true)
    {f15 : Addr} {od15 an15 : Option Addr} {sl15 : Array (Option Value)} {oc15 kV15 dc15 pm15 cd15 ct15 : Value}
    (a15 : PySem.W.nsIn K mainGlobals "_law_shown" = some (some (.ref f15)))
    (l15 : K.lookup f15 = some ⟨oc15, od15, .func (PySem.W.fnOf "_law_shown" "_law_shown" (defArgs s__law_shown) (defBody s__law_shown) (defScope s__law_shown) .none kV15 dc15 pm15 an15 cd15 ct15), sl15⟩)
    (c15 : PySem.W.codeIn K cd15 "_law_shown" = true)
    (k15 : PySem.W.keepIn K (.ref f15) = true)
    {f16 : Addr} {od16 an16 : Option Addr} {sl16 : Array (Option Value)} {oc16 kV16 dc16 pm16 cd16 ct16 : Value}
    (a16 : PySem.W.nsIn K mainGlobals "_law_sign" = some (some (.ref f16)))
    (l16 : K.lookup f16 = some ⟨oc16, od16, .func (PySem.W.fnOf "_law_sign" "_law_sign" (defArgs s__law_sign) (defBody s__law_sign) (defScope s__law_sign) .none kV16 dc16 pm16 an16 cd16 ct16), sl16⟩)
    (c16 : PySem.W.codeIn K cd16 "_law_sign" = true)
    (k16 : PySem.W.keepIn K (.ref f16) = true)
    {f17 : Addr} {od17 an17 : Option Addr} {sl17 : Array (Option Value)} {oc17 kV17 dc17 pm17 cd17 ct17 : Value}
    (a17 : PySem.W.nsIn K mainGlobals "_law_sign_spoilt" = some (some (.ref f17)))
    (l17 : K.lookup f17 = some ⟨oc17, od17, .func (PySem.W.fnOf "_law_sign_spoilt" "_law_sign_spoilt" (defArgs s__law_sign_spoilt) (defBody s__law_sign_spoilt) (defScope s__law_sign_spoilt) .none kV17 dc17 pm17 an17 cd17 ct17), sl17⟩)
    (c17 : PySem.W.codeIn K cd17 "_law_sign_spoilt" = true)
    (k17 : PySem.W.keepIn K (.ref f17) = true)
    {f18 : Addr} {od18 an18 : Option Addr} {sl18 : Array (Option Value)} {oc18 kV18 dc18 pm18 cd18 ct18 : Value}
    (a18 : PySem.W.nsIn K mainGlobals "_law_is_name" = some (some (.ref f18)))
    (l18 : K.lookup f18 = some ⟨oc18, od18, .func (PySem.W.fnOf "_law_is_name" "_law_is_name" (defArgs s__law_is_name) (defBody s__law_is_name) (defScope s__law_is_name) .none kV18 dc18 pm18 an18 cd18 ct18), sl18⟩)
    (c18 : PySem.W.codeIn K cd18 "_law_is_name" = true)
    (k18 : PySem.W.keepIn K (.ref f18) = true)
    {f19 : Addr} {od19 an19 : Option Addr} {sl19 : Array (Option Value)} {oc19 kV19 dc19 pm19 cd19 ct19 : Value}
    (a19 : PySem.W.nsIn K mainGlobals "_law_flat_of" = some (some (.ref f19)))
    (l19 : K.lookup f19 = some ⟨oc19, od19, .func (PySem.W.fnOf "_law_flat_of" "_law_flat_of" (defArgs s__law_flat_of) (defBody s__law_flat_of) (defScope s__law_flat_of) .none kV19 dc19 pm19 an19 cd19 ct19), sl19⟩)
    (c19 : PySem.W.codeIn K cd19 "_law_flat_of" = true)
    (k19 : PySem.W.keepIn K (.ref f19) = true)
    {f20 : Addr} {od20 an20 : Option Addr} {sl20 : Array (Option Value)} {oc20 kV20 dc20 pm20 cd20 ct20 : Value}
    (a20 : PySem.W.nsIn K mainGlobals "_law_kind_of" = some (some (.ref f20)))
    (l20 : K.lookup f20 = some ⟨oc20, od20, .func (PySem.W.fnOf "_law_kind_of" "_law_kind_of" (defArgs s__law_kind_of) (defBody s__law_kind_of) (defScope s__law_kind_of) .none kV20 dc20 pm20 an20 cd20 ct20), sl20⟩)
    (c20 : PySem.W.codeIn K cd20 "_law_kind_of" = true)
    (k20 : PySem.W.keepIn K (.ref f20) = true)
    {f21 : Addr} {od21 an21 : Option Addr} {sl21 : Array (Option Value)} {oc21 kV21 dc21 pm21 cd21 ct21 : Value}
    (a21 : PySem.W.nsIn K mainGlobals "_law_spoilt" = some (some (.ref f21)))
    (l21 : K.lookup f21 = some ⟨oc21, od21, .func (PySem.W.fnOf "_law_spoilt" "_law_spoilt" (defArgs s__law_spoilt) (defBody s__law_spoilt) (defScope s__law_spoilt) .none kV21 dc21 pm21 an21 cd21 ct21), sl21⟩)
    (c21 : PySem.W.codeIn K cd21 "_law_spoilt" = true)
    (k21 : PySem.W.keepIn K (.ref f21) = true)
    {f22 : Addr} {od22 an22 : Option Addr} {sl22 : Array (Option Value)} {oc22 kV22 dc22 pm22 cd22 ct22 : Value}
    (a22 : PySem.W.nsIn K mainGlobals "_law_odd" = some (some (.ref f22)))
    (l22 : K.lookup f22 = some ⟨oc22, od22, .func (PySem.W.fnOf "_law_odd" "_law_odd" (defArgs s__law_odd) (defBody s__law_odd) (defScope s__law_odd) .none kV22 dc22 pm22 an22 cd22 ct22), sl22⟩)
    (c22 : PySem.W.codeIn K cd22 "_law_odd" = true)
    (k22 : PySem.W.keepIn K (.ref f22) = true)
    {f23 : Addr} {od23 an23 : Option Addr} {sl23 : Array (Option Value)} {oc23 kV23 dc23 pm23 cd23 ct23 : Value}
    (a23 : PySem.W.nsIn K mainGlobals "law" = some (some (.ref f23)))
    (l23 : K.lookup f23 = some ⟨oc23, od23, .func (PySem.W.fnOf "law" "law" (defArgs s_law) (defBody s_law) (defScope s_law) .none kV23 dc23 pm23 an23 cd23 ct23), sl23⟩)
    (c23 : PySem.W.codeIn K cd23 "law" = true)
    (k23 : PySem.W.keepIn K (.ref f23) = true)
    {Z : Addr}
    (aZ : PySem.W.nsIn K mainGlobals "Scanner" = some (some (.ref Z)))
    (pgZ : PySem.W.plainGet K Z Str.empty = true)
    (hdZ : PySem.W.hasDictIn K Z = true)
    (poZ : PySem.W.plainOver K Z = true)
    (saZ : PySem.W.findIn K (.ref Z) "__setattr__" = some (some (.builtin "object.__setattr__")))
    (mkZ : PySem.W.makesIn K Z = true)
    (kcZ : PySem.W.keepIn K (.ref Z) = true)
    (nZtext : PySem.W.findIn K (.ref Z) "text" = some none)
    (nZat : PySem.W.findIn K (.ref Z) "at" = some none)
    {fz0 : Addr} {odz0 anz0 : Option Addr} {slz0 : Array (Option Value)} {ocz0 kVz0 dcz0 pmz0 cdz0 ctz0 : Value}
    (az0 : PySem.W.findIn K (.ref Z) "__init__" = some (some (.ref fz0)))
    (iz0 : PySem.W.isFn K (.ref fz0) = true)
    (lz0 : K.lookup fz0 = some ⟨ocz0, odz0, .func (PySem.W.fnOf "__init__" "Scanner.__init__" (defArgs s_Scanner___init__) (defBody s_Scanner___init__) (defScope s_Scanner___init__) .none kVz0 dcz0 pmz0 anz0 cdz0 ctz0), slz0⟩)
    (cz0 : PySem.W.codeIn K cdz0 "Scanner.__init__" = true)
    (kz0 : PySem.W.keepIn K (.ref fz0) = true)
    {fz1 : Addr} {odz1 anz1 : Option Addr} {slz1 : Array (Option Value)} {ocz1 kVz1 dcz1 pmz1 cdz1 ctz1 : Value}
    (az1 : PySem.W.findIn K (.ref Z) "takes" = some (some (.ref fz1)))
    (iz1 : PySem.W.isFn K (.ref fz1) = true)
    (lz1 : K.lookup fz1 = some ⟨ocz1, odz1, .func (PySem.W.fnOf "takes" "Scanner.takes" (defArgs s_Scanner_takes) (defBody s_Scanner_takes) (defScope s_Scanner_takes) .none kVz1 dcz1 pmz1 anz1 cdz1 ctz1), slz1⟩)
    (cz1 : PySem.W.codeIn K cdz1 "Scanner.takes" = true)
    (kz1 : PySem.W.keepIn K (.ref fz1) = true)
    {fz2 : Addr} {odz2 anz2 : Option Addr} {slz2 : Array (Option Value)} {ocz2 kVz2 dcz2 pmz2 cdz2 ctz2 : Value}
    (az2 : PySem.W.findIn K (.ref Z) "needs" = some (some (.ref fz2)))
    (iz2 : PySem.W.isFn K (.ref fz2) = true)
    (lz2 : K.lookup fz2 = some ⟨ocz2, odz2, .func (PySem.W.fnOf "needs" "Scanner.needs" (defArgs s_Scanner_needs) (defBody s_Scanner_needs) (defScope s_Scanner_needs) .none kVz2 dcz2 pmz2 anz2 cdz2 ctz2), slz2⟩)
    (cz2 : PySem.W.codeIn K cdz2 "Scanner.needs" = true)
    (kz2 : PySem.W.keepIn K (.ref fz2) = true)
    {fz3 : Addr} {odz3 anz3 : Option Addr} {slz3 : Array (Option Value)} {ocz3 kVz3 dcz3 pmz3 cdz3 ctz3 : Value}
    (az3 : PySem.W.findIn K (.ref Z) "ends" = some (some (.ref fz3)))
    (iz3 : PySem.W.isFn K (.ref fz3) = true)
    (lz3 : K.lookup fz3 = some ⟨ocz3, odz3, .func (PySem.W.fnOf "ends" "Scanner.ends" (defArgs s_Scanner_ends) (defBody s_Scanner_ends) (defScope s_Scanner_ends) .none kVz3 dcz3 pmz3 anz3 cdz3 ctz3), slz3⟩)
    (cz3 : PySem.W.codeIn K cdz3 "Scanner.ends" = true)
    (kz3 : PySem.W.keepIn K (.ref fz3) = true)
    {fz4 : Addr} {odz4 anz4 : Option Addr} {slz4 : Array (Option Value)} {ocz4 kVz4 dcz4 pmz4 cdz4 ctz4 : Value}
    (az4 : PySem.W.findIn K (.ref Z) "run_of" = some (some (.ref fz4)))
    (iz4 : PySem.W.isFn K (.ref fz4) = true)
    (lz4 : K.lookup fz4 = some ⟨ocz4, odz4, .func (PySem.W.fnOf "run_of" "Scanner.run_of" (defArgs s_Scanner_run_of) (defBody s_Scanner_run_of) (defScope s_Scanner_run_of) .none kVz4 dcz4 pmz4 anz4 cdz4 ctz4), slz4⟩)
    (cz4 : PySem.W.codeIn K cdz4 "Scanner.run_of" = true)
    (kz4 : PySem.W.keepIn K (.ref fz4) = true)
    {fz5 : Addr} {odz5 anz5 : Option Addr} {slz5 : Array (Option Value)} {ocz5 kVz5 dcz5 pmz5 cdz5 ctz5 : Value}
    (az5 : PySem.W.findIn K (.ref Z) "letters" = some (some (.ref fz5)))
    (iz5 : PySem.W.isFn K (.ref fz5) = true)
    (lz5 : K.lookup fz5 = some ⟨ocz5, odz5, .func (PySem.W.fnOf "letters" "Scanner.letters" (defArgs s_Scanner_letters) (defBody s_Scanner_letters) (defScope s_Scanner_letters) .none kVz5 dcz5 pmz5 anz5 cdz5 ctz5), slz5⟩)
    (cz5 : PySem.W.codeIn K cdz5 "Scanner.letters" = true)
    (kz5 : PySem.W.keepIn K (.ref fz5) = true)
    {DSt fSt cSt kSt TSt : Addr} {ocSt kVSt dcSt pmSt ctSt uTSt cclSt clcSt : Value} {odSt anSt odTSt cddSt ldcSt : Option Addr} {slSt slTSt ccsSt slcSt : Array (Option Value)} {nTSt : Nat} {vsSt : Array Value} {fileSt : Str} {tfSt : Tok} {clsSt : ClassData}
    (gSt : PySem.W.nsIn K mainGlobals "StillError" = some (some (.ref DSt)))
    (iSt : PySem.W.findIn K (.ref DSt) "__init__" = some (some (.ref fSt)))
    (tSt : PySem.W.typeIn K (.ref fSt) = some (.type "function"))
    (fnSt : PySem.W.fnIn K fSt = true)
    (lSt : K.lookup fSt = some ⟨ocSt, odSt, .func (PySem.W.fnX "__init__" "StillError.__init__" (defArgs s_StillError___init__) (defBody s_StillError___init__) (defScope s_StillError___init__) [("__class__", cSt)] (.ref TSt) kVSt dcSt pmSt anSt (.ref kSt) ctSt), slSt⟩)
    (dTSt : K.lookup TSt = some ⟨.type "tuple", odTSt, .seq #[uTSt] nTSt, slTSt⟩)
    (cdSt : PySem.W.codeIn K (.ref kSt) "StillError.__init__" = true)
    (kcSt : K.lookup kSt = some (⟨cclSt, cddSt, .fields vsSt, ccsSt⟩ : Obj))
    (vNSt : vsSt[2]? = some (.str fileSt tfSt))
    (flNSt : ((l.prog.main.file : Str) == fileSt) = true)
    (ceSt : K.lookup cSt = some (⟨clcSt, ldcSt, .cell (some (.ref DSt)), slcSt⟩ : Obj))
    (ccSt : PySem.W.clsIn K DSt = some clsSt)
    (spN : PySem.W.nsIn K mainGlobals "super" = some none)
    (opN : PySem.W.nsIn K cStatics "thirdparty.any" = some none)
    (tpN : (l.prog.main.scope.names.lookup ("super" : Str)).isSome = false)
    (cnN : PySem.W.specialIn K (.builtin "object.__class__") "__get__" = some (some (.builtin "getset_descriptor.__get__")))
    (ctN : PySem.W.takesIn K (.builtin "object.__class__") = some true)
    {DNoText fNoText cNoText kNoText nNoText : Addr} {kVNoText dcNoText pmNoText ocNoText ctNoText cclNoText clNoText : Value} {odNoText anNoText cddNoText cldNoText ddNoText : Option Addr} {slNoText ccsNoText cslNoText : Array (Option Value)} {vsNoText : Array Value} {fileNoText : Str} {tfNoText tkNoText : Tok} {cdNoText : ClassData} {nmNoText qNoText : Str} {bsNoText subNoText : List Value} {snNoText : List Str} {abNoText : Bool} {colNoText : Option Bool} {x0NoText x1NoText x3NoText x5NoText : Option Value}
    (gNoText : PySem.W.nsIn K mainGlobals "NoText" = some (some (.ref DNoText)))
    (iNoText : PySem.W.findIn K (.ref DNoText) "__init__" = some (some (.ref fNoText)))
    (tNoText : PySem.W.typeIn K (.ref fNoText) = some (.type "function"))
    (lNoText : K.lookup fNoText = some ⟨ocNoText, odNoText, .func (PySem.W.fnX "__init__" "NoText.__init__" (defArgs s_NoText___init__) (defBody s_NoText___init__) (defScope s_NoText___init__) [("__class__", cNoText)] .none kVNoText dcNoText pmNoText anNoText (.ref kNoText) ctNoText), slNoText⟩)
    (cd_NoText : PySem.W.codeIn K (.ref kNoText) "NoText.__init__" = true)
    (kcNoText : K.lookup kNoText = some (⟨cclNoText, cddNoText, .fields vsNoText, ccsNoText⟩ : Obj))
    (vNNoText : vsNoText[2]? = some (.str fileNoText tfNoText))
    (flNNoText : ((l.prog.main.file : Str) == fileNoText) = true)
    (ceNoText : K.lookup cNoText = some (⟨clNoText, cldNoText, .cell (some (.ref DNoText)), cslNoText⟩ : Obj))
    (ccNoText : PySem.W.clsIn K DNoText = some cdNoText)
    (sbNoText : PySem.W.mroIn K DNoText (.ref DNoText) = some true)
    (inFNoText : PySem.W.ks_superIn K DNoText DNoText "__init__" = some (some (.ref fSt)))
    (veNoText : PySem.W.subIn K (.ref DNoText) (.type "ValueError") = some true)
    (sb0NoText : PySem.W.mroIn K DNoText (.ref DSt) = some true)
    (inBNoText : PySem.W.ks_superIn K DNoText DSt "__init__" = some (some (.builtin "ValueError.__init__")))
    (ncnNoText : PySem.W.findIn K (.ref DNoText) "class_name" = some none)
    (whNoText : PySem.W.findIn K (.ref DNoText) "what" = some none)
    (oxNoText : K.lookup DNoText = some (excClassObj nmNoText qNoText DNoText nNoText bsNoText [.ref DSt, .type "ValueError", .type "Exception", .type "BaseException", .type "object"] true snNoText subNoText abNoText colNoText ddNoText x0NoText x1NoText (some (.str "NoText" tkNoText)) x3NoText x5NoText "ValueError.__new__"))
    (saNoText : PySem.W.findIn K (.ref DNoText) "__setattr__" = some (some (.builtin "object.__setattr__")))
    (exNoText : PySem.W.subIn K (.ref DNoText) (.type "BaseException") = some true)
    (tyNoText : PySem.W.typeIn K (.ref DNoText) = some (.type "type"))
    (keNoText : PySem.W.keepIn K (.ref DNoText) = true)
    (hdNoText : PySem.W.hasDictIn K DNoText = true)
    (ssNoText : PySem.W.subIn K (.ref DNoText) (.ref DNoText) = some true)
    (gaNoText : PySem.W.findIn K (.ref DNoText) "__getattribute__" = some (some (.builtin "BaseException.__getattribute__")))
    (gtNoText : PySem.W.findIn K (.ref DNoText) "__getattr__" = some none)
    (caNoText : PySem.W.findIn K (.ref DNoText) "__class__" = some (some (.builtin "object.__class__")))
    (moNoText : PySem.W.mroIn K DNoText (.type "object") = some true)
    (fcNoText : PySem.W.findCls K (.ref DNoText) (.type "type") "__name__" = some (.get (.builtin "getset_descriptor.__get__") (.builtin "type.__name__") (.ref DNoText) (.type "type")))
    {DBreaks : Addr}
    (gBreaks : PySem.W.nsIn K mainGlobals "Breaks" = some (some (.ref DBreaks)))
    {DHolds : Addr}
    (gHolds : PySem.W.nsIn K mainGlobals "Holds" = some (some (.ref DHolds)))
    {DNoBridge : Addr}
    (gNoBridge : PySem.W.nsIn K mainGlobals "NoBridge" = some (some (.ref DNoBridge)))
    {DNoEdition : Addr}
    (gNoEdition : PySem.W.nsIn K mainGlobals "NoEdition" = some (some (.ref DNoEdition)))
    {DNoKind : Addr}
    (gNoKind : PySem.W.nsIn K mainGlobals "NoKind" = some (some (.ref DNoKind)))
    {DNoName : Addr}
    (gNoName : PySem.W.nsIn K mainGlobals "NoName" = some (some (.ref DNoName)))
    {DNoRow : Addr}
    (gNoRow : PySem.W.nsIn K mainGlobals "NoRow" = some (some (.ref DNoRow)))
    {DTooGreat : Addr}
    (gTooGreat : PySem.W.nsIn K mainGlobals "TooGreat" = some (some (.ref DTooGreat)))
    (kiSt : PySem.W.kitOne K (.ref DNoText) (.ref DSt) = some true)
    (kiVE : PySem.W.kitOne K (.ref DNoText) (.type "ValueError") = some true)
    (kiAny : PySem.W.kitAny K (.ref DNoText) [.ref DBreaks, .ref DHolds, .ref DNoBridge, .ref DNoEdition, .ref DNoKind, .ref DNoName, .ref DNoRow, .ref DTooGreat] = some false)
    (zVE : PySem.W.nsIn K mainGlobals "ValueError" = some none)
    {aT : Addr} {tLETTERS tLONGEST tMOST_CALLED tMOST_LEVELS tT1 tT2 : Tok} {odT : Option Addr} {nT : Nat} {slT : Array (Option Value)}
    (eLETTERS : PySem.W.nsIn K mainGlobals "LETTERS" = some (some (.str "abcdefghijklmnopqrstuvwxyz" tLETTERS)))
    (eLONGEST : PySem.W.nsIn K mainGlobals "LONGEST" = some (some (.int 8 tLONGEST)))
    (eMOST_CALLED : PySem.W.nsIn K mainGlobals "MOST_CALLED" = some (some (.int 3 tMOST_CALLED)))
    (eMOST_LEVELS : PySem.W.nsIn K mainGlobals "MOST_LEVELS" = some (some (.int 5 tMOST_LEVELS)))
    (eTAKEN : PySem.W.nsIn K mainGlobals "TAKEN" = some (some (.ref aT)))
    (qTAKEN : K.lookup aT = some ⟨.type "tuple", odT, .seq #[.str "num" tT1, .str "text" tT2] nT, slT⟩)
    (z0 : PySem.W.nsIn K mainGlobals "abs" = some none)
    (z1 : PySem.W.nsIn K mainGlobals "all" = some none)
    (z2 : PySem.W.nsIn K mainGlobals "any" = some none)
    (z3 : PySem.W.nsIn K mainGlobals "bool" = some none)
    (z4 : PySem.W.nsIn K mainGlobals "int" = some none)
    (z5 : PySem.W.nsIn K mainGlobals "isinstance" = some none)
    (z6 : PySem.W.nsIn K mainGlobals "len" = some none)
    (z7 : PySem.W.nsIn K mainGlobals "list" = some none)
    (z8 : PySem.W.nsIn K mainGlobals "max" = some none)
    (z9 : PySem.W.nsIn K mainGlobals "min" = some none)
    (z10 : PySem.W.nsIn K mainGlobals "range" = some none)
    (z11 : PySem.W.nsIn K mainGlobals "set" = some none)
    (z12 : PySem.W.nsIn K mainGlobals "sorted" = some none)
    (z13 : PySem.W.nsIn K mainGlobals "str" = some none)
    (z14 : PySem.W.nsIn K mainGlobals "tuple" = some none)
    (z15 : PySem.W.nsIn K mainGlobals "zip" = some none)
    : ∃ fd : FuncData, (∀ (s : Shared) (v : Value), BindsTo s fd ⟨[v], []⟩ [("script", v)]) ∧ ∀ base : Heap, K.In base → base.Ns mainGlobals mg → FnOk l.prog w K mg base CX0 20 fa fd ["script"] (spLaw K) := by
  have e := hfa.symm.trans (PySem.W.mg_of X G a23)
  cases e
  have F_kinds_directly_in := fun_mk (st := s_kinds_directly_in) l0 c0 k0
  have b_kinds_directly_in := F_kinds_directly_in.binds (ps := ["kind"]) fun _ _ _ _ _ _ us hl => match us, hl with | [_], _ => rfl
  have m_kinds_directly_in := PySem.W.mg_of X G a0
  have k_kinds_directly_in := k0
  have F_kinds_in := fun_mk (st := s_kinds_in) l1 c1 k1
  have b_kinds_in := F_kinds_in.binds (ps := ["kind"]) fun _ _ _ _ _ _ us hl => match us, hl with | [_], _ => rfl
  have m_kinds_in := PySem.W.mg_of X G a1
  have k_kinds_in := k1
  have F_calls_in := fun_mk (st := s_calls_in) l2 c2 k2
  have b_calls_in := F_calls_in.binds (ps := ["kind"]) fun _ _ _ _ _ _ us hl => match us, hl with | [_], _ => rfl
  have m_calls_in := PySem.W.mg_of X G a2
  have k_calls_in := k2
  have F_has_calls_in_calls := fun_mk (st := s_has_calls_in_calls) l3 c3 k3
  have b_has_calls_in_calls := F_has_calls_in_calls.binds (ps := ["kind"]) fun _ _ _ _ _ _ us hl => match us, hl with | [_], _ => rfl
  have m_has_calls_in_calls := PySem.W.mg_of X G a3
  have k_has_calls_in_calls := k3
  have F_is_name := fun_mk (st := s_is_name) l4 c4 k4
  have b_is_name := F_is_name.binds (ps := ["text"]) fun _ _ _ _ _ _ us hl => match us, hl with | [_], _ => rfl
  have m_is_name := PySem.W.mg_of X G a4
  have k_is_name := k4
  have F_callback_at := fun_mk (st := s_callback_at) l5 c5 k5
  have b_callback_at := F_callback_at.binds (ps := ["scan", "levels"]) fun _ _ _ _ _ _ us hl => match us, hl with | [_, _], _ => rfl
  have m_callback_at := PySem.W.mg_of X G a5
  have k_callback_at := k5
  have F_kind_at := fun_mk (st := s_kind_at) l6 c6 k6
  have b_kind_at := F_kind_at.binds (ps := ["scan", "levels"]) fun _ _ _ _ _ _ us hl => match us, hl with | [_, _], _ => rfl
  have m_kind_at := PySem.W.mg_of X G a6
  have k_kind_at := k6
  have F_read_kind := fun_mk (st := s_read_kind) l7 c7 k7
  have b_read_kind := F_read_kind.binds (ps := ["text"]) fun _ _ _ _ _ _ us hl => match us, hl with | [_], _ => rfl
  have m_read_kind := PySem.W.mg_of X G a7
  have k_read_kind := k7
  have F__law_tray := fun_mk (st := s__law_tray) l8 c8 k8
  have b__law_tray := F__law_tray.binds (ps := ["script"]) fun _ _ _ _ _ _ us hl => match us, hl with | [_], _ => rfl
  have m__law_tray := PySem.W.mg_of X G a8
  have k__law_tray := k8
  have F__law_draw := fun_mk (st := s__law_draw) l9 c9 k9
  have b__law_draw := F__law_draw.binds (ps := ["tray", "many"]) fun _ _ _ _ _ _ us hl => match us, hl with | [_, _], _ => rfl
  have m__law_draw := PySem.W.mg_of X G a9
  have k__law_draw := k9
  have F__law_alike := fun_mk (st := s__law_alike) l10 c10 k10
  have b__law_alike := F__law_alike.binds (ps := ["found", "due"]) fun _ _ _ _ _ _ us hl => match us, hl with | [_, _], _ => rfl
  have m__law_alike := PySem.W.mg_of X G a10
  have k__law_alike := k10
  have F__law_name := fun_mk (st := s__law_name) l11 c11 k11
  have b__law_name := F__law_name.binds (ps := ["tray", "used"]) fun _ _ _ _ _ _ us hl => match us, hl with | [_, _], _ => rfl
  have m__law_name := PySem.W.mg_of X G a11
  have k__law_name := k11
  have F__law_names := fun_mk (st := s__law_names) l12 c12 k12
  have b__law_names := F__law_names.binds (ps := ["tray", "many", "used"]) fun _ _ _ _ _ _ us hl => match us, hl with | [_, _, _], _ => rfl
  have m__law_names := PySem.W.mg_of X G a12
  have k__law_names := k12
  have F__law_flat_kind := fun_mk (st := s__law_flat_kind) l13 c13 k13
  have b__law_flat_kind := F__law_flat_kind.binds (ps := ["tray", "names", "deep"]) fun _ _ _ _ _ _ us hl => match us, hl with | [_, _, _], _ => rfl
  have m__law_flat_kind := PySem.W.mg_of X G a13
  have k__law_flat_kind := k13
  have F__law_kind := fun_mk (st := s__law_kind) l14 c14 k14
  have b__law_kind := F__law_kind.binds (ps := ["tray", "names", "deep"]) fun _ _ _ _ _ _ us hl => match us, hl with | [_, _, _], _ => rfl
  have m__law_kind := PySem.W.mg_of X G a14
  have k__law_kind := k14
  have F__law_shown := fun_mk (st := s__law_shown) l15 c15 k15
  have b__law_shown := F__law_shown.binds (ps := ["kind"]) fun _ _ _ _ _ _ us hl => match us, hl with | [_], _ => rfl
  have m__law_shown := PySem.W.mg_of X G a15
  have k__law_shown := k15
  have F__law_sign := fun_mk (st := s__law_sign) l16 c16 k16
  have b__law_sign := F__law_sign.binds (ps := ["tray"]) fun _ _ _ _ _ _ us hl => match us, hl with | [_], _ => rfl
  have m__law_sign := PySem.W.mg_of X G a16
  have k__law_sign := k16
  have F__law_sign_spoilt := fun_mk (st := s__law_sign_spoilt) l17 c17 k17
  have b__law_sign_spoilt := F__law_sign_spoilt.binds (ps := ["tray", "text"]) fun _ _ _ _ _ _ us hl => match us, hl with | [_, _], _ => rfl
  have m__law_sign_spoilt := PySem.W.mg_of X G a17
  have k__law_sign_spoilt := k17
  have F__law_is_name := fun_mk (st := s__law_is_name) l18 c18 k18
  have b__law_is_name := F__law_is_name.binds (ps := ["text"]) fun _ _ _ _ _ _ us hl => match us, hl with | [_], _ => rfl
  have m__law_is_name := PySem.W.mg_of X G a18
  have k__law_is_name := k18
  have F__law_flat_of := fun_mk (st := s__law_flat_of) l19 c19 k19
  have b__law_flat_of := F__law_flat_of.binds (ps := ["text", "deep"]) fun _ _ _ _ _ _ us hl => match us, hl with | [_, _], _ => rfl
  have m__law_flat_of := PySem.W.mg_of X G a19
  have k__law_flat_of := k19
  have F__law_kind_of := fun_mk (st := s__law_kind_of) l20 c20 k20
  have b__law_kind_of := F__law_kind_of.binds (ps := ["text", "deep"]) fun _ _ _ _ _ _ us hl => match us, hl with | [_, _], _ => rfl
  have m__law_kind_of := PySem.W.mg_of X G a20
  have k__law_kind_of := k20
  have F__law_spoilt := fun_mk (st := s__law_spoilt) l21 c21 k21
  have b__law_spoilt := F__law_spoilt.binds (ps := ["tray", "text"]) fun _ _ _ _ _ _ us hl => match us, hl with | [_, _], _ => rfl
  have m__law_spoilt := PySem.W.mg_of X G a21
  have k__law_spoilt := k21
  have F__law_odd := fun_mk (st := s__law_odd) l22 c22 k22
  have b__law_odd := F__law_odd.binds (ps := ["tray"]) fun _ _ _ _ _ _ us hl => match us, hl with | [_], _ => rfl
  have m__law_odd := PySem.W.mg_of X G a22
  have k__law_odd := k22
  have F_law := fun_mk (st := s_law) l23 c23 k23
  have M : Mn K mg aT aT := ⟨⟨_, PySem.W.mg_of X G eLETTERS⟩, ⟨_, PySem.W.mg_of X G eLONGEST⟩, PySem.W.mg_of X G eTAKEN, fun H => .inr ⟨_, _, _, qTAKEN, rfl, rfl, (by show 2 ≤ sizeLine; decide), .cons ⟨_, rfl⟩ (.cons ⟨_, rfl⟩ .nil)⟩, ⟨_, PySem.W.mg_of X G eMOST_CALLED⟩, ⟨_, PySem.W.mg_of X G eMOST_LEVELS⟩⟩
  have cz : ScnC K Z := ⟨⟨pgZ, hdZ, poZ, saZ⟩, nZtext, nZat⟩
  have m_Scanner := PySem.W.mg_of X G aZ
  have F_Scanner___init__ := fun_mk (st := s_Scanner___init__) lz0 cz0 kz0
  have bm_scan := F_Scanner___init__.binds (ps := ["self", "text"]) fun _ _ _ _ _ _ us hl => match us, hl with | [_, _], _ => rfl
  have mkz : Mk K Z fz0 := ⟨mkZ, az0, iz0, kcZ⟩
  have F_Scanner_takes := fun_mk (st := s_Scanner_takes) lz1 cz1 kz1
  have bm_takes := F_Scanner_takes.binds (ps := ["self", "sign"]) fun _ _ _ _ _ _ us hl => match us, hl with | [_, _], _ => rfl
  have m_takes : Meth K Z "takes" fz1 := ⟨az1, iz1, kz1⟩
  have F_Scanner_needs := fun_mk (st := s_Scanner_needs) lz2 cz2 kz2
  have bm_needs := F_Scanner_needs.binds (ps := ["self", "sign"]) fun _ _ _ _ _ _ us hl => match us, hl with | [_, _], _ => rfl
  have m_needs : Meth K Z "needs" fz2 := ⟨az2, iz2, kz2⟩
  have F_Scanner_ends := fun_mk (st := s_Scanner_ends) lz3 cz3 kz3
  have bm_ends := F_Scanner_ends.binds (ps := ["self"]) fun _ _ _ _ _ _ us hl => match us, hl with | [_], _ => rfl
  have m_ends : Meth K Z "ends" fz3 := ⟨az3, iz3, kz3⟩
  have F_Scanner_run_of := fun_mk (st := s_Scanner_run_of) lz4 cz4 kz4
  have bm_run_of := F_Scanner_run_of.binds (ps := ["self", "signs"]) fun _ _ _ _ _ _ us hl => match us, hl with | [_, _], _ => rfl
  have m_run_of : Meth K Z "run_of" fz4 := ⟨az4, iz4, kz4⟩
  have F_Scanner_letters := fun_mk (st := s_Scanner_letters) lz5 cz5 kz5
  have bm_letters := F_Scanner_letters.binds (ps := ["self"]) fun _ _ _ _ _ _ us hl => match us, hl with | [_], _ => rfl
  have m_letters : Meth K Z "letters" fz5 := ⟨az5, iz5, kz5⟩
  have B : Bn mg := ⟨PySem.W.mg_none_of X G z0, PySem.W.mg_none_of X G z1, PySem.W.mg_none_of X G z2, PySem.W.mg_none_of X G z3, PySem.W.mg_none_of X G z4, PySem.W.mg_none_of X G z5, PySem.W.mg_none_of X G z6, PySem.W.mg_none_of X G z7, PySem.W.mg_none_of X G z8, PySem.W.mg_none_of X G z9, PySem.W.mg_none_of X G z10, PySem.W.mg_none_of X G z11, PySem.W.mg_none_of X G z12, PySem.W.mg_none_of X G z13, PySem.W.mg_none_of X G z14, PySem.W.mg_none_of X G z15⟩
  refine ⟨PySem.W.fnOf "law" "law" (defArgs s_law) (defBody s_law) (defScope s_law) .none kV23 dc23 pm23 an23 cd23 ct23, fun s v => .of_eq rfl, fun base _ _ => ?_⟩
  have hsup := PySem.W.mg_none_of X G spN
  have S0 : StillC l.prog K mg DSt fSt cSt kSt _ := ⟨⟨ocSt, kVSt, dcSt, pmSt, ctSt, odSt, anSt, slSt, TSt, rfl, lSt, _, _, _, dTSt, rfl⟩, cdSt, ⟨⟨cclSt, cddSt, vsSt, ccsSt, fileSt, tfSt, kcSt, vNSt, flNSt⟩, ⟨clcSt, ldcSt, slcSt, ceSt⟩, ⟨_, ccSt⟩, hsup, opN, tpN⟩, tSt, fnSt⟩
  have N_NoText : NoTextC l.prog K mg DNoText fNoText cNoText kNoText _ DSt fSt cSt kSt _ := ⟨⟨ocNoText, kVNoText, dcNoText, pmNoText, ctNoText, odNoText, anNoText, slNoText, rfl, lNoText⟩, cd_NoText, ⟨⟨cclNoText, cddNoText, vsNoText, ccsNoText, fileNoText, tfNoText, kcNoText, vNNoText, flNNoText⟩, ⟨clNoText, cldNoText, cslNoText, ceNoText⟩, ⟨_, ccNoText⟩, hsup, opN, tpN⟩, S0, ⟨⟨_, ccNoText⟩, sbNoText, inFNoText, veNoText⟩, ⟨⟨⟨nmNoText, qNoText, nNoText, bsNoText, _, snNoText, subNoText, abNoText, colNoText, ddNoText, x0NoText, x1NoText, _, x3NoText, x5NoText, oxNoText, rfl⟩, saNoText, exNoText, tyNoText, keNoText⟩, ⟨gaNoText, gtNoText, exNoText, hdNoText, caNoText, cnN, ctN, moNoText, ⟨_, _, oxNoText, rfl⟩, tyNoText, opN, fcNoText⟩, ⟨⟨_, ccNoText⟩, sb0NoText, inBNoText, veNoText⟩, ncnNoText⟩, iNoText, tNoText, whNoText, PySem.W.mg_of X G gNoText⟩
  have te_NoText : PySem.W.exmOne K (.ref DNoText) (.ref DNoText) = some true := PySem.W.exm_ref exNoText hdNoText tyNoText ssNoText
  have c__law_draw : Cal l.prog w K mg base "_law_draw" 1 ["tray", "many"] spDraw := ⟨_, _, ok_draw F__law_draw, m__law_draw, k__law_draw, b__law_draw⟩
  have c__law_tray : Cal l.prog w K mg base "_law_tray" 1 ["script"] (spTray K) := ⟨_, _, ok_tray B F__law_tray, m__law_tray, k__law_tray, b__law_tray⟩
  have c__law_name : Cal l.prog w K mg base "_law_name" 2 ["tray", "used"] spName := ⟨_, _, ok_name B F__law_name c__law_draw, m__law_name, k__law_name, b__law_name⟩
  have c__law_names : Cal l.prog w K mg base "_law_names" 3 ["tray", "many", "used"] spNames := ⟨_, _, ok_names B F__law_names c__law_name, m__law_names, k__law_names, b__law_names⟩
  have c__law_flat_kind : Cal l.prog w K mg base "_law_flat_kind" 6 ["tray", "names", "deep"] (spFlatTo 5) :=
    ⟨_, _, FnOk_any fun e le => (ok_flat B F__law_flat_kind m__law_flat_kind b__law_flat_kind c__law_draw e).mono (by omega), m__law_flat_kind, k__law_flat_kind, b__law_flat_kind⟩
  have c__law_kind : Cal l.prog w K mg base "_law_kind" 12 ["tray", "names", "deep"] (spKindTo 5) :=
    ⟨_, _, FnOk_any fun e le => (ok_kind B F__law_kind m__law_kind b__law_kind c__law_draw c__law_flat_kind e le).mono (by omega), m__law_kind, k__law_kind, b__law_kind⟩
  have c_kinds_directly_in : Cal l.prog w K mg base "kinds_directly_in" 1 ["kind"] spInner := ⟨_, _, ok_inner F_kinds_directly_in, m_kinds_directly_in, k_kinds_directly_in, b_kinds_directly_in⟩
  have c_kinds_in : Cal l.prog w K mg base "kinds_in" 2 ["kind"] spKindsIn := ⟨_, _, ok_kinds_in F_kinds_in c_kinds_directly_in, m_kinds_in, k_kinds_in, b_kinds_in⟩
  have c_calls_in : Cal l.prog w K mg base "calls_in" 3 ["kind"] spCallsIn := ⟨_, _, ok_calls_in F_calls_in c_kinds_in, m_calls_in, k_calls_in, b_calls_in⟩
  have c_has_calls_in_calls : Cal l.prog w K mg base "has_calls_in_calls" 4 ["kind"] spCcc := ⟨_, _, ok_ccc B F_has_calls_in_calls c_calls_in, m_has_calls_in_calls, k_has_calls_in_calls, b_has_calls_in_calls⟩
  have c_is_name : Cal l.prog w K mg base "is_name" 1 ["text"] spIsName := ⟨_, _, ok_is_name B M F_is_name, m_is_name, k_is_name, b_is_name⟩
  have f_scan := ok_scan (P := l.prog) (w := w) (mg := mg) (base := base) cz F_Scanner___init__
  have f_takes := ok_takes (P := l.prog) (w := w) (mg := mg) (base := base) B cz F_Scanner_takes
  have f_needs := ok_needsX (P := l.prog) (w := w) (base := base) cz N_NoText F_Scanner_needs m_takes f_takes bm_takes
  have f_ends := ok_endsX (P := l.prog) (w := w) (base := base) B cz N_NoText F_Scanner_ends
  have f_run_of := ok_run (P := l.prog) (w := w) (mg := mg) (base := base) B cz F_Scanner_run_of
  have f_letters := ok_letters (P := l.prog) (w := w) (mg := mg) (base := base) M F_Scanner_letters cz m_run_of f_run_of bm_run_of
  have c_kind_at : CalX l.prog w K mg base "kind_at" 18 ["scan", "levels"] (spKindX Z DNoText 5) :=
    ⟨_, _, ok_kindX B M cz N_NoText F_kind_at m_kind_at b_kind_at F_callback_at m_callback_at b_callback_at m_takes f_takes bm_takes m_needs f_needs bm_needs m_letters f_letters bm_letters c_is_name 5, m_kind_at, k_kind_at, b_kind_at⟩
  have c_read_kind : CalX l.prog w K mg base "read_kind" 19 ["text"] (spReadX DNoText) := ⟨_, _, ok_readX (P := l.prog) (w := w) (base := base) B M cz N_NoText F_read_kind mkz f_scan m_Scanner bm_scan c_kind_at m_ends f_ends bm_ends c_has_calls_in_calls c_calls_in, m_read_kind, k_read_kind, b_read_kind⟩
  have c__law_shown : Cal l.prog w K mg base "_law_shown" 6 ["kind"] (spShow 5) := ⟨_, _, ok_shown B F__law_shown m__law_shown b__law_shown 5, m__law_shown, k__law_shown, b__law_shown⟩
  have c__law_alike : Cal l.prog w K mg base "_law_alike" 16 ["found", "due"] (spAlike K 15) := ⟨_, _, ok_alike B F__law_alike m__law_alike b__law_alike 15, m__law_alike, k__law_alike, b__law_alike⟩
  have c__law_sign : Cal l.prog w K mg base "_law_sign" 2 ["tray"] spSign := ⟨_, _, ok_sign B F__law_sign c__law_draw, m__law_sign, k__law_sign, b__law_sign⟩
  have c__law_sign_spoilt : Cal l.prog w K mg base "_law_sign_spoilt" 3 ["tray", "text"] spSpoil := ⟨_, _, ok_sign_spoilt B F__law_sign_spoilt c__law_draw c__law_sign, m__law_sign_spoilt, k__law_sign_spoilt, b__law_sign_spoilt⟩
  have c__law_spoilt : Cal l.prog w K mg base "_law_spoilt" 4 ["tray", "text"] spSpoilt := ⟨_, _, ok_spoilt B F__law_spoilt c__law_draw c__law_sign_spoilt, m__law_spoilt, k__law_spoilt, b__law_spoilt⟩
  have c__law_odd : Cal l.prog w K mg base "_law_odd" 2 ["tray"] spOdd := ⟨_, _, ok_odd B F__law_odd c__law_draw, m__law_odd, k__law_odd, b__law_odd⟩
  have c__law_is_name : Cal l.prog w K mg base "_law_is_name" 1 ["text"] spIsName := ⟨_, _, ok_law_is_name B F__law_is_name, m__law_is_name, k__law_is_name, b__law_is_name⟩
  have c__law_flat_of : Cal l.prog w K mg base "_law_flat_of" 7 ["text", "deep"] (spFlatOfTo 5) :=
    ⟨_, _, FnOk_any fun e le => (ok_flat_of B F__law_flat_of m__law_flat_of b__law_flat_of c__law_is_name e).mono (by omega), m__law_flat_of, k__law_flat_of, b__law_flat_of⟩
  have c__law_kind_of : Cal l.prog w K mg base "_law_kind_of" 12 ["text", "deep"] (spKindOf 4) := ⟨_, _, ok_kind_of B F__law_kind_of m__law_kind_of b__law_kind_of c__law_flat_of 4 (by omega), m__law_kind_of, k__law_kind_of, b__law_kind_of⟩
  have T : ErrI K DNoText := ⟨gaNoText, gtNoText, exNoText, hdNoText, caNoText, cnN, ctN, moNoText⟩
  have gm : ∀ {x : Str} {v : Value}, PySem.W.nsIn K mainGlobals x = some (some v) → mg x = some v := fun e => PySem.W.mg_of X G e
  exact ok_law B F_law N_NoText te_NoText ⟨gaNoText, gtNoText, exNoText, hdNoText⟩ whNoText T (gm gSt) (PySem.W.mg_none_of X G zVE) (gm gBreaks) (gm gHolds) (gm gNoBridge) (gm gNoEdition) (gm gNoKind) (gm gNoName) (gm gNoRow) (gm gTooGreat) kiSt kiVE kiAny
    c__law_tray c__law_draw c__law_names c__law_kind c__law_shown c__law_alike c__law_odd c__law_spoilt c__law_kind_of c_read_kind
theorem walk {l : PySem.W.OpenLaw} {q : Program} {loose : List Str} {XP : (Str → Option Value) → Heap → Prop} {YP : World → Heap → Prop} {d : DefRec} {K : Params → PySem.W.Frag}
    (hn : l.most = some 63) (hdf : d.params.defaults = []) (hY : ∀ (w : World) (h : Heap), YP w h → (K w.params).In h)
    (F : ∀ (w : World) (mg : Str → Option Value) (fa : Addr) (h : Heap), (K w.params).In h → h.Ns mainGlobals mg → mg d.name = some (.ref fa) →
      ∃ fd : FuncData, (∀ (s : Shared) (u : Value), BindsTo s fd ⟨[u], []⟩ [("script", u)]) ∧ ∀ base : Heap, (K w.params).In base → base.Ns mainGlobals mg →
        FnOk l.prog w (K w.params) mg base CX0 20 fa fd ["script"] (spLaw (K w.params))) :
    PySem.W.WalkO q loose XP YP l.row.toRowW d [] (fun f vs => PySem.call f vs) :=
  L2.walk_of (n := 63) (k := 20) (x := "script") (CX := fun _ => CX0) (sp := fun w => spLaw (K w.params)) hn (by decide) hdf ⟨rfl, by decide, by decide⟩ hY F
    (fun _ _ a ns hl _ hS => ⟨a, ns, rfl, hS, hl, fun _ => rfl⟩) fun _ _ _ _ _ z => z
end My
open PySem PySem.W PyProof.Rows
set_option maxRecDepth 100000 in
set_option maxHeartbeats 0 in
theorem PySem.Challenge.cw_stillruns_k61_texts_of_no_kind_holds : PySem.Challenge.rw_stillruns_k61_texts_of_no_kind.Holds := by
  w_on; o_law; k_head; (case hw => w_witness2)
  k_fill
  refine My.walk (l := PySem.Challenge.rw_stillruns_k61_texts_of_no_kind) rfl rfl (fun w h Y => PySem.W.kIn_of Y) ?F
  case F =>
    intro w mg fa h KX G hmg
    refine' My.all_mk KX G hmg ?a0 ?l0 ?c0 ?k0 ?a1 ?l1 ?c1 ?k1 ?a2 ?l2 ?c2 ?k2 ?a3 ?l3 ?c3 ?k3 ?a4 ?l4 ?c4 ?k4 ?a5 ?l5 ?c5 ?k5 ?a6 ?l6 ?c6 ?k6 ?a7 ?l7 ?c7 ?k7 ?a8 ?l8 ?c8 ?k8 ?a9 ?l9 ?c9 ?k9 ?a10 ?l10 ?c10 ?k10 ?a11 ?l11 ?c11 ?k11 ?a12 ?l12 ?c12 ?k12 ?a13 ?l13 ?c13 ?k13 ?a14 ?l14 ?c14 ?k14 ?a15 ?l15 ?c15 ?k15 ?a16 ?l16 ?c16 ?k16 ?a17 ?l17 ?c17 ?k17 ?a18 ?l18 ?c18 ?k18 ?a19 ?l19 ?c19 ?k19 ?a20 ?l20 ?c20 ?k20 ?a21 ?l21 ?c21 ?k21 ?a22 ?l22 ?c22 ?k22 ?a23 ?l23 ?c23 ?k23 ?aZ ?pgZ ?hdZ ?poZ ?saZ ?mkZ ?kcZ ?nZtext ?nZat ?az0 ?iz0 ?lz0 ?cz0 ?kz0 ?az1 ?iz1 ?lz1 ?cz1 ?kz1 ?az2 ?iz2 ?lz2 ?cz2 ?kz2 ?az3 ?iz3 ?lz3 ?cz3 ?kz3 ?az4 ?iz4 ?lz4 ?cz4 ?kz4 ?az5 ?iz5 ?lz5 ?cz5 ?kz5 ?gSt ?iSt ?tSt ?fnSt ?lSt ?dTSt ?cdSt ?kcSt ?vNSt ?flNSt ?ceSt ?ccSt ?spN ?opN ?tpN ?cnN ?ctN ?gNoText ?iNoText ?tNoText ?lNoText ?cd_NoText ?kcNoText ?vNNoText ?flNNoText ?ceNoText ?ccNoText ?sbNoText ?inFNoText ?veNoText ?sb0NoText ?inBNoText ?ncnNoText ?whNoText ?oxNoText ?saNoText ?exNoText ?tyNoText ?keNoText ?hdNoText ?ssNoText ?gaNoText ?gtNoText ?caNoText ?moNoText ?fcNoText ?gBreaks ?gHolds ?gNoBridge ?gNoEdition ?gNoKind ?gNoName ?gNoRow ?gTooGreat ?kiSt ?kiVE ?kiAny ?zVE ?eLETTERS ?eLONGEST ?eMOST_CALLED ?eMOST_LEVELS ?eTAKEN ?qTAKEN ?z0 ?z1 ?z2 ?z3 ?z4 ?z5 ?z6 ?z7 ?z8 ?z9 ?z10 ?z11 ?z12 ?z13 ?z14 ?z15
    (case a0 => k_is)
    (case l0 => k_is)
    (case c0 => k_is)
    (case k0 => k_is)
    (case a1 => k_is)
    (case l1 => k_is)
    (case c1 => k_is)
    (case k1 => k_is)
    (case a2 => k_is)
    (case l2 => k_is)
    (case c2 => k_is)
    (case k2 => k_is)
    (case a3 => k_is)
    (case l3 => k_is)
    (case c3 => k_is)
    (case k3 => k_is)
    (case a4 => k_is)
    (case l4 => k_is)
    (case c4 => k_is)
    (case k4 => k_is)
    (case a5 => k_is)
    (case l5 => k_is)
    (case c5 => k_is)
    (case k5 => k_is)
    (case a6 => k_is)
    (case l6 => k_is)
    (case c6 => k_is)
    (case k6 => k_is)
    (case a7 => k_is)
    (case l7 => k_is)
    (case c7 => k_is)
    (case k7 => k_is)
    (case a8 => k_is)
    (case l8 => k_is)
    (case c8 => k_is)
    (case k8 => k_is)
    (case a9 => k_is)
    (case l9 => k_is)
    (case c9 => k_is)
    (case k9 => k_is)
    (case a10 => k_is)
    (case l10 => k_is)
    (case c10 => k_is)
    (case k10 => k_is)
    (case a11 => k_is)
    (case l11 => k_is)
    (case c11 => k_is)
    (case k11 => k_is)
    (case a12 => k_is)
    (case l12 => k_is)
    (case c12 => k_is)
    (case k12 => k_is)
    (case a13 => k_is)
    (case l13 => k_is)
    (case c13 => k_is)
    (case k13 => k_is)
    (case a14 => k_is)
    (case l14 => k_is)
    (case c14 => k_is)
    (case k14 => k_is)
    (case a15 => k_is)
    (case l15 => k_is)
    (case c15 => k_is)
    (case k15 => k_is)
    (case a16 => k_is)
    (case l16 => k_is)
    (case c16 => k_is)
    (case k16 => k_is)
    (case a17 => k_is)
    (case l17 => k_is)
    (case c17 => k_is)
    (case k17 => k_is)
    (case a18 => k_is)
    (case l18 => k_is)
    (case c18 => k_is)
    (case k18 => k_is)
    (case a19 => k_is)
    (case l19 => k_is)
    (case c19 => k_is)
    (case k19 => k_is)
    (case a20 => k_is)
    (case l20 => k_is)
    (case c20 => k_is)
    (case k20 => k_is)
    (case a21 => k_is)
    (case l21 => k_is)
    (case c21 => k_is)
    (case k21 => k_is)
    (case a22 => k_is)
    (case l22 => k_is)
    (case c22 => k_is)
    (case k22 => k_is)
    (case a23 => k_is)
    (case l23 => k_is)
    (case c23 => k_is)
    (case k23 => k_is)
    (case aZ => k_is)
    (case pgZ => k_is)
    (case hdZ => k_is)
    (case poZ => k_is)
    (case saZ => k_is)
    (case mkZ => k_is)
    (case kcZ => k_is)
    (case nZtext => k_is)
    (case nZat => k_is)
    (case az0 => k_is)
    (case iz0 => k_is)
    (case lz0 => k_is)
    (case cz0 => k_is)
    (case kz0 => k_is)
    (case az1 => k_is)
    (case iz1 => k_is)
    (case lz1 => k_is)
    (case cz1 => k_is)
    (case kz1 => k_is)
    (case az2 => k_is)
    (case iz2 => k_is)
    (case lz2 => k_is)
    (case cz2 => k_is)
    (case kz2 => k_is)
    (case az3 => k_is)
    (case iz3 => k_is)
    (case lz3 => k_is)
    (case cz3 => k_is)
    (case kz3 => k_is)
    (case az4 => k_is)
    (case iz4 => k_is)
    (case lz4 => k_is)
    (case cz4 => k_is)
    (case kz4 => k_is)
    (case az5 => k_is)
    (case iz5 => k_is)
    (case lz5 => k_is)
    (case cz5 => k_is)
    (case kz5 => k_is)
    (case gSt => k_is)
    (case iSt => k_is)
    (case tSt => k_is)
    (case fnSt => k_is)
    (case lSt => k_is)
    (case dTSt => k_is)
    (case cdSt => k_is)
    (case kcSt => k_is)
    (case vNSt => first | k_is | rfl | decide +kernel)
    (case flNSt => first | decide +kernel | rfl | k_is)
    (case ceSt => k_is)
    (case ccSt => k_is)
    (case spN => k_is)
    (case opN => k_is)
    (case tpN => first | decide +kernel | rfl | k_is)
    (case cnN => k_is)
    (case ctN => k_is)
    (case gNoText => k_is)
    (case iNoText => k_is)
    (case tNoText => k_is)
    (case lNoText => k_is)
    (case cd_NoText => k_is)
    (case kcNoText => k_is)
    (case vNNoText => first | k_is | rfl | decide +kernel)
    (case flNNoText => first | decide +kernel | rfl | k_is)
    (case ceNoText => k_is)
    (case ccNoText => k_is)
    (case sbNoText => k_is)
    (case inFNoText => first | ks_is | k_is)
    (case veNoText => k_is)
    (case sb0NoText => k_is)
    (case inBNoText => first | ks_is | k_is)
    (case ncnNoText => k_is)
    (case whNoText => k_is)
    (case oxNoText => k_is)
    (case saNoText => k_is)
    (case exNoText => k_is)
    (case tyNoText => k_is)
    (case keNoText => k_is)
    (case hdNoText => k_is)
    (case ssNoText => k_is)
    (case gaNoText => k_is)
    (case gtNoText => k_is)
    (case caNoText => k_is)
    (case moNoText => k_is)
    (case fcNoText => k_is)
    (case gBreaks => k_is)
    (case gHolds => k_is)
    (case gNoBridge => k_is)
    (case gNoEdition => k_is)
    (case gNoKind => k_is)
    (case gNoName => k_is)
    (case gNoRow => k_is)
    (case gTooGreat => k_is)
    (case kiSt => first | kit_is | k_is | rfl | decide +kernel)
    (case kiVE => first | kit_is | k_is | rfl | decide +kernel)
    (case kiAny => first | kit_is | k_is | rfl | decide +kernel)
    (case zVE => k_is)
    (case eLETTERS => k_is)
    (case eLONGEST => k_is)
    (case eMOST_CALLED => k_is)
    (case eMOST_LEVELS => k_is)
    (case eTAKEN => k_is)
    (case qTAKEN => k_is)
    (case z0 => k_is)
    (case z1 => k_is)
    (case z2 => k_is)
    (case z3 => k_is)
    (case z4 => k_is)
    (case z5 => k_is)
    (case z6 => k_is)
    (case z7 => k_is)
    (case z8 => k_is)
    (case z9 => k_is)
    (case z10 => k_is)
    (case z11 => k_is)
    (case z12 => k_is)
    (case z13 => k_is)
    (case z14 => k_is)
    (case z15 => k_is)
