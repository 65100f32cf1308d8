import PyProof.Rows.All
import Wide.All
import OpenK.AllK
import Wide.FinOn
import HandS.Base
import HandS.Call
import HandS.List
import HandS.Comp
import HandS.Ends
import HandS.Iter
import HandS.Words
import HandS.WordsList
import HandS.Star
import HandS.More
import HandS.ForMost
import HandS.IsInst
import HandS.TupAny
import HandS.Wide
import HandS.StrMore
import HandS.FStr
import PyProof.FitsInt
import KE.KDictZip
import HandS.Zip
import HandS.Walk
import HandS.WordsExc
import HandS.Text
import HandS.Nested
import HandS.WrittenGet
import HandS.EndTab
import PySem.Challenge.RW_stillruns_k64_terms_written
set_option Elab.async false
set_option linter.unusedVariables false
set_option maxRecDepth 100000
namespace My
open PySem L2
/-! a def that stands behind the top, by what a caller needs of it -/
structure Cal (P : Program) (w : World) (K : PySem.W.Frag) (mg : Str → Option Value) (base : Heap) (x : Str) (n : Nat) (ps : List Str) (sp : Sp) : Prop where
  ex : ∃ (f : Addr) (fd : FuncData), FnOk P w K mg base CX0 n f fd ps sp ∧
    mg x = some (.ref f) ∧ PySem.W.keepIn K (.ref f) = true ∧ Binds K fd ps []
/-- how one keyword binds (the only parameter) -/
structure CalK (P : Program) (w : World) (K : PySem.W.Frag) (mg : Str → Option Value) (base : Heap) (x : Str) (n : Nat) (y : Str) (sp : Sp) : Prop where
  ex : ∃ (f : Addr) (fd : FuncData), FnOk P w K mg base CX0 n f fd [y] sp ∧
    mg x = some (.ref f) ∧ PySem.W.keepIn K (.ref f) = true ∧ KBinds K fd [y] [y] (fun us ws => us ++ ws) (fun vs zs => vs ++ zs)
section
variable {X : Cx} {x : Str} {n m : Nat} {ps : List Str} {sp : Sp} {es : List Expr} {e : Expr} {t tk : TA} {p pos : Pos} {y : Str} {kws : List Keyword}
theorem kbinds1 {K : PySem.W.Frag} {x qual : Str} {st : Stmt} {f : Addr} {fd : FuncData} {y : Str} (F : Fun K x qual st f fd)
    (h1 : ∀ (kV doc pm : Value) (an : Option Addr) (cdv ct u : Value), bindArgs (PySem.W.fnOf x qual (defArgs st) (defBody st) (defScope st) .none kV doc pm an cdv ct) ⟨[u], []⟩ = pure [(y, u)])
    (h2 : ∀ (kV doc pm : Value) (an : Option Addr) (cdv ct u : Value), bindArgs (PySem.W.fnOf x qual (defArgs st) (defBody st) (defScope st) .none kV doc pm an cdv ct) ⟨[], [(y, u)]⟩ = pure [(y, u)]) :
    KBinds K fd [y] [y] (fun us ws => us ++ ws) (fun vs zs => vs ++ zs) := by
  obtain ⟨oc, od, kV, doc, pm, an, cdv, ct, osl, rfl, lk, hcd⟩ := F.ex
  refine ⟨fun s us ws _ hl => ?_, fun r1 r2 => r1.append r2⟩
  match us, ws, hl with
  | [u], [], _ => exact .of_eq (h1 kV doc pm an cdv ct u)
  | [], [u], _ => exact .of_eq (h2 kV doc pm an cdv ct u)
theorem pc (C : Cal X.prog X.w X.K X.mg X.base x n ps sp) (hr : Room n X.A) (ha : PA X (e :: es) t) (hg : Gl X x := by rfl)
    (hdb : (x == ("__debug__" : Str)) = false := by decide)
    (he : starEach (e :: es) X.env = (false, eval e X.env) :: starEach es X.env := by rfl)
    (hpl : (backTo pos (starEach es X.env)).any (·.1) = false := by rfl) :
    PE X (.Call (.Name x p) (e :: es) [] pos) (tCall sp [] E0 t) := by
  obtain ⟨f, fd, F, hm, hk, hb⟩ := C.ex
  exact pe_call F hr hg hm hk hb .nil pass0 ha hdb he hpl
theorem pck0 (C : CalK X.prog X.w X.K X.mg X.base x n y sp) (hr : Room n X.A) (hkw : PK X kws tk) (hg : Gl X x := by rfl)
    (hdb : (x == ("__debug__" : Str)) = false := by decide)
    (hall : (backToKw pos (keywordEach kws X.env)).all (·.1.isSome) = true := by rfl)
    (hks : (backToKw pos (keywordEach kws X.env)).filterMap (·.1) = [y] := by rfl)
    (hpl : ((backTo pos (starEach [] X.env)).any (·.1) || (backToKw pos (keywordEach kws X.env)).any (·.1.isNone)) = false := by rfl) :
    PE X (.Call (.Name x p) [] kws pos) (fun σ H Q => tk σ H fun zs H2 => sp zs H2 Q E0) := by
  obtain ⟨f, fd, F, hm, hk, hb⟩ := C.ex
  refine ⟨fun pins s σ H Q I h => ?_⟩
  refine wpAny_Call_Name_kw (ld_glob I hg hm ?_ hdb)
  refine PySem.W.callWith_KW0 (h₀ := X.base) I.ok.mod.kin hk hall ?_ hpl
  refine thn (hkw.run pos pins s σ H _ I h) fun ws s2 ⟨zs, H2, I2, rz, q2⟩ => ⟨I2.kIn, ?_⟩
  rw [hks]
  exact run_fnk (us := []) (vs := []) F hr hb pass0 I2 .nil rz q2
end
/-! the rules that speak of the written part, told its name (so they stand in a comprehension's block, too) -/
section
variable {X : Cx} (K : PySem.W.Frag) (h : X.K = K)
include h
theorem ixL : IxR X (rIxL K) := by subst h; exact ix_list
theorem ixT : IxR X (rIxT K) := by subst h; exact ix_tup
theorem inSeq : OpR X (compareOp .In) (rIn K false) := by subst h; exact op_in_seq
theorem notInSeq : OpR X (compareOp .NotIn) (rIn K true) := by subst h; exact op_notIn_seq
theorem eqD (hu : X.A.units + 64 < cLine) : OpR X (compareOp .Eq) (rEqD K) := by subst h; exact op_eqD hu
theorem neD (hu : X.A.units + 64 < cLine) : OpR X (compareOp .NotEq) (rNeD K) := by subst h; exact op_neD hu
theorem lenSeq : CallR X (.builtin "len") (fun xs H Q => ∃ p ys, xs = [.ref p] ∧ (SqL K H p ys ∨ SqT K H p ys) ∧ Q (.int ys.length) H) := by
  subst h; exact call_len_seq
theorem listOf : CallR X (.type "list") (fun xs H Q => ∃ p ys, xs = [.ref p] ∧ (SqL K H p ys ∨ SqT K H p ys) ∧
    ∀ l, H l = none → Q (.ref l) (upd H l (.lst ys))) := by subst h; exact call_list_of
theorem tupleOf : CallR X (.type "tuple") (fun xs H Q => ∃ p ys, xs = [.ref p] ∧
    ((SqL K H p ys ∧ ∀ l, H l = none → Q (.ref l) (upd H l (.tup ys))) ∨ (SqT K H p ys ∧ Q (.ref p) H))) := by subst h; exact call_tuple_of
theorem isInst : CallR X (.builtin "isinstance") (rIsi K) := by subst h; exact call_isi
theorem isInstT : CallR X (.builtin "isinstance") (rIsiT K) := by subst h; exact call_isiT
theorem sumOf (hc : X.calm = true) : CallR X (.builtin "sum") (rSum K) := by subst h; exact cr_sum hc
theorem maxOf (hc : X.calm = true) : CallR X (.builtin "max") (rMax K) := by subst h; exact cr_max hc
theorem minOf (hc : X.calm = true) : CallR X (.builtin "min") (rMin K) := by subst h; exact cr_min hc
theorem allOf (hc : X.calm = true) : CallR X (.builtin "all") (rAll K) := by subst h; exact cr_all hc
theorem anyOf (hc : X.calm = true) : CallR X (.builtin "any") (rAny K) := by subst h; exact cr_any hc
theorem slL : SlR X (rSlL K) := by subst h; exact sl_list
theorem slT : SlR X (rSlA K) := by subst h; exact sl_tupA
theorem catT : OpR X (binaryOp .Add) (rCatA K) := by subst h; exact op_catA
theorem truth {a : Expr} {ta : TE} (ha : PE X a ta)
    (he : ∀ whole, isTrue a X.env whole = (do let v ← whole; standAt a.pos; holding [v] (truthy v)) := by intro _; rfl) :
    PT X a (fun σ H Q => ta σ H fun x H' => ∃ k, TruV K x H' k ∧ Q k H') := by subst h; exact pt_truth ha he
theorem piL {tg l : Expr} {tl : TE} (hl : PE X l tl) : PI X tg l (iList K tl) := by subst h; exact pi_list hl
theorem piT {tg l : Expr} {tl : TE} (hl : PE X l tl) : PI X tg l (iTup K tl) := by subst h; exact pi_tup hl
theorem star {e : Expr} {es : List Expr} {te : TE} {t : TA} {p : Pos} (he : PE X e te) (hr : PA X es t)
    (hs : starEach (.Starred e p :: es) X.env = (true, eval e X.env) :: starEach es X.env := by rfl) :
    PA X (.Starred e p :: es) (StX.tStar K te t) := by subst h; exact StX.pa_star he hr hs
end
/-- a text so many times (a few) -/
theorem op_mul_str {X : Cx} : OpR X (binaryOp .Mult) (fun x y H Q => ∃ (z : Str) (n : Int), x = .str z ∧ y = .int n ∧ 1 ≤ n ∧ n ≤ 1000 ∧ z.length ≤ 1000 ∧ Q (.str (Txt.mul z n)) H) := by
  intro pins s σ H x y v u Q I rx ry h
  obtain ⟨z, n, rfl, rfl, h1, h2, h3, q⟩ := h
  obtain ⟨t, rfl⟩ := rx
  obtain ⟨t2, rfl⟩ := ry
  refine SB.mul ⟨by simp; omega, fun _ _ => ?_, fun _ _ => ?_⟩ fun t' k => ⟨.str _, H, I.tok k, ⟨t', rfl⟩, q⟩
  · have e : (9223372036854775 : Int) ≤ (2 ^ 63 - 1) / n := by
      rw [Int.le_ediv_iff_mul_le (by omega)]
      omega
    omega
  · have e : z.length * n.toNat ≤ 1000 * 1000 := Nat.mul_le_mul h3 (by omega)
    unfold Builtin.Str.tooLong
    rw [sizeLine_eq]
    simp
    omega
/-- a text so many times (a few, or none) -/
theorem op_mul_str0 {X : Cx} : OpR X (binaryOp .Mult) (fun x y H Q => ∃ (z : Str) (n : Int), x = .str z ∧ y = .int n ∧ 0 ≤ n ∧ n ≤ 1000 ∧ z.length ≤ 1000 ∧ Q (.str (Txt.mul z n)) H) := by
  intro pins s σ H x y v u Q I rx ry h
  obtain ⟨z, n, rfl, rfl, h1, h2, h3, q⟩ := h
  obtain ⟨t, rfl⟩ := rx
  obtain ⟨t2, rfl⟩ := ry
  refine SB.mul ⟨by simp; omega, fun hn _ => ?_, fun hn _ => ?_⟩ fun t' k => ⟨.str _, H, I.tok k, ⟨t', rfl⟩, q⟩
  · have e : (9223372036854775 : Int) ≤ (2 ^ 63 - 1) / n := by
      rw [Int.le_ediv_iff_mul_le (by omega)]
      omega
    omega
  · have e : z.length * n.toNat ≤ 1000 * 1000 := Nat.mul_le_mul h3 (by omega)
    unfold Builtin.Str.tooLong
    rw [sizeLine_eq]
    simp
    omega
theorem ifT {c : Bool} {A B : Prop} (hc : c = true) (h : A) : if c = true then A else B := by
  rw [if_pos hc]
  exact h
theorem ifF {c : Bool} {A B : Prop} (hc : c = false) (h : B) : if c = true then A else B := by
  rw [if_neg (by rw [hc]; exact Bool.false_ne_true)]
  exact h
theorem Paired.at {α β : Type} {F : α → β → Prop} : ∀ {l₁ : List α} {l₂ : List β}, Paired F l₁ l₂ → ∀ (i : Nat) (x : α), l₁[i]? = some x → ∃ y, l₂[i]? = some y ∧ F x y
  | _, _, .nil, i, x, h => by simp at h
  | _, _, .cons r t, 0, x, h => by
    have e := Option.some.inj h
    subst e
    exact ⟨_, rfl, r⟩
  | _, _, .cons r t, i + 1, x, h => Paired.at t i x h
theorem take_next {α : Type} {l : List α} {i : Nat} {x : α} (h : l[i]? = some x) : l.take i ++ [x] = l.take (i + 1) := by
  rw [List.take_succ, h]
  rfl
theorem tyL {K : PySem.W.Frag} {H : Hp} {p : Addr} {xs : List V} (h : H p = some (.lst xs)) : tyV K "list" (.ref p) H := Or.inl ⟨rfl, _, SqL.of h⟩
theorem seq_set {te : TE} {i : Nat} {u : TS} {D : Ends} {σ : St} {H : Hp} (h : te σ H fun x H1 => u D (σ.set i (some x)) H1) : tSeq (tAsg te (gName i)) u D σ H := h
theorem gn {i : Nat} {v : V} {σ : St} {H : Hp} {Q : St → Hp → Prop} (h : Q (σ.set i (some v)) H) : gName i v σ H Q := h
theorem seq_abs {t u : TS} {D : Ends} {σ : St} {H : Hp} (R : St → Hp → Prop) (hd : ∀ σ' H', R σ' H' → u D σ' H')
    (h : ∀ nx : St → Hp → Prop, (∀ σ' H', R σ' H' → nx σ' H') → t { D with nx := nx } σ H) : tSeq t u D σ H := h (u D) hd
/-! constants of a module -/
theorem pgS {X : Cx} {x z : Str} {pos : Pos} (hm : ∃ t, X.mg x = some (.str z t)) (hg : Gl X x := by rfl) (hd : (x == ("__debug__" : Str)) = false := by decide) : PE X (.Name x pos) (tC (.str z)) := by
  obtain ⟨t, hm⟩ := hm
  exact pe_glob hg hm ⟨t, rfl⟩ hd
theorem pgI {X : Cx} {x : Str} {n : Int} {pos : Pos} (hm : ∃ t, X.mg x = some (.int n t)) (hg : Gl X x := by rfl) (hd : (x == ("__debug__" : Str)) = false := by decide) : PE X (.Name x pos) (tC (.int n)) := by
  obtain ⟨t, hm⟩ := hm
  exact pe_glob hg hm ⟨t, rfl⟩ hd
theorem pgT {X : Cx} {x : Str} {a : Addr} {pos : Pos} (hm : X.mg x = some (.ref a)) (hg : Gl X x := by rfl) (hd : (x == ("__debug__" : Str)) = false := by decide) : PE X (.Name x pos) (tC (.ref a)) :=
  pe_glob hg hm rfl hd
/-- what the modules' constants are -/
structure Mn (K : PySem.W.Frag) (mg : Str → Option Value) (aT aF : Addr) : Prop where
/-- a def called by keywords alone (their names ks, in the order in which they are written) -/
structure CalN (P : Program) (w : World) (K : PySem.W.Frag) (mg : Str → Option Value) (base : Heap) (x : Str) (n : Nat) (ps ks : List Str) (gV : List V → List V → List V) (sp : Sp) : Prop where
  ex : ∃ (f : Addr) (fd : FuncData) (g : List Value → List Value → List Value), FnOk P w K mg base CX0 n f fd ps sp ∧ mg x = some (.ref f) ∧ PySem.W.keepIn K (.ref f) = true ∧ KBinds K fd ps ks g gV
theorem pckN {X : Cx} {x : Str} {n : Nat} {ps ks : List Str} {sp : Sp} {gV : List V → List V → List V} {kws : List Keyword} {tk : TA} {p pos : Pos} (C : CalN X.prog X.w X.K X.mg X.base x n ps ks gV sp) (hr : Room n X.A) (hkw : PK X kws tk) (hg : Gl X x := by rfl)
    (hdb : (x == ("__debug__" : Str)) = false := by decide)
    (hall : (backToKw pos (keywordEach kws X.env)).all (·.1.isSome) = true := by rfl)
    (hks : (backToKw pos (keywordEach kws X.env)).filterMap (·.1) = ks := by rfl)
    (hpl : ((backTo pos (starEach [] X.env)).any (·.1) || (backToKw pos (keywordEach kws X.env)).any (·.1.isNone)) = false := by rfl) :
    PE X (.Call (.Name x p) [] kws pos) (fun σ H Q => tk σ H fun zs H2 => sp (gV [] zs) H2 Q E0) := by
  obtain ⟨f, fd, g, F, hm, hk, hb⟩ := C.ex
  refine ⟨fun pins s σ H Q I h => ?_⟩
  refine wpAny_Call_Name_kw (ld_glob I hg hm ?_ hdb)
  refine PySem.W.callWith_KW0 (h₀ := X.base) I.ok.mod.kin hk hall ?_ hpl
  refine thn (hkw.run pos pins s σ H _ I h) fun ws s2 ⟨zs, H2, I2, rz, q2⟩ => ⟨I2.kIn, ?_⟩
  rw [hks]
  exact run_fnk (us := []) (vs := []) F hr hb pass0 I2 .nil rz q2
end My
namespace My
open PySem L2
/-! general: heaps, pairs, lists -/
def But (d g : Addr) (H H' : Hp) : Prop := ∀ a o, a ≠ d → a ≠ g → H a = some o → H' a = some o
theorem But.refl (d g : Addr) (H : Hp) : But d g H H := fun _ _ _ _ h => h
theorem But.trans {d g : Addr} {H H1 H2 : Hp} (a : But d g H H1) (b : But d g H1 H2) : But d g H H2 := fun x o h1 h2 h => b x o h1 h2 (a x o h1 h2 h)
theorem But.new {d g p : Addr} {H H1 : Hp} {o : HO} (a : But d g H H1) (hp : H1 p = none) : But d g H (upd H1 p o) := fun x u h1 h2 h => by
  have q := a x u h1 h2 h
  rw [upd_ne (ne_of_none q hp)]
  exact q
theorem But.atD {d g : Addr} {H H1 : Hp} {o : HO} (a : But d g H H1) : But d g H (upd H1 d o) := fun x u h1 h2 h => by
  rw [upd_ne h1]
  exact a x u h1 h2 h
theorem But.atG {d g : Addr} {H H1 : Hp} {o : HO} (a : But d g H H1) : But d g H (upd H1 g o) := fun x u h1 h2 h => by
  rw [upd_ne h2]
  exact a x u h1 h2 h
theorem But.of_same {d g : Addr} {H H1 : Hp} (a : Same H H1) : But d g H H1 := fun x u _ _ h => a x u h
theorem same_new {H : Hp} {p : Addr} (h : H p = none) (o : HO) : Same H (upd H p o) := fun b u q => by rw [upd_ne (ne_of_none q h)]; exact q
theorem shaped_ints (ns : List Int) : SeqAt.shaped (.list (ns.map PyData.int)) = true := by
  have a : PyData.canLayAll0 (ns.map PyData.int) = true := by
    induction ns with
    | nil => rfl
    | cons x r ih => rw [List.map_cons, PyData.canLayAll0, ih]; rfl
  have b : PyData.depthAll (ns.map PyData.int) = 0 := by
    induction ns with
    | nil => rfl
    | cons x r ih => rw [List.map_cons, PyData.depthAll, ih (by rw [List.map_cons, PyData.canLayAll0] at a; exact (Bool.and_eq_true_iff.mp a).2)]; rfl
  unfold SeqAt.shaped
  rw [PyData.canLay0, a, PyData.depth, b]
  rfl
theorem dp_ints {K : PySem.W.Frag} {H : Hp} (ns : List Int) : DpAll K H (ns.map V.int) (ns.map PyData.int) := by
  induction ns with
  | nil => exact .nil
  | cons x r ih => exact .cons (.int x) ih
theorem eqv_nil (ns : List Int) : PyData.eqv (.list (ns.map PyData.int)) (.list []) = ns.isEmpty := by
  cases ns with
  | nil => simp [PyData.eqv, PyData.eqvAll]
  | cons x r => simp [PyData.eqv, PyData.eqvAll]
theorem last_of {ns : List Int} (h : ns ≠ []) : ∃ l x, ns = l ++ [x] := ⟨ns.dropLast, ns.getLast h, (List.dropLast_concat_getLast h).symm⟩
theorem abs_if (n : Int) : (if n < 0 then -n else n) = (n.natAbs : Int) := by split <;> omega
theorem Same.atNew {H0 H : Hp} {g : Addr} {o : HO} (s : Same H0 H) (h : H0 g = none) : Same H0 (upd H g o) := fun b u q => by
  rw [upd_ne (ne_of_none q h)]
  exact s b u q
def Tups (H H' : Hp) : Prop := ∀ a xs, H a = some (.tup xs) → H' a = some (.tup xs)
theorem Tups.of_same {H H' : Hp} (s : Same H H') : Tups H H' := fun a xs h => s a _ h
theorem Tups.refl (H : Hp) : Tups H H := fun _ _ h => h
theorem Tups.trans {H H1 H2 : Hp} (a : Tups H H1) (b : Tups H1 H2) : Tups H H2 := fun x xs h => b x xs (a x xs h)
theorem line5 {n : Nat} (h : n ≤ 100000) : n < sizeLine := Nat.lt_of_le_of_lt h (by decide)
theorem cut_last {K : List V} {v : V} (h : K ≠ []) : ¬ (HT.sIx (K ++ [v]).length 0 (some (-1)) = 0 ∧ HT.sIx (K ++ [v]).length (K ++ [v]).length none = (K ++ [v]).length) ∧ cutV (K ++ [v]) (some (-1)) none = [v] := by
  have e : HT.sIx (K ++ [v]).length 0 (some (-1)) = K.length := by
    show (if (-1 : Int) < 0 then ((-1 : Int) + ((K ++ [v]).length : Int)).toNat else min (-1 : Int).toNat (K ++ [v]).length) = K.length
    rw [if_pos (by decide), List.length_append, List.length_singleton]
    omega
  have e2 : HT.sIx (K ++ [v]).length (K ++ [v]).length none = K.length + 1 := by
    rw [HT.sIx_none, List.length_append, List.length_singleton]
  constructor
  · rintro ⟨a, _⟩
    rw [e] at a
    exact h (List.eq_nil_of_length_eq_zero a)
  · unfold cutV
    rw [e, e2, List.drop_left, Nat.add_sub_cancel_left]
    rfl
theorem pair_app {α β : Type} {F : α → β → Prop} : ∀ {l₁ r₁ : List α} {l₂ r₂ : List β}, Paired F l₁ l₂ → Paired F r₁ r₂ → Paired F (l₁ ++ r₁) (l₂ ++ r₂)
  | _, _, _, _, .nil, h => h
  | _, _, _, _, .cons r t, h => .cons r (pair_app t h)
theorem pair_snoc {α β : Type} {F : α → β → Prop} {x : α} : ∀ {l : List α} {ns : List β}, Paired F (l ++ [x]) ns → ∃ nl k, ns = nl ++ [k] ∧ Paired F l nl ∧ F x k
  | [], _, .cons r .nil => ⟨[], _, rfl, .nil, r⟩
  | _ :: l, _, .cons r t => by
    obtain ⟨nl, k, e, p, q⟩ := pair_snoc (l := l) t
    exact ⟨_ :: nl, k, by rw [e]; rfl, .cons r p, q⟩
theorem le_sum {k : Nat} : ∀ {ns : List Nat}, k ∈ ns → k ≤ ns.sum
  | x :: r, h => by
    rw [List.sum_cons]
    rcases List.mem_cons.mp h with rfl | h
    · omega
    · have := le_sum h
      omega
theorem sum_cast (ns : List Nat) : (ns.map fun n : Nat => (n : Int)).sum = (ns.sum : Int) := by
  induction ns with
  | nil => rfl
  | cons x r ih => rw [List.map_cons, List.sum_cons, ih, List.sum_cons]; omega
theorem Tups.upd {H : Hp} {p : Addr} {xs : List V} {o : HO} (h : H p = some (.lst xs)) : Tups H (upd H p o) := fun a ys e => by
  rw [upd_ne (ne_of e h (by intro z; cases z))]
  exact e
theorem pair_take {α β : Type} {F : α → β → Prop} : ∀ {l₁ : List α} {l₂ : List β} (k : Nat), Paired F l₁ l₂ → Paired F (l₁.take k) (l₂.take k)
  | _, _, 0, _ => .nil
  | _, _, _ + 1, .nil => .nil
  | _, _, k + 1, .cons r t => .cons r (pair_take k t)
theorem take_sum_le : ∀ (ns : List Nat) (k : Nat), (ns.take k).sum ≤ ns.sum
  | [], k => by simp
  | x :: r, 0 => by simp
  | x :: r, k + 1 => by
    have := take_sum_le r k
    rw [List.take_succ_cons, List.sum_cons, List.sum_cons]
    omega
theorem cut_ints (ns : List Int) (lo hi : Option Int) : ∃ ns' : List Int, cutV (ns.map V.int) lo hi = ns'.map V.int ∧ ns'.length ≤ ns.length := by
  refine ⟨(ns.drop (HT.sIx (ns.map V.int).length 0 lo)).take (HT.sIx (ns.map V.int).length (ns.map V.int).length hi - HT.sIx (ns.map V.int).length 0 lo), ?_, ?_⟩
  · unfold cutV
    rw [List.map_take, List.map_drop]
  · rw [List.length_take, List.length_drop]
    omega
theorem But.atNew {d g p : Addr} {H0 H : Hp} {o : HO} (b : But d g H0 H) (h : H0 p = none) : But d g H0 (upd H p o) := fun a u h1 h2 e => by
  rw [upd_ne (ne_of_none e h)]
  exact b a u h1 h2 e
end My
namespace My
open PySem L2
def top (i : Nat) : Stmt := PySem.Challenge.pw_stillruns_k64_terms_written.main.body.getD i (.Pass ⟨0, 0, 0, 0⟩)
def inClass (s : Stmt) : List Stmt := match s with
  | .ClassDef (body := b) .. => b
  | _ => []
abbrev s_parts_of : Stmt := top 1
theorem sc_parts_of : FnScope ["term", "_", "part"] ["term"] (defScope s_parts_of) := ⟨rfl, rfl, rfl, by decide +kernel, rfl, by decide +kernel, by decide +kernel⟩
abbrev s_walked : Stmt := top 3
theorem sc_walked : FnScope ["term", "step", "begun", "result", "at", "parts", "given", "part"] ["term", "step"] (defScope s_walked) := ⟨rfl, rfl, rfl, by decide +kernel, rfl, by decide +kernel, by decide +kernel⟩
abbrev s_in_brackets : Stmt := top 5
theorem sc_in_brackets : FnScope ["writings", "joined"] ["writings"] (defScope s_in_brackets) := ⟨rfl, rfl, rfl, by decide +kernel, rfl, by decide +kernel, by decide +kernel⟩
abbrev s_show_arguments : Stmt := top 6
theorem sc_show_arguments : FnScope ["arguments", "given", "row", "part"] ["arguments", "given"] (defScope s_show_arguments) := ⟨rfl, rfl, rfl, by decide +kernel, rfl, by decide +kernel, by decide +kernel⟩
abbrev s_show_others : Stmt := top 7
theorem sc_show_others : FnScope ["first", "others", "joined"] ["first", "others"] (defScope s_show_others) := ⟨rfl, rfl, rfl, by decide +kernel, rfl, by decide +kernel, by decide +kernel⟩
abbrev s_show_num : Stmt := top 8
theorem sc_show_num : FnScope ["term", "given"] ["term", "given"] (defScope s_show_num) := ⟨rfl, rfl, rfl, by decide +kernel, rfl, by decide +kernel, by decide +kernel⟩
abbrev s_show_text : Stmt := top 9
theorem sc_show_text : FnScope ["term", "given"] ["term", "given"] (defScope s_show_text) := ⟨rfl, rfl, rfl, by decide +kernel, rfl, by decide +kernel, by decide +kernel⟩
abbrev s_show_call : Stmt := top 10
theorem sc_show_call : FnScope ["term", "given"] ["term", "given"] (defScope s_show_call) := ⟨rfl, rfl, rfl, by decide +kernel, rfl, by decide +kernel, by decide +kernel⟩
abbrev s_show_make : Stmt := top 11
theorem sc_show_make : FnScope ["term", "given"] ["term", "given"] (defScope s_show_make) := ⟨rfl, rfl, rfl, by decide +kernel, rfl, by decide +kernel, by decide +kernel⟩
abbrev s_show_get : Stmt := top 12
theorem sc_show_get : FnScope ["term", "given"] ["term", "given"] (defScope s_show_get) := ⟨rfl, rfl, rfl, by decide +kernel, rfl, by decide +kernel, by decide +kernel⟩
abbrev s_show_case : Stmt := top 13
theorem sc_show_case : FnScope ["term", "given"] ["term", "given"] (defScope s_show_case) := ⟨rfl, rfl, rfl, by decide +kernel, rfl, by decide +kernel, by decide +kernel⟩
abbrev s_show_as : Stmt := top 14
theorem sc_show_as : FnScope ["term", "given"] ["term", "given"] (defScope s_show_as) := ⟨rfl, rfl, rfl, by decide +kernel, rfl, by decide +kernel, by decide +kernel⟩
abbrev s_show_look : Stmt := top 15
theorem sc_show_look : FnScope ["term", "given"] ["term", "given"] (defScope s_show_look) := ⟨rfl, rfl, rfl, by decide +kernel, rfl, by decide +kernel, by decide +kernel⟩
abbrev s_show_one : Stmt := top 16
theorem sc_show_one : FnScope ["term", "given"] ["term", "given"] (defScope s_show_one) := ⟨rfl, rfl, rfl, by decide +kernel, rfl, by decide +kernel, by decide +kernel⟩
abbrev s_show_answer : Stmt := top 17
theorem sc_show_answer : FnScope ["term", "given"] ["term", "given"] (defScope s_show_answer) := ⟨rfl, rfl, rfl, by decide +kernel, rfl, by decide +kernel, by decide +kernel⟩
abbrev s_show_ask : Stmt := top 18
theorem sc_show_ask : FnScope ["term", "given"] ["term", "given"] (defScope s_show_ask) := ⟨rfl, rfl, rfl, by decide +kernel, rfl, by decide +kernel, by decide +kernel⟩
abbrev s_show_handed : Stmt := top 19
theorem sc_show_handed : FnScope ["term", "given"] ["term", "given"] (defScope s_show_handed) := ⟨rfl, rfl, rfl, by decide +kernel, rfl, by decide +kernel, by decide +kernel⟩
abbrev s_show_term : Stmt := top 21
theorem sc_show_term : FnScope ["term", "step"] ["term"] (defScope s_show_term) := ⟨rfl, rfl, rfl, by decide +kernel, rfl, by decide +kernel, by decide +kernel⟩
abbrev s__law_tray : Stmt := top 23
theorem sc__law_tray : FnScope ["script", "fold", "great", "cell", "much"] ["script"] (defScope s__law_tray) := ⟨rfl, rfl, rfl, by decide +kernel, rfl, by decide +kernel, by decide +kernel⟩
abbrev s__law_draw : Stmt := top 24
theorem sc__law_draw : FnScope ["tray", "many", "mixed", "found"] ["tray", "many"] (defScope s__law_draw) := ⟨rfl, rfl, rfl, by decide +kernel, rfl, by decide +kernel, by decide +kernel⟩
abbrev s__law_great : Stmt := top 25
theorem sc__law_great : FnScope ["tray", "found", "k"] ["tray"] (defScope s__law_great) := ⟨rfl, rfl, rfl, by decide +kernel, rfl, by decide +kernel, by decide +kernel⟩
abbrev s__law_alike : Stmt := top 26
theorem sc__law_alike : FnScope ["found", "due", "k"] ["found", "due"] (defScope s__law_alike) := ⟨rfl, rfl, rfl, by decide +kernel, rfl, by decide +kernel, by decide +kernel⟩
abbrev s__law_name : Stmt := top 27
theorem sc__law_name : FnScope ["tray", "used", "letters", "way", "letter", "name", "some", "words", "old", "at", "k", "one"] ["tray", "used"] (defScope s__law_name) := ⟨rfl, rfl, rfl, by decide +kernel, rfl, by decide +kernel, by decide +kernel⟩
abbrev s__law_names : Stmt := top 28
theorem sc__law_names : FnScope ["tray", "many", "used", "found", "k"] ["tray", "many", "used"] (defScope s__law_names) := ⟨rfl, rfl, rfl, by decide +kernel, rfl, by decide +kernel, by decide +kernel⟩
abbrev s__law_given : Stmt := top 29
theorem sc__law_given : FnScope ["tray", "deep", "names", "found", "k"] ["tray", "deep", "names"] (defScope s__law_given) := ⟨rfl, rfl, rfl, by decide +kernel, rfl, by decide +kernel, by decide +kernel⟩
abbrev s__law_plain_term : Stmt := top 30
theorem sc__law_plain_term : FnScope ["tray", "way", "letters", "k"] ["tray"] (defScope s__law_plain_term) := ⟨rfl, rfl, rfl, by decide +kernel, rfl, by decide +kernel, by decide +kernel⟩
abbrev s__law_term : Stmt := top 31
theorem sc__law_term : FnScope ["tray", "deep", "names", "way", "one", "other", "part", "k"] ["tray", "deep", "names"] (defScope s__law_term) := ⟨rfl, rfl, rfl, by decide +kernel, rfl, by decide +kernel, by decide +kernel⟩
abbrev s__law_given_shown : Stmt := top 32
theorem sc__law_given_shown : FnScope ["given", "name", "whole"] ["given"] (defScope s__law_given_shown) := ⟨rfl, rfl, rfl, by decide +kernel, rfl, by decide +kernel, by decide +kernel⟩
abbrev s__law_behind_shown : Stmt := top 33
theorem sc__law_behind_shown : FnScope ["whole", "others", "text"] ["whole", "others"] (defScope s__law_behind_shown) := ⟨rfl, rfl, rfl, by decide +kernel, rfl, by decide +kernel, by decide +kernel⟩
abbrev s__law_term_shown : Stmt := top 34
theorem sc__law_term_shown : FnScope ["whole", "word", "one"] ["whole"] (defScope s__law_term_shown) := ⟨rfl, rfl, rfl, by decide +kernel, rfl, by decide +kernel, by decide +kernel⟩
abbrev s__law_chain : Stmt := top 35
theorem sc__law_chain : FnScope ["tray", "names", "found", "k", "way", "name", "some"] ["tray", "names"] (defScope s__law_chain) := ⟨rfl, rfl, rfl, by decide +kernel, rfl, by decide +kernel, by decide +kernel⟩
abbrev s_law : Stmt := top 36
theorem sc_law : FnScope ["script", "tray", "names", "k", "own", "due"] ["script"] (defScope s_law) := ⟨rfl, rfl, rfl, by decide +kernel, rfl, by decide +kernel, by decide +kernel⟩
structure Bn (mg : Str → Option Value) : Prop where
  b_abs : mg "abs" = none
  b_all : mg "all" = none
  b_any : mg "any" = none
  b_bool : mg "bool" = none
  b_int : mg "int" = none
  b_isinstance : mg "isinstance" = none
  b_len : mg "len" = none
  b_list : mg "list" = none
  b_max : mg "max" = none
  b_range : mg "range" = none
  b_set : mg "set" = none
  b_sorted : mg "sorted" = none
  b_str : mg "str" = none
  b_tuple : mg "tuple" = none
  b_zip : mg "zip" = none
end My
namespace My
open PySem L2
/-! the tray of draws -/
structure TrayP (H : Hp) (d g : Addr) (ns : List Int) (cur fold k n : Int) : Prop where
  d : H d = some (.lst [.ref g, .int cur, .int fold, .int k])
  g : H g = some (.lst (ns.map V.int))
  pos : ∀ x ∈ ns, 0 ≤ x
  c0 : 0 ≤ cur
  f0 : 0 ≤ fold
  f1 : fold < 2305843009213693951
  k0 : 0 ≤ k
  k1 : k ≤ n
def Tray (H : Hp) (d g : Addr) (n : Int) : Prop := ∃ ns cur fold k, TrayP H d g ns cur fold k n
theorem TrayP.ne {H : Hp} {d g : Addr} {ns : List Int} {cur fold k n : Int} (D : TrayP H d g ns cur fold k n) : d ≠ g := by
  refine ne_of D.d D.g fun e => ?_
  injection e with e
  cases ns with
  | nil => cases e
  | cons x r => rw [List.map_cons] at e; cases e
theorem TrayP.same {H H' : Hp} {d g : Addr} {ns : List Int} {cur fold k n : Int} (D : TrayP H d g ns cur fold k n) (s : Same H H') : TrayP H' d g ns cur fold k n :=
  ⟨s _ _ D.d, s _ _ D.g, D.pos, D.c0, D.f0, D.f1, D.k0, D.k1⟩
theorem TrayP.new {H : Hp} {d g p : Addr} {ns : List Int} {cur fold k n : Int} {o : HO} (D : TrayP H d g ns cur fold k n) (hp : H p = none) : TrayP (upd H p o) d g ns cur fold k n := D.same (same_new hp o)
theorem Tray.same {H H' : Hp} {d g : Addr} {n : Int} (D : Tray H d g n) (s : Same H H') : Tray H' d g n := by
  obtain ⟨ns, cur, fold, k, D⟩ := D
  exact ⟨ns, cur, fold, k, D.same s⟩
theorem Tray.new {H : Hp} {d g p : Addr} {n : Int} {o : HO} (D : Tray H d g n) (hp : H p = none) : Tray (upd H p o) d g n := D.same (same_new hp o)
theorem Tray.le {H : Hp} {d g : Addr} {n m : Int} (D : Tray H d g n) (h : n ≤ m) : Tray H d g m := by
  obtain ⟨ns, cur, fold, k, D⟩ := D
  exact ⟨ns, cur, fold, k, D.d, D.g, D.pos, D.c0, D.f0, D.f1, D.k0, Int.le_trans D.k1 h⟩
theorem Tray.tups {H H' : Hp} {d g : Addr} {n : Int} (D : Tray H d g n) (b : But d g H H') : Tups H H' := by
  obtain ⟨ns, cur, fold, k, D⟩ := D
  exact fun a xs e => b a _ (ne_of e D.d (by intro z; cases z)) (ne_of e D.g (by intro z; cases z)) e
theorem Tray.ne {H : Hp} {d g p : Addr} {n : Int} (D : Tray H d g n) (h : H p = none) : p ≠ d ∧ p ≠ g := by
  obtain ⟨ns, cur, fold, k, D⟩ := D
  exact ⟨(ne_of_none D.d h).symm, (ne_of_none D.g h).symm⟩
theorem Tray.at {H : Hp} {d g p : Addr} {n : Int} {o : HO} (D : Tray H d g n) (h1 : p ≠ d) (h2 : p ≠ g) : Tray (upd H p o) d g n := by
  obtain ⟨ns, cur, fold, k, D⟩ := D
  exact ⟨ns, cur, fold, k, by rw [upd_ne h1.symm]; exact D.d, by rw [upd_ne h2.symm]; exact D.g, D.pos, D.c0, D.f0, D.f1, D.k0, D.k1⟩
/-- _law_tray -/
def spTray (K : PySem.W.Frag) : Sp := fun vs H Q _ => ∃ (a : Addr) (ns : List Int), vs = [.ref a] ∧ SqL K H a (ns.map V.int) ∧ ns.length ≤ 63 ∧
  ∀ (d g : Addr) (H' : Hp), H d = none → H g = none → Tray H' d g 0 → Same H H' → Q (.ref d) H'
def Ptray (a g : Addr) (H0 : Hp) (i : Nat) (σ : St) (H : Hp) : Prop :=
  ∃ (gs : List Int) (fold : Int) (u1 u2 : Option V), σ = [some (.ref a), some (.int fold), some (.ref g), u1, u2] ∧ H0 g = none ∧ H g = some (.lst (gs.map V.int)) ∧ gs.length ≤ i ∧
    (∀ x ∈ gs, 0 ≤ x) ∧ 0 ≤ fold ∧ fold < 2305843009213693951 ∧ Same H0 H
/-- _law_draw -/
def spDraw : Sp := fun vs H Q _ => ∃ (d g : Addr) (many n : Int), vs = [.ref d, .int many] ∧ Tray H d g n ∧ 0 < many ∧ many ≤ 1000000000000000000 ∧ n ≤ 1000000 ∧
  ∀ (r : Int) (H' : Hp), 0 ≤ r → r < many → Tray H' d g (n + 1) → But d g H H' → Q (.int r) H'
def Wdraw (d g : Addr) (many n : Int) (H0 : Hp) (m : Nat) (σ : St) (H : Hp) : Prop :=
  σ = [some (.ref d), some (.int many), none, none] ∧ ∃ ns cur fold k, TrayP H d g ns cur fold k n ∧ But d g H0 H ∧ m = ns.length
theorem seq0 {α : Type} {x : α} {r : List α} : seqIndex? 0 (x :: r).length = some 0 := (ixN_seq (n := (x :: r).length) (i := 0) (by
  unfold ixN
  rw [if_pos (by decide), if_pos (by rw [List.length_cons]; omega)]
  rfl)).1
theorem pow61 : (2 : Int) ^ (61 : Int).toNat - 1 = 2305843009213693951 := by decide
theorem pow18 : (10 : Int) ^ (18 : Int).toNat = 1000000000000000000 := by decide
section
variable {P : Program} {w : World} {K : PySem.W.Frag} {mg : Str → Option Value} {base : Heap} {f : Addr} {fd : FuncData}
theorem ok_tray (B : Bn mg) (F : Fun K "_law_tray" "_law_tray" s__law_tray f fd) : FnOk P w K mg base CX0 1 f fd ["script"] (spTray K) := by
  refine F.ok sc__law_tray (fun vs H Q E h => ?_) (fun cdv A outer s H vs Q E hr h => ?_)
  · obtain ⟨a, ns, rfl, _⟩ := h
    rfl
  obtain ⟨a, ns, rfl, hS, h63, q⟩ := h
  refine ⟨_, (pss_cons (ps_set (i := 1) sc__law_tray.nd rfl (Or.inl rfl) pe_int)
    (pss_cons (ps_set (i := 2) sc__law_tray.nd rfl (Or.inl rfl) (pe_lst pa_nil))
    (pss_cons (ps_for PassesOwn.never rfl (piL K rfl (pv 0)) (pg_name (i := 3) sc__law_tray.nd rfl (Or.inl rfl)) (pss_cons (ps_set (i := 1) sc__law_tray.nd rfl (Or.inl rfl) (pe_op op_mod (pe_op op_add (pe_op op_mul (pv 1) pe_int) (pv 3)) (pe_op op_sub (pe_op op_pow pe_int pe_int) pe_int)))
    (pss_cons (ps_set (i := 4) sc__law_tray.nd rfl (Or.inl rfl) (pe_callB (call_max2 rfl) (by rfl) B.b_max (by decide +kernel) (pa_cons (pv 3) (pa_cons (pe_op op_sub pe_int (pv 3)) pa_nil))))
    (pss_one (ps_if (pt_cmpR op_ge (pv 4) (pe_op op_pow pe_int pe_int) (nomark _)) (pss_one (ps_expr (pe_bm PySem.F.plainAttrs_list PySem.F.slot_list_append PySem.F.type_list_append mt_append (pv 2) (pa_cons (pe_op op_sub (pv 4) (pe_op op_pow pe_int pe_int)) pa_nil)))) pss_nil)))))
    (pss_one (ps_ret (pe_lst (pa_cons (pv 2) (pa_cons pe_int (pa_cons (pv 1) (pa_cons pe_int pa_nil)))))))))), ?_⟩
  refine ⟨Nat.zero_le _, fun g hg => ?_⟩
  refine ⟨_, rfl, a, rfl, ⟨_, (same_new hg _).seq hS⟩, for_list (xs := ns.map V.int) (Ptray a g H) ?_ ?_ ?_ ?_⟩
  · exact ⟨[], 314159265358979, none, none, rfl, hg, upd_same, Nat.le_refl _, fun x hx => by simp at hx, by decide, by decide, same_new hg _⟩
  · rintro i σ H1 _ ⟨gs, fold, u1, u2, rfl, h0, h1, h2, h3, h4, h5, h6⟩
    exact h6.seq hS
  · rintro i x σ H1 hx ⟨gs, fold, u1, u2, rfl, h0, h1, h2, h3, h4, h5, h6⟩
    rw [List.getElem?_map] at hx
    obtain ⟨c, hc, rfl⟩ := Option.map_eq_some_iff.mp hx
    have hi : i < ns.length := (List.getElem?_eq_some_iff.mp hc).1
    have f0 : 0 ≤ (fold * 1000003 + c) % 2305843009213693951 := Int.emod_nonneg _ (by decide)
    have f1 : (fold * 1000003 + c) % 2305843009213693951 < 2305843009213693951 := Int.emod_lt_of_pos _ (by decide)
    refine ⟨_, rfl, _, _, rfl, rfl, .inl ⟨by omega, by omega⟩, _, rfl, _, _, rfl, rfl, _, _, rfl, rfl, ⟨by decide, by decide, by decide⟩, _, _, rfl, rfl, _, _, rfl, rfl,
      (show (0 : Int) < (2 : Int) ^ (61 : Int).toNat - 1 by decide), ?_⟩
    rw [pow61]
    refine ⟨_, rfl, _, rfl, _, _, rfl, rfl, c, 0 - c, rfl, ?_⟩
    have emax : ∃ mx : Int, (if 0 - c > c then 0 - c else c) = mx := ⟨_, rfl⟩
    obtain ⟨mx, emax⟩ := emax
    rw [emax]
    refine ⟨_, rfl, _, _, rfl, rfl, ⟨by decide, by decide, by decide⟩, _, _, rfl, rfl, _, rfl, ?_⟩
    rw [pow18]
    refine ite2 (fun hc1 => ?_) (fun hc1 => ?_)
    · refine ⟨_, rfl, tyL h1, _, rfl, _, _, rfl, rfl, ⟨by decide, by decide, by decide⟩, _, _, rfl, rfl, g, _, _, rfl, rfl, h1, ?_, ?_⟩
      · rw [List.length_map]
        exact small1000 (by omega)
      · have hc2 := of_decide_eq_true hc1
        refine ⟨gs ++ [mx - (10 : Int) ^ (18 : Int).toNat], _, _, _, rfl, h0, ?_, ?_, ?_, f0, f1, Same.atNew h6 h0⟩
        · rw [upd_same, List.map_append]
          rfl
        · rw [List.length_append, List.length_singleton]
          omega
        · intro y hy
          rw [pow18] at hy
          rcases List.mem_append.mp hy with hy | hy
          · exact h3 y hy
          · have : y = mx - 1000000000000000000 := by simpa using hy
            omega
    · exact ⟨gs, _, _, _, rfl, h0, h1, by omega, h3, f0, f1, h6⟩
  · rintro σ H1 ⟨gs, fold, u1, u2, rfl, h0, h1, h2, h3, h4, h5, h6⟩
    refine ⟨_, rfl, _, rfl, by show 4 ≤ sizeLine; decide, fun d hd => ?_⟩
    exact q d g _ (h6.free hd) h0 ⟨gs, 0, fold, 0, upd_same, by rw [upd_ne (ne_of_none h1 hd)]; exact h1, h3, Int.le_refl _, h4, h5, Int.le_refl _, Int.le_refl _⟩ (h6.trans (same_new hd _))
theorem ok_draw (F : Fun K "_law_draw" "_law_draw" s__law_draw f fd) : FnOk P w K mg base CX0 1 f fd ["tray", "many"] spDraw := by
  refine F.ok sc__law_draw (fun vs H Q E h => ?_) (fun cdv A outer s H vs Q E hr h => ?_)
  · obtain ⟨d, g, many, n, rfl, _⟩ := h
    rfl
  obtain ⟨d, g, many, n, rfl, D, h0, h1, h2, q⟩ := h
  refine ⟨_, (pss_cons (ps_while PassesOwn.never (PW.pt (pw_and (pt_cmpR op_lt (pe_ix (ixL K rfl) (pv 0) pe_int (fun _ _ => rfl)) pe_int (nomark _)) (pw_and1 (pt_cmpR (neD K rfl hr.units) (pe_ix (ixL K rfl) (pv 0) pe_int (fun _ _ => rfl)) (pe_lst pa_nil) (nomark _))))) (pss_one (ps_asg (pe_bm PySem.F.plainAttrs_list PySem.F.slot_list_pop PySem.F.type_list_pop mt_popAt (pe_ix (ixL K rfl) (pv 0) pe_int (fun _ _ => rfl)) (pa_cons pe_int pa_nil)) (pg_sub (pv 0) pe_int set_list))))
    (pss_cons (ps_if (pt_cmpR op_ge (pe_ix (ixL K rfl) (pv 0) pe_int (fun _ _ => rfl)) pe_int (nomark _)) (pss_cons (ps_set (i := 3) sc__law_draw.nd rfl (Or.inl rfl) (pe_op op_mod (pe_ix (ixL K rfl) (pv 0) pe_int (fun _ _ => rfl)) (pv 1)))
    (pss_cons (ps_asg (pe_op op_fdivW (pe_ix (ixL K rfl) (pv 0) pe_int (fun _ _ => rfl)) (pv 1)) (pg_sub (pv 0) pe_int set_list))
    (pss_one (ps_ret (pv 3))))) pss_nil)
    (pss_cons (ps_asg (pe_op op_add (pe_ix (ixL K rfl) (pv 0) pe_int (fun _ _ => rfl)) pe_int) (pg_sub (pv 0) pe_int set_list))
    (pss_cons (ps_set (i := 2) sc__law_draw.nd rfl (Or.inl rfl) (pe_op op_mod (pe_op op_add (pe_op op_mul (pe_op op_add (pe_ix (ixL K rfl) (pv 0) pe_int (fun _ _ => rfl)) pe_int) (pe_op op_pow (pe_op op_add (pe_ix (ixL K rfl) (pv 0) pe_int (fun _ _ => rfl)) pe_int) pe_int)) (pe_op op_mul pe_int (pe_ix (ixL K rfl) (pv 0) pe_int (fun _ _ => rfl)))) (pe_op op_sub (pe_op op_pow pe_int pe_int) pe_int)))
    (pss_one (ps_ret (pe_op op_mod (pe_op op_fdiv (pe_op op_mod (pe_op op_pow (pv 2) pe_int) (pe_op op_add (pe_op op_pow pe_int pe_int) pe_int)) pe_int) (pv 1)))))))), ?_⟩
  obtain ⟨ns0, cur0, fold0, k0, D0⟩ := D
  refine seq_abs (fun σ' H' => ∃ m, Wdraw d g many n H m σ' H') (fun σ1 H1 w1 => ?_) (fun nx hnx => ?_)
  · obtain ⟨_, rfl, ns, cur, fold, k, D1, B1, _⟩ := w1
    refine ⟨_, rfl, _, _, _, _, rfl, rfl, SqL.of D1.d, by rfl, _, _, rfl, rfl, _, rfl, ite2 (fun c => ?_) (fun c => ?_)⟩
    · refine ⟨_, rfl, _, _, _, _, rfl, rfl, SqL.of D1.d, by rfl, _, rfl, _, _, rfl, rfl, h0, ?_⟩
      refine ⟨_, rfl, _, _, _, _, rfl, rfl, SqL.of D1.d, by rfl, _, rfl, _, _, rfl, rfl, wide_div (b := 60) h0 (by omega) (by decide) (by decide), _, rfl, _, _, _, 1, rfl, rfl, D1.d, by rfl, _, rfl, ?_⟩
      exact q _ _ (Int.emod_nonneg _ (by omega)) (Int.emod_lt_of_pos _ h0) ⟨ns, cur / many, fold, k, upd_same, by rw [upd_ne D1.ne.symm]; exact D1.g, D1.pos, Int.ediv_nonneg D1.c0 (by omega), D1.f0, D1.f1, D1.k0, by have := D1.k1; omega⟩ B1.atD
    have e0 := D1.k0
    have e1 := D1.k1
    have e2 := D1.f0
    have e3 := D1.f1
    refine ⟨_, rfl, _, _, _, _, rfl, rfl, SqL.of D1.d, by rfl, _, _, rfl, rfl, _, rfl, _, _, _, 3, rfl, rfl, D1.d, by rfl, ?_⟩
    have hd : (upd H1 d (.lst ([V.ref g, V.int cur, V.int fold, V.int k].set 3 (V.int (k + 1))))) d = some (.lst [V.ref g, V.int cur, V.int fold, V.int (k + 1)]) := upd_same
    have D2 : TrayP (upd H1 d (.lst ([V.ref g, V.int cur, V.int fold, V.int k].set 3 (V.int (k + 1))))) d g ns cur fold (k + 1) (n + 1) := ⟨hd, by rw [upd_ne D1.ne.symm]; exact D1.g, D1.pos, D1.c0, e2, e3, by omega, by omega⟩
    have B2 : But d g H (upd H1 d (.lst ([V.ref g, V.int cur, V.int fold, V.int k].set 3 (V.int (k + 1))))) := B1.atD
    refine ⟨_, rfl, _, _, _, _, rfl, rfl, SqL.of hd, by rfl, _, _, rfl, rfl, ?_⟩
    refine ⟨_, rfl, _, _, _, _, rfl, rfl, SqL.of hd, by rfl, _, _, rfl, rfl, _, _, rfl, rfl, ⟨by decide, by decide, by show (k + 1 + 2 : Int).natAbs < 2 ^ 64; omega⟩, _, _, rfl, rfl, .inl ⟨?_, ?_⟩, ?_⟩
    · show -(2 ^ 64) < fold + 5
      omega
    · show fold + 5 < 2 ^ 64
      omega
    refine ⟨_, rfl, _, _, _, _, rfl, rfl, SqL.of hd, by rfl, _, _, rfl, rfl, .inl ⟨by decide, by decide⟩, _, _, rfl, rfl, _, _, rfl, rfl, ⟨by decide, by decide, by decide⟩, _, _, rfl, rfl, _, _, rfl, rfl,
      (show (0 : Int) < (2 : Int) ^ (61 : Int).toNat - 1 by decide), ?_⟩
    rw [pow61]
    generalize hz : ((fold + 5) * (k + 1 + 2) ^ (3 : Int).toNat + 1000003 * (k + 1)) % 2305843009213693951 = z
    have z0 : 0 ≤ z := by rw [← hz]; exact Int.emod_nonneg _ (by decide)
    have z1 : z < 2305843009213693951 := by rw [← hz]; exact Int.emod_lt_of_pos _ (by decide)
    refine ⟨_, rfl, _, _, rfl, rfl, ⟨by decide, by decide, by omega⟩, _, _, rfl, rfl, ⟨by decide, by decide, by decide⟩, _, _, rfl, rfl, _, _, rfl, rfl, (show (0 : Int) < (10 : Int) ^ (18 : Int).toNat + 9 by decide), _, _, rfl, rfl, ⟨by decide, by decide⟩, _, rfl, _, _, rfl, rfl, h0, ?_⟩
    exact q _ _ (Int.emod_nonneg _ (by omega)) (Int.emod_lt_of_pos _ h0) ⟨_, _, _, _, D2⟩ B2
  refine ⟨Wdraw d g many n H, ⟨ns0.length, rfl, ns0, cur0, fold0, k0, D0, But.refl _ _ _, rfl⟩, fun m σ H1 w1 => ?_⟩
  obtain ⟨rfl, ns, cur, fold, k, D1, B1, rfl⟩ := w1
  refine ⟨_, rfl, _, _, _, _, rfl, rfl, SqL.of D1.d, by rfl, _, _, rfl, rfl, _, rfl, ite2 (fun c => ?_) (fun c => ?_)⟩
  · refine ⟨_, rfl, _, _, _, _, rfl, rfl, SqL.of D1.d, by rfl, Nat.zero_le _, fun p hp => ?_⟩
    have D2 := D1.new (o := .lst []) hp
    have B2 := B1.new (o := .lst []) hp
    refine ⟨.list (ns.map PyData.int), .list [], .lst (SqL.of D2.g) (dp_ints ns), .lst (SqL.of upd_same) .nil, shaped_ints ns, rfl, _, rfl, ?_⟩
    rw [eqv_nil]
    generalize upd H1 p (.lst []) = H2 at D2 B2
    clear D1 B1 hp
    cases ns with
    | nil => exact iteF (hnx _ _ ⟨0, rfl, [], cur, fold, k, D2, B2, rfl⟩)
    | cons x r =>
      refine iteT ?_
      refine ⟨fun σ' H' => ∃ m', m' < (x :: r).length ∧ Wdraw d g many n H m' σ' H', fun _ _ h => h, ?_⟩
      refine ⟨_, rfl, _, _, _, _, rfl, rfl, SqL.of D2.d, by rfl, tyL D2.g, g, _, 0, 0, .int x, rfl, rfl, D2.g, by decide, by decide, seq0, rfl, ?_⟩
      refine ⟨_, rfl, _, _, _, 1, rfl, rfl, (by rw [upd_ne D2.ne]; exact D2.d), by rfl, ?_⟩
      refine ⟨r.length, by simp, rfl, r, x, fold, k, ?_, B2.atG.atD, rfl⟩
      exact ⟨upd_same, by rw [upd_ne D2.ne.symm, upd_same]; rfl, fun y hy => D2.pos y (by simp [hy]), D2.pos x (by simp), D2.f0, D2.f1, D2.k0, D2.k1⟩
  · exact iteF (hnx _ _ ⟨_, rfl, ns, cur, fold, k, D1, B1, rfl⟩)
end
end My
namespace My
open PySem L2
/-! texts of small letters -/
def LtA (z : Str) : Prop := ∀ c ∈ z.cps.toList, 97 ≤ c ∧ c ≤ 122
def LtS (z : Str) : Prop := z.length ≤ 8 ∧ LtA z
/-- a name -/
def Nm (z : Str) : Prop := LtS z ∧ z ≠ "" ∧ z ≠ "num" ∧ z ≠ "text"
theorem LtA.app {x y : Str} (a : LtA x) (b : LtA y) : LtA (x ++ y) := fun c h => by
  have h : c ∈ (x.cps ++ y.cps).toList := h
  rw [Array.toList_append] at h
  rcases List.mem_append.mp h with h | h
  · exact a c h
  · exact b c h
theorem LtA.cut {z : Str} (a : LtA z) (lo hi : Option Int) : LtA (cutS z lo hi) := fun c h => by
  have h : c ∈ (z.cps.toList.drop (HT.sIx z.length 0 lo)).take (HT.sIx z.length z.length hi - HT.sIx z.length 0 lo) := by
    have e : (cutS z lo hi).cps.toList = (z.cps.toList.drop (HT.sIx z.length 0 lo)).take (HT.sIx z.length z.length hi - HT.sIx z.length 0 lo) := by
      unfold cutS
      simp
    rw [e] at h
    exact h
  exact a c (List.mem_of_mem_drop (List.mem_of_mem_take h))
theorem LtA.one {c : Nat} (h0 : 97 ≤ c) (h1 : c ≤ 122) : LtA ⟨#[c]⟩ := fun x h => by
  have : x = c := by simpa using h
  omega
theorem LtA.nil : LtA "" := fun c h => by
  have h : c ∈ ([] : List Nat) := h
  cases h
theorem len_app (x y : Str) : (x ++ y).length = x.length + y.length := by
  show (x.cps ++ y.cps).size = _
  rw [Array.size_append]
  rfl
theorem cut8 (z : Str) : (cutS z none (some 8)).length ≤ 8 := by
  have e : (cutS z none (some 8)).length = ((z.cps.toList.drop (HT.sIx z.length 0 none)).take (HT.sIx z.length z.length (some ((8 : Nat) : Int)) - HT.sIx z.length 0 none)).length := by
    unfold cutS
    show (List.toArray _).size = _
    rw [List.size_toArray]
    rfl
  rw [e, List.length_take, HT.sIx_nat, HT.sIx_none]
  omega
theorem join_lt : ∀ ys : List Str, (∀ y ∈ ys, LtA y) → LtA (Str.join "" ys)
  | [], _ => LtA.nil
  | [x], h => h x (by simp)
  | x :: y :: r, h => ((h x (by simp)).app LtA.nil).app (join_lt (y :: r) fun z hz => h z (by simp [hz]))
theorem join_len : ∀ ys : List Str, (Str.join "" ys).length = (ys.map (·.length)).sum
  | [] => rfl
  | [x] => by simp [Str.join]
  | x :: y :: r => by
    have ih := join_len (y :: r)
    show ((x ++ "") ++ Str.join "" (y :: r)).length = _
    rw [len_app, len_app, ih, List.map_cons, List.sum_cons]
    rfl
abbrev abc : Str := "abcdefghijklmnopqrstuvwxyz"
theorem abc_list : abc.cps.toList = (List.range 26).map (fun k => 97 + k) := by decide +kernel
theorem abc_at {r : Int} (h0 : 0 ≤ r) (h1 : r < 26) : atI abc.cps.toList r = some (97 + r.toNat) := by
  have e : r = ((r.toNat : Nat) : Int) := by omega
  rw [abc_list]
  have h : ((List.range 26).map (fun k => 97 + k))[r.toNat]? = some (97 + r.toNat) := by
    rw [List.getElem?_map, List.getElem?_range (by omega)]
    rfl
  rw [e]
  exact atI_nat h
theorem abc_len : abc.length ≤ sizeLine := by decide
/-- some = [..]: texts made by a turn's number -/
def Pf (H0 : Hp) (D : Addr) (f : Nat → Str) (i : Nat) (H : Hp) : Prop := Same H0 H ∧ H D = some (.lst (((List.range i).map f).map V.str))
theorem Pf.next {H0 H : Hp} {D : Addr} {f : Nat → Str} {i : Nat} (p : Pf H0 D f i H) (n : H0 D = none) : Pf H0 D f (i + 1) (upd H D (.lst ((((List.range i).map f).map V.str) ++ [.str (f i)]))) := by
  refine ⟨Same.atNew p.1 n, ?_⟩
  rw [upd_same, List.range_succ, List.map_append, List.map_append]
  rfl
def one1 (k : Nat) : Str := ⟨#[97 + k]⟩
theorem one1_inj {a b : Nat} (h : one1 a = one1 b) : a = b := by
  have e : #[97 + a] = #[97 + b] := congrArg Str.cps h
  simp at e
  exact e
/-- a list without what stands twice, all in another one, is no longer -/
theorem nodup_len {α : Type} [DecidableEq α] : ∀ {l m : List α}, l.Nodup → (∀ x ∈ l, x ∈ m) → l.length ≤ m.length
  | [], _, _, _ => Nat.zero_le _
  | x :: r, m, h, s => by
    have hx := s x (by simp)
    have hr := (List.nodup_cons.mp h)
    have ih := nodup_len (l := r) (m := m.erase x) hr.2 fun y hy => by
      have hne : y ≠ x := fun e => hr.1 (e ▸ hy)
      exact (List.mem_erase_of_ne hne).mpr (s y (by simp [hy]))
    rw [List.length_erase_of_mem hx] at ih
    have := List.length_pos_of_mem hx
    rw [List.length_cons]
    omega
abbrev taken : List Str := ["", "num", "text"]
def keepN (us : List Str) (s : Str) : Bool := !inV (.str s) (us.map V.str ++ [.str "", .str "num", .str "text"])
theorem inV_str {s : Str} {us : List Str} : inV (.str s) (us.map V.str) = decide (s ∈ us) := by
  induction us with
  | nil => rfl
  | cons x r ih =>
    have e : inV (.str s) ((x :: r).map V.str) = (eqV (.str x) (.str s) || inV (.str s) (r.map V.str)) := rfl
    rw [e, ih]
    show ((x == s) || decide (s ∈ r)) = _
    by_cases h : x = s
    · subst h; simp
    · have h2 : ¬ s = x := fun z => h z.symm
      simp [h, h2]
theorem keepN_iff {us : List Str} {s : Str} : keepN us s = true ↔ s ∉ us ++ taken := by
  unfold keepN
  have e : us.map V.str ++ [.str "", .str "num", .str "text"] = (us ++ taken).map V.str := by rw [List.map_append]; rfl
  rw [e, inV_str]
  simp
theorem some_kept {us : List Str} (h : us.length ≤ 22) (ss : List Str) (hs : ∀ k, k < 26 → one1 k ∈ ss) : ∃ z r, ss.filter (keepN us) = z :: r := by
  cases e : ss.filter (keepN us) with
  | cons z r => exact ⟨z, r, rfl⟩
  | nil =>
    exfalso
    have all : ∀ x ∈ (List.range 26).map one1, x ∈ us ++ taken := fun x hx => by
      obtain ⟨k, hk, rfl⟩ := List.mem_map.mp hx
      have hm := hs k (List.mem_range.mp hk)
      have hn := List.filter_eq_nil_iff.mp e _ hm
      rw [keepN_iff] at hn
      exact Classical.byContradiction hn
    have nd : ((List.range 26).map one1).Nodup := by
      rw [List.nodup_iff_pairwise_ne, List.pairwise_map]
      exact (List.nodup_range (n := 26)).imp fun h z => h (one1_inj z)
    have := nodup_len nd all
    rw [List.length_map, List.length_range, List.length_append] at this
    have e3 : taken.length = 3 := rfl
    omega
end My
namespace My
open PySem L2
/-! texts: helpers -/
theorem sum_ones : ∀ {ys : List Str}, (∀ y ∈ ys, LtA y ∧ y.length = 1) → (ys.map (·.length)).sum = ys.length
  | [], _ => rfl
  | x :: r, h => by
    rw [List.map_cons, List.sum_cons, sum_ones (ys := r) fun y hy => h y (by simp [hy]), (h x (by simp)).2, List.length_cons]
    omega
theorem dp_strs {K : PySem.W.Frag} {H : Hp} (us : List Str) : DpAll K H (us.map V.str) (us.map PyData.str) := by
  induction us with
  | nil => exact .nil
  | cons x r ih => exact .cons (.str x) ih
theorem eqv_nils (us : List Str) : PyData.eqv (.list (us.map PyData.str)) (.list []) = us.isEmpty := by
  cases us with
  | nil => simp [PyData.eqv, PyData.eqvAll]
  | cons x r => simp [PyData.eqv, PyData.eqvAll]
theorem strOk_lt {x : Str} (h : LtA x) : PyData.strOk x = true := by
  unfold PyData.strOk
  rw [← Array.all_toList, List.all_eq_true]
  intro c hc
  have := h c hc
  exact decide_eq_true (by omega)
theorem shaped_strs {us : List Str} (h : ∀ x ∈ us, LtA x) : SeqAt.shaped (.list (us.map PyData.str)) = true := by
  have a : PyData.canLayAll0 (us.map PyData.str) = true := by
    induction us with
    | nil => rfl
    | cons x r ih =>
      rw [List.map_cons, PyData.canLayAll0, ih fun y hy => h y (by simp [hy]), PyData.canLay0, strOk_lt (h x (by simp))]
      rfl
  have b : PyData.depthAll (us.map PyData.str) = 0 := by
    clear a
    induction us with
    | nil => rfl
    | cons x r ih =>
      rw [List.map_cons, PyData.depthAll, ih fun y hy => h y (by simp [hy])]
      rfl
  unfold SeqAt.shaped
  rw [PyData.canLay0, a, PyData.depth, b]
  rfl
theorem filt1 {α : Type} {p : α → Bool} {x : α} (h : p x = true) : [x].filter p = [x] := by simp [h]
theorem filt0 {α : Type} {p : α → Bool} {x : α} (h : p x = false) : [x].filter p = [] := by simp [h]
theorem str_at {us : List Str} {r : Int} (h0 : 0 ≤ r) (h1 : r < (us.length : Int)) : ∃ x : Str, atI (us.map V.str) r = some (.str x) ∧ x ∈ us := by
  have e : r = ((r.toNat : Nat) : Int) := by omega
  have hl : r.toNat < us.length := by omega
  refine ⟨us[r.toNat], ?_, List.getElem_mem hl⟩
  exact at_of e (by rw [List.getElem?_map, List.getElem?_eq_getElem hl]; rfl)
end My
namespace My
open PySem L2
/-- _law_name -/
def spName : Sp := fun vs H Q _ => ∃ (d g u : Addr) (n : Int) (us : List Str), vs = [.ref d, .ref u] ∧ Tray H d g n ∧ n ≤ 900000 ∧ u ≠ d ∧ u ≠ g ∧ H u = some (.lst (us.map V.str)) ∧ us.length ≤ 22 ∧ (∀ x ∈ us, LtS x) ∧
  ∀ (z : Str) (H' : Hp), Nm z → z ∉ us → Tray H' d g (n + 20) → But d g H H' → Q (.str z) H'
def Plet (d g D8 : Addr) (n : Int) (H0 : Hp) (i : Nat) (H : Hp) : Prop := But d g H0 H ∧ Tray H d g (n + (i : Int)) ∧ ∃ ys : List Str, H D8 = some (.lst (ys.map V.str)) ∧ ys.length = i ∧ (∀ y ∈ ys, LtA y ∧ y.length = 1)
def Pkeep (H0 : Hp) (D8 : Addr) (us ss : List Str) (i : Nat) (H : Hp) : Prop := Same H0 H ∧ H D8 = some (.lst (((ss.take i).filter (keepN us)).map V.str))
abbrev hints : List Str := ["under", "record", "door", "choice", "hidden", "look", "one", "new", "as", "ask", "none", "ok"]
theorem hints_ok : ∀ x ∈ hints, LtS x := by
  intro x hx
  have : (x.length ≤ 8 ∧ x.cps.toList.all fun c => decide (97 ≤ c ∧ c ≤ 122)) := by
    simp only [hints, List.mem_cons, List.mem_nil_iff, or_false] at hx
    rcases hx with rfl | rfl | rfl | rfl | rfl | rfl | rfl | rfl | rfl | rfl | rfl | rfl <;> decide +kernel
  refine ⟨this.1, fun c hc => ?_⟩
  have := List.all_eq_true.mp this.2 c hc
  exact of_decide_eq_true this
theorem mul3 (c : Nat) : Txt.mul ⟨#[c]⟩ 3 = ⟨#[c, c, c]⟩ := rfl
theorem mul5 (c : Nat) : Txt.mul ⟨#[c]⟩ 5 = ⟨#[c, c, c, c, c]⟩ := rfl
def one2 (k : Nat) : Str := ⟨#[97 + k]⟩ ++ ⟨#[97 + (25 - k)]⟩
def one3 (k : Nat) : Str := Txt.mul ⟨#[97 + k]⟩ 3
def one5 (k : Nat) : Str := Txt.mul ⟨#[97 + k]⟩ 5
theorem ones_ok {k : Nat} (h : k < 26) : LtS (one1 k) ∧ LtS (one2 k) ∧ LtS (one3 k) ∧ LtS (one5 k) := by
  refine ⟨⟨by show 1 ≤ 8; decide, LtA.one (by omega) (by omega)⟩, ⟨by show 2 ≤ 8; decide, (LtA.one (by omega) (by omega)).app (LtA.one (by omega) (by omega))⟩, ⟨by show 3 ≤ 8; decide, fun c hc => ?_⟩, ⟨by show 5 ≤ 8; decide, fun c hc => ?_⟩⟩
  · unfold one3 at hc
    rw [mul3] at hc
    simp at hc
    omega
  · unfold one5 at hc
    rw [mul5] at hc
    simp at hc
    omega
abbrev allSome (nm : Str) : List Str := (((([nm] ++ (List.range 26).map one1) ++ (List.range 26).map one2) ++ (List.range 26).map one3) ++ (List.range 26).map one5)
section
variable {P : Program} {w : World} {K : PySem.W.Frag} {mg : Str → Option Value} {base : Heap} {f : Addr} {fd : FuncData}
theorem ok_name (B : Bn mg) (F : Fun K "_law_name" "_law_name" s__law_name f fd) (c__law_draw : Cal P w K mg base "_law_draw" 1 ["tray", "many"] spDraw) : FnOk P w K mg base CX0 2 f fd ["tray", "used"] spName := by
  refine F.ok sc__law_name (fun vs H Q E h => ?_) (fun cdv A outer s H vs Q E hr h => ?_)
  · obtain ⟨d, g, u, n, us, rfl, _⟩ := h
    rfl
  obtain ⟨d, g, u, n, us, rfl, D, hn, nd, ng, hu, h22, hus, q⟩ := h
  refine ⟨_, (pss_cons (ps_set (i := 2) sc__law_name.nd rfl (Or.inr rfl) pe_str)
    (pss_cons (ps_set (i := 3) sc__law_name.nd rfl (Or.inl rfl) (pc c__law_draw (hr.mono (by first | decide | omega)) (pa_cons (pv 0) (pa_cons pe_int pa_nil))))
    (pss_cons (ps_set (i := 4) sc__law_name.nd rfl (Or.inl rfl) (pe_ix ix_str (pv 2) (pc c__law_draw (hr.mono (by first | decide | omega)) (pa_cons (pv 0) (pa_cons pe_int pa_nil))) (fun _ _ => rfl)))
    (pss_cons (ps_set (i := 5) sc__law_name.nd rfl (Or.inl rfl) (pe_join pe_str (pe_lc (own := [("k", 10)]) (g := (gName 10)) rfl sc__law_name.nd (pi_range1 rfl B.b_range (pa_cons (pe_op op_add pe_int (pc c__law_draw (hr.mono (by first | decide | omega)) (pa_cons (pv 0) (pa_cons pe_int pa_nil)))) pa_nil)) (blkOk_by (N := ["tray", "used", "letters", "way", "letter", "name", "some", "words", "old", "at", "k", "one"]) (sc := defScope s__law_name) (by decide +kernel)) (fun _ _ _ _ _ => (pg_name (i := 10) sc__law_name.nd rfl (Or.inl rfl) (hf := Or.inr rfl))) (fun _ _ _ _ _ => pts_nil) (fun _ _ _ _ _ => (pe_ix ix_str (pv 2) (pc c__law_draw (hr.mono (by first | decide | omega)) (pa_cons (pv 0) (pa_cons pe_int pa_nil))) (fun _ _ => rfl))))))
    (pss_cons (ps_if (pt_cmpR op_eq (pv 3) pe_int (nomark _)) (pss_cons (ps_set (i := 7) sc__law_name.nd rfl (Or.inl rfl) (pe_lst (pa_cons pe_str (pa_cons pe_str (pa_cons pe_str (pa_cons pe_str (pa_cons pe_str (pa_cons pe_str (pa_cons pe_str (pa_cons pe_str (pa_cons pe_str (pa_cons pe_str (pa_cons pe_str (pa_cons pe_str pa_nil))))))))))))))
    (pss_one (ps_set (i := 5) sc__law_name.nd rfl (Or.inl rfl) (pe_ix (ixL K rfl) (pv 7) (pc c__law_draw (hr.mono (by first | decide | omega)) (pa_cons (pv 0) (pa_cons pe_int pa_nil))) (fun _ _ => rfl))))) (pss_one (ps_if (PW.pt (pw_and (pt_cmpR op_gt (pv 3) pe_int (nomark _)) (pw_and1 (pt_cmpR (neD K rfl hr.units) (pv 1) (pe_lst pa_nil) (nomark _))))) (pss_cons (ps_set (i := 8) sc__law_name.nd rfl (Or.inl rfl) (pe_ix (ixL K rfl) (pv 1) (pc c__law_draw (hr.mono (by first | decide | omega)) (pa_cons (pv 0) (pa_cons (pe_callB (lenSeq K rfl) (by rfl) B.b_len PySem.boot_len (pa_cons (pv 1) pa_nil)) pa_nil))) (fun _ _ => rfl)))
    (pss_cons (ps_set (i := 9) sc__law_name.nd rfl (Or.inl rfl) (pc c__law_draw (hr.mono (by first | decide | omega)) (pa_cons (pv 0) (pa_cons (pe_op op_add (pe_callB call_len_str (by rfl) B.b_len PySem.boot_len (pa_cons (pv 8) pa_nil)) pe_int) pa_nil))))
    (pss_one (ps_set (i := 5) sc__law_name.nd rfl (Or.inl rfl) (pe_slice sl_str (pe_op op_add_str (pe_op op_add_str (pe_slice sl_str (pv 8) po_none (po_some (pv 9))) (pe_ix (ixL K rfl) (pe_lst (pa_cons (pv 4) (pa_cons (pv 4) (pa_cons pe_str pa_nil)))) (pe_op op_sub (pv 3) pe_int) (fun _ _ => rfl))) (pe_slice sl_str (pv 8) (po_some (pe_op op_add (pv 9) (pe_ix (ixL K rfl) (pe_lst (pa_cons pe_int (pa_cons pe_int (pa_cons pe_int pa_nil)))) (pe_op op_sub (pv 3) pe_int) (fun _ _ => rfl)))) po_none)) po_none (po_some pe_int)))))) pss_nil)))
    (pss_cons (ps_set (i := 6) sc__law_name.nd rfl (Or.inl rfl) (pe_op op_cat (pe_op op_cat (pe_lst (pa_cons (pv 5) pa_nil)) (pe_lc (own := [("k", 10)]) (g := (gName 10)) rfl sc__law_name.nd (pi_range1 rfl B.b_range (pa_cons pe_int pa_nil)) (blkOk_by (N := ["tray", "used", "letters", "way", "letter", "name", "some", "words", "old", "at", "k", "one"]) (sc := defScope s__law_name) (by decide +kernel)) (fun _ _ _ _ _ => (pg_name (i := 10) sc__law_name.nd rfl (Or.inl rfl) (hf := Or.inr rfl))) (fun _ _ _ _ _ => pts_nil) (fun _ _ _ _ _ => (pe_ix ix_str (pv 2) (pv 10) (fun _ _ => rfl))))) (pe_lc (own := [("k", 10)]) (g := (gName 10)) rfl sc__law_name.nd (pi_range1 rfl B.b_range (pa_cons pe_int pa_nil)) (blkOk_by (N := ["tray", "used", "letters", "way", "letter", "name", "some", "words", "old", "at", "k", "one"]) (sc := defScope s__law_name) (by decide +kernel)) (fun _ _ _ _ _ => (pg_name (i := 10) sc__law_name.nd rfl (Or.inl rfl) (hf := Or.inr rfl))) (fun _ _ _ _ _ => pts_nil) (fun _ _ _ _ _ => (pe_op op_add_str (pe_ix ix_str (pv 2) (pv 10) (fun _ _ => rfl)) (pe_ix ix_str (pv 2) (pe_op op_sub pe_int (pv 10)) (fun _ _ => rfl)))))))
    (pss_cons (ps_set (i := 6) sc__law_name.nd rfl (Or.inl rfl) (pe_op op_cat (pe_op op_cat (pv 6) (pe_lc (own := [("k", 10)]) (g := (gName 10)) rfl sc__law_name.nd (pi_range1 rfl B.b_range (pa_cons pe_int pa_nil)) (blkOk_by (N := ["tray", "used", "letters", "way", "letter", "name", "some", "words", "old", "at", "k", "one"]) (sc := defScope s__law_name) (by decide +kernel)) (fun _ _ _ _ _ => (pg_name (i := 10) sc__law_name.nd rfl (Or.inl rfl) (hf := Or.inr rfl))) (fun _ _ _ _ _ => pts_nil) (fun _ _ _ _ _ => (pe_op op_mul_str (pe_ix ix_str (pv 2) (pv 10) (fun _ _ => rfl)) pe_int)))) (pe_lc (own := [("k", 10)]) (g := (gName 10)) rfl sc__law_name.nd (pi_range1 rfl B.b_range (pa_cons pe_int pa_nil)) (blkOk_by (N := ["tray", "used", "letters", "way", "letter", "name", "some", "words", "old", "at", "k", "one"]) (sc := defScope s__law_name) (by decide +kernel)) (fun _ _ _ _ _ => (pg_name (i := 10) sc__law_name.nd rfl (Or.inl rfl) (hf := Or.inr rfl))) (fun _ _ _ _ _ => pts_nil) (fun _ _ _ _ _ => (pe_op op_mul_str (pe_ix ix_str (pv 2) (pv 10) (fun _ _ => rfl)) pe_int)))))
    (pss_one (ps_ret (pe_ix (ixL K rfl) (pe_lc (own := [("one", 11)]) (g := (gName 11)) rfl sc__law_name.nd (piL K rfl (pv 6)) (blkOk_by (N := ["tray", "used", "letters", "way", "letter", "name", "some", "words", "old", "at", "k", "one"]) (sc := defScope s__law_name) (by decide +kernel)) (fun _ _ _ _ _ => (pg_name (i := 11) sc__law_name.nd rfl (Or.inl rfl) (hf := Or.inr rfl))) (fun _ _ _ _ _ => (pts_one (pt_cmpR (notInSeq K rfl) (pv 11) (pe_op op_cat (pv 1) (pe_lst (pa_cons pe_str (pa_cons pe_str (pa_cons pe_str pa_nil))))) (by rfl)))) (fun _ _ _ _ _ => (pv 11))) pe_int (fun _ _ => rfl))))))))))), ?_⟩
  refine seq_set ?_
  dsimp only [tC]
  refine seq_set ?_
  refine ⟨_, rfl, d, g, 5, n, rfl, D, by decide, by decide, by omega, fun way H1 w0 w1 D1 B1 => ?_⟩
  dsimp only
  refine seq_set ?_
  refine ⟨_, rfl, _, rfl, d, g, 26, n + 1, rfl, D1, by decide, by decide, by omega, fun r2 H2 r0 r1 D2 B2 => ⟨_, _, _, rfl, rfl, abc_len, abc_at r0 r1, ?_⟩⟩
  have hlet : LtA (⟨#[97 + r2.toNat]⟩ : Str) := LtA.one (by omega) (by omega)
  have hlet1 : (⟨#[97 + r2.toNat]⟩ : Str).length = 1 := rfl
  generalize (⟨#[97 + r2.toNat]⟩ : Str) = letter at hlet hlet1
  dsimp only
  refine seq_set ?_
  refine ⟨⟨_, rfl⟩, _, rfl, d, g, 8, n + 1 + 1, rfl, D2, by decide, by decide, by omega, fun r3 H3 q0 q1 D3 B3 => ?_⟩
  have B03 := (B1.trans B2).trans B3
  refine ⟨_, _, rfl, rfl, _, rfl, by omega, by omega, fun D8 hD8 => ?_⟩
  have ne8 := D3.ne hD8
  refine lc_range (lo := 0) (n := (1 + r3).toNat) (Plet d g D8 (n + 3) H3) ?_ ?_ ?_
  · exact ⟨(But.refl d g H3).new hD8, (D3.le (by simp; omega)).new hD8, [], upd_same, rfl, fun y hy => by simp at hy⟩
  · rintro i H4 hi ⟨b4, D4, ys, hy, ly, ay⟩
    refine ⟨rfl, _, rfl, _, rfl, d, g, 26, n + 3 + (i : Int), rfl, D4, by decide, by decide, by omega, fun r5 H5 z0 z1 D5 B5 => ?_⟩
    refine ⟨_, _, _, rfl, rfl, abc_len, abc_at z0 z1, ys.map V.str, B5 _ _ ne8.1 ne8.2 hy, line5 (by rw [List.length_map]; omega), (b4.trans B5).atNew hD8, (D5.le (by omega)).at ne8.1 ne8.2, ys ++ [⟨#[97 + r5.toNat]⟩], ?_, ?_, ?_⟩
    · rw [upd_same, List.map_append]
      rfl
    · rw [List.length_append, ly]
      rfl
    · intro y hy2
      rcases List.mem_append.mp hy2 with hy2 | hy2
      · exact ay y hy2
      · have e : y = ⟨#[97 + r5.toNat]⟩ := by simpa using hy2
        rw [e]
        exact ⟨LtA.one (by omega) (by omega), rfl⟩
  rintro H4 ⟨b4, D4, ys, hy, ly, ay⟩
  have hsum := sum_ones ay
  have e0 : (("" : Str)).length = 0 := rfl
  refine ⟨_, D8, ys, rfl, rfl, .inl (SqL.of hy), ?_, ?_⟩
  · rw [hsum, e0]
    omega
  rw [show Txt.join "" ys = Str.join "" ys from PySem.StrLaws.glued_eq_join _ _]
  have hnm : LtS (Str.join "" ys) := ⟨by rw [join_len, hsum]; omega, join_lt ys fun y hy => (ay y hy).1⟩
  generalize Str.join "" ys = nm0 at hnm
  have B04 := B03.trans b4
  have D4' : Tray H4 d g (n + 11) := D4.le (by omega)
  clear ay hsum ly hy hD8 ne8 b4 D4 B3 B2 B1 B03 D1 D2 D3
  dsimp only
  refine seq_abs (fun σ' H' => ∃ nm u7 u8 u9, σ' = [some (.ref d), some (.ref u), some (.str abc), some (.int way), some (.str letter), some (.str nm), none, u7, u8, u9, none, none] ∧ LtS nm ∧ Tray H' d g (n + 20) ∧ But d g H H') (fun σ5 H5 w5 => ?_) (fun nx hnx => ?_)
  · obtain ⟨nm, u7, u8, u9, rfl, hnm5, D5, B5⟩ := w5
    have hu5 := B5 _ _ nd ng hu
    refine seq_set ?_
    -- [name] + [letters[k] ..] + [..]
    refine ⟨_, rfl, (by show 1 ≤ sizeLine; decide), fun l0 n0 => ?_⟩
    have s0 := same_new n0 (.lst [V.str nm])
    have e0 : (upd H5 l0 (.lst [V.str nm])) l0 = some (.lst [V.str nm]) := upd_same
    generalize upd H5 l0 (.lst [V.str nm]) = H6 at s0 e0
    refine ⟨_, rfl, by decide, by decide, fun D1 nD1 => lc_range (lo := 0) (n := 26) (Pf H6 D1 one1) ?_ ?_ ?_⟩
    · exact ⟨same_new nD1 _, upd_same⟩
    · rintro i H7 hi p
      exact ⟨rfl, _, rfl, _, rfl, _, _, _, rfl, rfl, abc_len, abc_at (r := 0 + (i : Int)) (by omega) (by omega), _, p.2, line5 (by simp; omega), by rw [show (0 + (i : Int)).toNat = i by omega]; exact p.next nD1⟩
    rintro H7 p7
    refine ⟨l0, D1, _, _, rfl, rfl, p7.1 _ _ e0, p7.2, (by simp; decide), fun l1 n1 => ?_⟩
    have s1 := (s0.trans p7.1).trans (same_new n1 (.lst ([V.str nm] ++ ((List.range 26).map one1).map V.str)))
    have e1 : (upd H7 l1 (.lst ([V.str nm] ++ ((List.range 26).map one1).map V.str))) l1 = some (.lst (([nm] ++ (List.range 26).map one1).map V.str)) := by rw [upd_same, List.map_append]; rfl
    generalize upd H7 l1 (.lst ([V.str nm] ++ ((List.range 26).map one1).map V.str)) = H8 at s1 e1
    refine ⟨_, rfl, by decide, by decide, fun D2 nD2 => lc_range (lo := 0) (n := 26) (Pf H8 D2 one2) ?_ ?_ ?_⟩
    · exact ⟨same_new nD2 _, upd_same⟩
    · rintro i H9 hi p
      refine ⟨rfl, _, rfl, _, rfl, _, _, _, rfl, rfl, abc_len, abc_at (r := 0 + (i : Int)) (by omega) (by omega), ?_⟩
      refine ⟨_, rfl, _, rfl, _, _, rfl, rfl, _, _, _, rfl, rfl, abc_len, abc_at (r := 25 - (0 + (i : Int))) (by omega) (by omega), _, _, rfl, rfl, (by show 1 + 1 ≤ sizeLine; decide), _, p.2, line5 (by simp; omega), ?_⟩
      rw [show (0 + (i : Int)).toNat = i by omega, show (25 - (0 + (i : Int))).toNat = 25 - i by omega]
      exact p.next nD2
    rintro H9 p9
    refine ⟨l1, D2, _, _, rfl, rfl, p9.1 _ _ e1, p9.2, (by simp; decide), fun l2 n2 => ?_⟩
    rw [← List.map_append]
    have s2 := (s1.trans p9.1).trans (same_new n2 (.lst ((([nm] ++ (List.range 26).map one1) ++ (List.range 26).map one2).map V.str)))
    have e2 : (upd H9 l2 (.lst ((([nm] ++ (List.range 26).map one1) ++ (List.range 26).map one2).map V.str))) l2 = some (.lst ((([nm] ++ (List.range 26).map one1) ++ (List.range 26).map one2).map V.str)) := upd_same
    generalize upd H9 l2 (.lst ((([nm] ++ (List.range 26).map one1) ++ (List.range 26).map one2).map V.str)) = Ha at s2 e2
    clear p7 p9 e0 e1 s0 s1 n0 n1 n2 nD1 nD2
    dsimp only
    refine seq_set ?_
    refine ⟨_, rfl, _, rfl, by decide, by decide, fun D3 nD3 => lc_range (lo := 0) (n := 26) (Pf Ha D3 one3) ?_ ?_ ?_⟩
    · exact ⟨same_new nD3 _, upd_same⟩
    · rintro i Hb hi p
      refine ⟨rfl, _, rfl, _, rfl, _, _, _, rfl, rfl, abc_len, abc_at (r := 0 + (i : Int)) (by omega) (by omega), _, 3, rfl, rfl, by decide, by decide, (by show 1 ≤ 1000; decide), _, p.2, line5 (by simp; omega), ?_⟩
      rw [show (0 + (i : Int)).toNat = i by omega]
      exact p.next nD3
    rintro Hb pb
    refine ⟨l2, D3, _, _, rfl, rfl, pb.1 _ _ e2, pb.2, (by simp; decide), fun l3 n3 => ?_⟩
    rw [← List.map_append]
    have s3 := (s2.trans pb.1).trans (same_new n3 (.lst (((([nm] ++ (List.range 26).map one1) ++ (List.range 26).map one2) ++ (List.range 26).map one3).map V.str)))
    have e3 : (upd Hb l3 (.lst (((([nm] ++ (List.range 26).map one1) ++ (List.range 26).map one2) ++ (List.range 26).map one3).map V.str))) l3 = some (.lst (((([nm] ++ (List.range 26).map one1) ++ (List.range 26).map one2) ++ (List.range 26).map one3).map V.str)) := upd_same
    generalize upd Hb l3 (.lst (((([nm] ++ (List.range 26).map one1) ++ (List.range 26).map one2) ++ (List.range 26).map one3).map V.str)) = Hc at s3 e3
    refine ⟨_, rfl, by decide, by decide, fun D4 nD4 => lc_range (lo := 0) (n := 26) (Pf Hc D4 one5) ?_ ?_ ?_⟩
    · exact ⟨same_new nD4 _, upd_same⟩
    · rintro i Hd hi p
      refine ⟨rfl, _, rfl, _, rfl, _, _, _, rfl, rfl, abc_len, abc_at (r := 0 + (i : Int)) (by omega) (by omega), _, 5, rfl, rfl, by decide, by decide, (by show 1 ≤ 1000; decide), _, p.2, line5 (by simp; omega), ?_⟩
      rw [show (0 + (i : Int)).toNat = i by omega]
      exact p.next nD4
    rintro Hd pd
    refine ⟨l3, D4, _, _, rfl, rfl, pd.1 _ _ e3, pd.2, (by simp; decide), fun l4 n4 => ?_⟩
    rw [← List.map_append]
    have s4 := (s3.trans pd.1).trans (same_new n4 (.lst ((((([nm] ++ (List.range 26).map one1) ++ (List.range 26).map one2) ++ (List.range 26).map one3) ++ (List.range 26).map one5).map V.str)))
    have e4 : (upd Hd l4 (.lst ((((([nm] ++ (List.range 26).map one1) ++ (List.range 26).map one2) ++ (List.range 26).map one3) ++ (List.range 26).map one5).map V.str))) l4 = some (.lst ((allSome nm).map V.str)) := upd_same
    generalize upd Hd l4 (.lst ((((([nm] ++ (List.range 26).map one1) ++ (List.range 26).map one2) ++ (List.range 26).map one3) ++ (List.range 26).map one5).map V.str)) = He at s4 e4
    clear pb pd e2 e3 s2 s3 n3 n4 nD3 nD4
    have B6 : But d g H He := B5.trans (But.of_same s4)
    have D6 := D5.same s4
    have hu6 := s4 _ _ hu5
    dsimp only
    refine ⟨_, rfl, l4, rfl, ⟨_, SqL.of e4⟩, fun D5 nD5 => lc_list (xs := (allSome nm).map V.str) (Pkeep He D5 us (allSome nm)) ?_ ?_ ?_ ?_⟩
    · exact ⟨same_new nD5 _, upd_same⟩
    · exact fun i Hf _ p => SqL.of (p.1 _ _ e4)
    · rintro i x Hf hx ⟨sf, hD⟩
      rw [List.getElem?_map] at hx
      obtain ⟨sx, hsx, rfl⟩ := Option.map_eq_some_iff.mp hx
      have hi : i < (allSome nm).length := (List.getElem?_eq_some_iff.mp hsx).1
      have hall : (us.map V.str ++ [V.str "", V.str "num", V.str "text"]).all flatV = true := by
        rw [List.all_append, List.all_map]
        simp [flatV]
      refine ⟨rfl, _, rfl, _, rfl, (by show 3 ≤ sizeLine; decide), fun l nl => ⟨u, l, _, _, rfl, rfl, (same_new nl _) _ _ (sf _ _ hu6), upd_same, ?_, fun m8 nm8 => ?_⟩⟩
      · rw [List.length_map]
        exact Nat.le_of_lt (line5 (show us.length + 3 ≤ 100000 by omega))
      have s7 := (same_new nl (.lst [V.str "", V.str "num", V.str "text"])).trans (same_new nm8 (.lst (us.map V.str ++ [V.str "", V.str "num", V.str "text"])))
      have e7 : (upd (upd Hf l (.lst [V.str "", V.str "num", V.str "text"])) m8 (.lst (us.map V.str ++ [V.str "", V.str "num", V.str "text"]))) m8 = some (.lst (us.map V.str ++ [V.str "", V.str "num", V.str "text"])) := upd_same
      generalize upd (upd Hf l (.lst [V.str "", V.str "num", V.str "text"])) m8 (.lst (us.map V.str ++ [V.str "", V.str "num", V.str "text"])) = Hg at s7 e7
      refine ⟨m8, _, rfl, .inl (SqL.of e7), rfl, hall, _, rfl, ?_⟩
      show if keepN us sx = true then _ else _
      cases hk : keepN us sx with
      | true =>
        refine iteT ?_
        refine ⟨_, rfl, _, s7 _ _ hD, ?_, Same.atNew (sf.trans s7) nD5, ?_⟩
        · rw [List.length_map]
          exact line5 (Nat.le_trans (List.length_filter_le _ _) (Nat.le_trans (List.length_take_le' _ _) (by simp [allSome])))
        · rw [upd_same, ← take_next hsx, List.filter_append, List.map_append, filt1 hk]
          rfl
      | false =>
        refine iteF ⟨sf.trans s7, ?_⟩
        rw [← take_next hsx, List.filter_append, filt0 hk]
        simpa using s7 _ _ hD
    · rintro Hf ⟨sf, hD⟩
      rw [List.length_map, List.take_length] at hD
      obtain ⟨z, r, hz⟩ := some_kept h22 (allSome nm) fun k hk => by
        simp only [allSome, List.mem_append]
        exact .inl (.inl (.inl (.inr (List.mem_map.mpr ⟨k, List.mem_range.mpr hk, rfl⟩))))
      rw [hz] at hD
      have hzm : z ∈ (allSome nm).filter (keepN us) := by rw [hz]; simp
      obtain ⟨hz1, hz2⟩ := List.mem_filter.mp hzm
      rw [keepN_iff] at hz2
      have hzl : LtS z := by
        have ok : ∀ k, k < 26 → LtS (one1 k) ∧ LtS (one2 k) ∧ LtS (one3 k) ∧ LtS (one5 k) := fun k hk => ones_ok hk
        simp only [allSome, List.mem_append, List.mem_singleton, List.mem_map, List.mem_range] at hz1
        rcases hz1 with (((rfl | ⟨k, hk, rfl⟩) | ⟨k, hk, rfl⟩) | ⟨k, hk, rfl⟩) | ⟨k, hk, rfl⟩
        · exact hnm5
        · exact (ok k hk).1
        · exact (ok k hk).2.1
        · exact (ok k hk).2.2.1
        · exact (ok k hk).2.2.2
      refine ⟨_, _, _, .str z, rfl, rfl, SqL.of hD, at_of rfl rfl, ?_⟩
      refine q z Hf ⟨hzl, fun e => hz2 (by simp [e]), fun e => hz2 (by simp [e]), fun e => hz2 (by simp [e])⟩ (fun e => hz2 (by simp [e])) (D6.same sf) (B6.trans (But.of_same sf))
  · refine ⟨_, rfl, rfl, _, rfl, ite2 (fun c => ?_) (fun c => ?_)⟩
    · refine ⟨(by show 12 ≤ sizeLine; decide), fun l nl => ?_⟩
      have D5 := D4'.new (o := .lst (hints.map V.str)) nl
      have B5 := B04.new (o := .lst (hints.map V.str)) nl
      have hl : (upd H4 l (.lst (hints.map V.str))) l = some (.lst (hints.map V.str)) := upd_same
      have ne := D4'.ne nl
      refine ⟨_, rfl, _, rfl, d, g, 12, n + 11, rfl, D5, by decide, by decide, by omega, fun r6 H6 z0 z1 D6 B6 => ?_⟩
      obtain ⟨x, hx, hxm⟩ := str_at (us := hints) z0 z1
      refine ⟨_, _, _, .str x, rfl, rfl, SqL.of (B6 _ _ ne.1 ne.2 hl), hx, ?_⟩
      exact hnx _ _ ⟨x, _, _, _, rfl, hints_ok x hxm, D6.le (by omega), B5.trans B6⟩
    refine ⟨_, rfl, _, _, rfl, rfl, _, rfl, ite2 (fun c2 => ?_) (fun c2 => ?_)⟩
    · have c2' := of_decide_eq_true c2
      refine ⟨_, rfl, Nat.zero_le _, fun p np => ?_⟩
      have D5 := D4'.new (o := .lst []) np
      have B5 := B04.new (o := .lst []) np
      refine ⟨.list (us.map PyData.str), .list [], .lst (SqL.of (B5 _ _ nd ng hu)) (dp_strs us), .lst (SqL.of upd_same) .nil, shaped_strs (fun x hx => (hus x hx).2), rfl, _, rfl, ?_⟩
      rw [eqv_nils]
      generalize upd H4 p (.lst []) = H5 at D5 B5
      cases us with
      | nil =>
        refine iteF ?_
        exact hnx _ _ ⟨nm0, _, _, _, rfl, hnm, D5.le (by omega), B5⟩
      | cons x0 rest =>
        refine iteT ?_
        have hu5 := B5 _ _ nd ng hu
        have lpos : (0 : Int) < (((x0 :: rest).map V.str).length : Int) := by rw [List.length_map, List.length_cons]; omega
        have l22 : (((x0 :: rest).map V.str).length : Int) ≤ 22 := by rw [List.length_map]; omega
        refine ⟨_, rfl, _, rfl, _, rfl, u, _, rfl, .inl (SqL.of hu5), d, g, _, n + 11, rfl, D5, lpos, by omega, by omega, fun r6 H6 z0 z1 D6 B6 => ?_⟩
        rw [List.length_map] at z1
        obtain ⟨old, hold, hom⟩ := str_at z0 z1
        refine ⟨_, _, _, .str old, rfl, rfl, SqL.of (B6 _ _ nd ng hu5), hold, ?_⟩
        have ho := hus old hom
        have ho8 : (old.length : Int) ≤ 8 := by have := ho.1; omega
        have big : ∀ {k : Nat}, k ≤ 100 → k ≤ sizeLine := fun h => Nat.le_of_lt (line5 (by omega))
        have hol : old.length ≤ sizeLine := big (by have := ho.1; omega)
        refine ⟨_, rfl, _, rfl, old, rfl, hol, _, _, rfl, rfl, d, g, _, n + 11 + 1, rfl, D6, by omega, by omega, by omega, fun r7 H7 y0 y1 D7 B7 => ?_⟩
        refine ⟨_, rfl, _, rfl, _, rfl, old, rfl, hol, _, rfl, _, rfl, (by show 3 ≤ sizeLine; decide), fun l1 nl1 => ?_⟩
        have hw : way - 1 = 0 ∨ way - 1 = 1 ∨ way - 1 = 2 := by
          have : ¬ way = 4 := fun z => c (decide_eq_true (by rw [z]))
          omega
        have pick1 : ∃ y : Str, atI [V.str letter, V.str letter, V.str ""] (way - 1) = some (.str y) ∧ LtA y ∧ y.length ≤ 1 := by
          rcases hw with h | h | h <;> rw [h]
          · exact ⟨letter, at_of (j := 0) rfl rfl, hlet, by omega⟩
          · exact ⟨letter, at_of (j := 1) rfl rfl, hlet, by omega⟩
          · exact ⟨"", at_of (j := 2) rfl rfl, LtA.nil, by decide⟩
        obtain ⟨y, hy, ly, ly1⟩ := pick1
        have pick2 : ∃ k : Int, atI [V.int 0, V.int 1, V.int 1] (way - 1) = some (.int k) := by
          rcases hw with h | h | h <;> rw [h]
          · exact ⟨0, at_of (j := 0) rfl rfl⟩
          · exact ⟨1, at_of (j := 1) rfl rfl⟩
          · exact ⟨1, at_of (j := 2) rfl rfl⟩
        obtain ⟨k, hk⟩ := pick2
        refine ⟨_, rfl, _, _, rfl, rfl, _, _, _, .str y, rfl, rfl, SqL.of upd_same, hy, _, _, rfl, rfl, ?_, ?_⟩
        · have := cutS_length old none (some r7)
          exact big (by have := ho.1; omega)
        refine ⟨_, rfl, _, rfl, (by show 3 ≤ sizeLine; decide), fun l2 nl2 => ⟨_, rfl, _, _, rfl, rfl, _, _, _, .int k, rfl, rfl, SqL.of upd_same, hk, _, _, rfl, rfl, _, rfl, old, rfl, hol, _, _, rfl, rfl, ?_, ?_⟩⟩
        · have h1 := cutS_length old none (some r7)
          have h2 := cutS_length old (some (r7 + k)) none
          rw [len_app]
          exact big (by have := ho.1; omega)
        refine ⟨_, rfl, _, rfl, ?_, ?_⟩
        · have h1 := cutS_length old none (some r7)
          have h2 := cutS_length old (some (r7 + k)) none
          rw [len_app, len_app]
          exact big (by have := ho.1; omega)
        refine hnx _ _ ⟨_, _, _, _, rfl, ⟨cut8 _, LtA.cut (((ho.2.cut _ _).app ly).app (ho.2.cut _ _)) _ _⟩, ((D7.new nl1).new nl2).le (by omega), (((B5.trans B6).trans B7).new nl1).new nl2⟩
    · refine iteF ?_
      exact hnx _ _ ⟨nm0, _, _, _, rfl, hnm, D4'.le (by omega), B04⟩
end
end My
namespace My
open PySem L2
/-! kinds -/
inductive Kd where
  | num | text
  | of (x : Str)
  | row (k : Kd)
  | calls (ps : List Kd) (r : Kd)
  | answers (n : Int) (k : Kd)
mutual
def Kd.depth : Kd → Nat
  | .num => 1
  | .text => 1
  | .of _ => 1
  | .row k => Kd.depth k + 1
  | .calls ps r => max (Kd.depths ps) (Kd.depth r) + 1
  | .answers _ k => Kd.depth k + 1
def Kd.depths : List Kd → Nat
  | [] => 0
  | k :: r => max (Kd.depth k) (Kd.depths r)
end
mutual
def Kd.size : Kd → Nat
  | .num => 1
  | .text => 1
  | .of _ => 1
  | .row k => Kd.size k + 1
  | .calls ps r => Kd.sizes ps + Kd.size r + 1
  | .answers _ k => Kd.size k + 1
def Kd.sizes : List Kd → Nat
  | [] => 0
  | k :: r => Kd.size k + Kd.sizes r
end
mutual
/-- v stands for the kind k -/
inductive KdAt (H : Hp) : V → Kd → Prop
  | num {a : Addr} (h : H a = some (.tup [.str "num"])) : KdAt H (.ref a) .num
  | text {a : Addr} (h : H a = some (.tup [.str "text"])) : KdAt H (.ref a) .text
  | of {a : Addr} {x : Str} (h : H a = some (.tup [.str "of", .str x])) : KdAt H (.ref a) (.of x)
  | row {a : Addr} {v : V} {k : Kd} (h : H a = some (.tup [.str "row", v])) (hk : KdAt H v k) : KdAt H (.ref a) (.row k)
  | calls {a b : Addr} {vs : List V} {v : V} {ps : List Kd} {r : Kd} (h : H a = some (.tup [.str "calls", .ref b, v])) (hb : H b = some (.tup vs)) (hp : KdsAt H vs ps) (hr : KdAt H v r) : KdAt H (.ref a) (.calls ps r)
  | answers {a : Addr} {n : Int} {v : V} {k : Kd} (h : H a = some (.tup [.str "answers", .int n, v])) (hk : KdAt H v k) : KdAt H (.ref a) (.answers n k)
inductive KdsAt (H : Hp) : List V → List Kd → Prop
  | nil : KdsAt H [] []
  | cons {v : V} {vs : List V} {k : Kd} {ks : List Kd} (h : KdAt H v k) (t : KdsAt H vs ks) : KdsAt H (v :: vs) (k :: ks)
end
mutual
theorem KdAt.mono {H H' : Hp} (t : Tups H H') : ∀ {k : Kd} {v : V}, KdAt H v k → KdAt H' v k
  | .num, _, .num h => .num (t _ _ h)
  | .text, _, .text h => .text (t _ _ h)
  | .of _, _, .of h => .of (t _ _ h)
  | .row _, _, .row h hk => .row (t _ _ h) (KdAt.mono t hk)
  | .calls _ _, _, .calls h hb hp hr => .calls (t _ _ h) (t _ _ hb) (KdsAt.mono t hp) (KdAt.mono t hr)
  | .answers _ _, _, .answers h hk => .answers (t _ _ h) (KdAt.mono t hk)
theorem KdsAt.mono {H H' : Hp} (t : Tups H H') : ∀ {ks : List Kd} {vs : List V}, KdsAt H vs ks → KdsAt H' vs ks
  | [], _, .nil => .nil
  | _ :: _, _, .cons h r => .cons (KdAt.mono t h) (KdsAt.mono t r)
end
theorem KdsAt.len {H : Hp} : ∀ {ks : List Kd} {vs : List V}, KdsAt H vs ks → vs.length = ks.length
  | [], _, .nil => rfl
  | _ :: _, _, .cons _ r => by rw [List.length_cons, KdsAt.len r, List.length_cons]
theorem KdsAt.app {H : Hp} : ∀ {ks ls : List Kd} {vs ws : List V}, KdsAt H vs ks → KdsAt H ws ls → KdsAt H (vs ++ ws) (ks ++ ls)
  | [], _, _, _, .nil, h => h
  | _ :: _, _, _, _, .cons a r, h => .cons a (KdsAt.app r h)
theorem KdsAt.get {H : Hp} : ∀ {ks : List Kd} {vs : List V}, KdsAt H vs ks → ∀ (i : Nat) (v : V), vs[i]? = some v → ∃ k, ks[i]? = some k ∧ KdAt H v k
  | [], _, .nil, i, v, h => by simp at h
  | _ :: _, _, .cons a r, 0, v, h => by
    have e := Option.some.inj h
    subst e
    exact ⟨_, rfl, a⟩
  | _ :: _, _, .cons a r, i + 1, v, h => KdsAt.get r i v h
theorem Kd.depths_app : ∀ (a b : List Kd), Kd.depths (a ++ b) = max (Kd.depths a) (Kd.depths b)
  | [], b => by simp [Kd.depths]
  | k :: r, b => by
    rw [List.cons_append, Kd.depths, Kd.depths, Kd.depths_app r b]
    omega
theorem Kd.sizes_app : ∀ (a b : List Kd), Kd.sizes (a ++ b) = Kd.sizes a + Kd.sizes b
  | [], b => by simp [Kd.sizes]
  | k :: r, b => by
    rw [List.cons_append, Kd.sizes, Kd.sizes, Kd.sizes_app r b]
    omega
/-- what stands within, by one step -/
def Kd.inner : Kd → List Kd
  | .row k => [k]
  | .calls ps r => ps ++ [r]
  | .answers _ k => [k]
  | _ => []
theorem Kd.depth_inner (k : Kd) : k.depth = Kd.depths k.inner + 1 := by
  cases k with
  | num => rfl
  | text => rfl
  | of x => rfl
  | row k => simp [Kd.depth, Kd.inner, Kd.depths]
  | calls ps r => simp [Kd.depth, Kd.inner, Kd.depths, Kd.depths_app]
  | answers n k => simp [Kd.depth, Kd.inner, Kd.depths]
theorem Kd.size_inner (k : Kd) : k.size = Kd.sizes k.inner + 1 := by
  cases k with
  | num => rfl
  | text => rfl
  | of x => rfl
  | row k => simp [Kd.size, Kd.inner, Kd.sizes]
  | calls ps r => simp [Kd.size, Kd.inner, Kd.sizes, Kd.sizes_app]
  | answers n k => simp [Kd.size, Kd.inner, Kd.sizes]
theorem Kd.len_sizes : ∀ (ks : List Kd), ks.length ≤ Kd.sizes ks
  | [] => Nat.le_refl _
  | k :: r => by
    have := Kd.len_sizes r
    have h : 1 ≤ k.size := by rw [Kd.size_inner]; omega
    rw [List.length_cons, Kd.sizes]
    omega
/-- no callback in it -/
def Kd.flat : Kd → Bool
  | .num => true
  | .text => true
  | .of _ => true
  | .row k => k.flat
  | _ => false
/-- a kind as the law's writings have it: no answer literals, no calls in calls, three called at most -/
def Kd.plain : Kd → Bool
  | .num => true
  | .text => true
  | .of _ => true
  | .row k => k.plain
  | .calls ps r => ps.all Kd.flat && r.flat && decide (ps.length ≤ 3)
  | .answers _ _ => false
mutual
def Kd.names : Kd → List Str
  | .num => []
  | .text => []
  | .of x => [x]
  | .row k => Kd.names k
  | .calls ps r => Kd.namesL ps ++ Kd.names r
  | .answers _ k => Kd.names k
def Kd.namesL : List Kd → List Str
  | [] => []
  | k :: r => Kd.names k ++ Kd.namesL r
end
end My
namespace My
open PySem L2
theorem Kd.plain_of_flat : ∀ {k : Kd}, k.flat = true → k.plain = true
  | .num, _ => rfl
  | .text, _ => rfl
  | .of _, _ => rfl
  | .row k, h => Kd.plain_of_flat (k := k) h
theorem Kd.namesL_app : ∀ (a b : List Kd), Kd.namesL (a ++ b) = Kd.namesL a ++ Kd.namesL b
  | [], b => rfl
  | k :: r, b => by
    rw [List.cons_append, Kd.namesL, Kd.namesL, Kd.namesL_app r b, List.append_assoc]
theorem FnOk_any {P : Program} {w : World} {K : PySem.W.Frag} {mg : Str → Option Value} {base : Heap} {n : Nat} {f : Addr} {fd : FuncData} {ps : List Str} {sp : Nat → Sp} {E : Nat}
    (h : ∀ e, e ≤ E → FnOk P w K mg base CX0 n f fd ps (sp e)) : FnOk P w K mg base CX0 n f fd ps (fun vs H Q X => ∃ e, e ≤ E ∧ sp e vs H Q X) :=
  ⟨fun vs H Q X ⟨e, l, z⟩ => (h e l).len vs H Q X z, fun A outer s H args us vs Q X a b c d ⟨e, l, z⟩ => (h e l).run A outer s H args us vs Q X a b c d z⟩
mutual
def Kd.data : Kd → PyData
  | .num => .tuple [.str "num"]
  | .text => .tuple [.str "text"]
  | .of x => .tuple [.str "of", .str x]
  | .row k => .tuple [.str "row", Kd.data k]
  | .calls ps r => .tuple [.str "calls", .tuple (Kd.datas ps), Kd.data r]
  | .answers n k => .tuple [.str "answers", .int n, Kd.data k]
def Kd.datas : List Kd → List PyData
  | [] => []
  | k :: r => Kd.data k :: Kd.datas r
end
mutual
theorem KdAt.dp {K : PySem.W.Frag} {H : Hp} : ∀ {k : Kd} {v : V}, KdAt H v k → Dp K H v k.data
  | .num, _, .num h => .tup (SqT.of h) (.cons (.str _) .nil)
  | .text, _, .text h => .tup (SqT.of h) (.cons (.str _) .nil)
  | .of _, _, .of h => .tup (SqT.of h) (.cons (.str _) (.cons (.str _) .nil))
  | .row _, _, .row h hk => .tup (SqT.of h) (.cons (.str _) (.cons (KdAt.dp hk) .nil))
  | .calls _ _, _, .calls h hb hp hr => .tup (SqT.of h) (.cons (.str _) (.cons (.tup (SqT.of hb) (KdsAt.dp hp)) (.cons (KdAt.dp hr) .nil)))
  | .answers _ _, _, .answers h hk => .tup (SqT.of h) (.cons (.str _) (.cons (.int _) (.cons (KdAt.dp hk) .nil)))
theorem KdsAt.dp {K : PySem.W.Frag} {H : Hp} : ∀ {ks : List Kd} {vs : List V}, KdsAt H vs ks → DpAll K H vs (Kd.datas ks)
  | [], _, .nil => .nil
  | _ :: _, _, .cons h r => .cons (KdAt.dp h) (KdsAt.dp r)
end
mutual
theorem Kd.data_depth : ∀ (k : Kd), PyData.depth k.data ≤ 2 * k.depth
  | .num => by simp [Kd.data, Kd.depth, PyData.depth, PyData.depthAll]
  | .text => by simp [Kd.data, Kd.depth, PyData.depth, PyData.depthAll]
  | .of x => by simp [Kd.data, Kd.depth, PyData.depth, PyData.depthAll]
  | .row k => by
    have := Kd.data_depth k
    simp [Kd.data, Kd.depth, PyData.depth, PyData.depthAll]
    omega
  | .calls ps r => by
    have a := Kd.datas_depth ps
    have b := Kd.data_depth r
    simp [Kd.data, Kd.depth, PyData.depth, PyData.depthAll]
    omega
  | .answers n k => by
    have := Kd.data_depth k
    simp [Kd.data, Kd.depth, PyData.depth, PyData.depthAll]
    omega
theorem Kd.datas_depth : ∀ (ks : List Kd), PyData.depthAll (Kd.datas ks) ≤ 2 * Kd.depths ks
  | [] => by simp [Kd.datas, PyData.depthAll, Kd.depths]
  | k :: r => by
    have a := Kd.data_depth k
    have b := Kd.datas_depth r
    simp [Kd.datas, PyData.depthAll, Kd.depths]
    omega
end
mutual
theorem Kd.data_lay : ∀ (k : Kd), (∀ x ∈ k.names, LtA x) → PyData.canLay0 k.data = true
  | .num, _ => by decide +kernel
  | .text, _ => by decide +kernel
  | .of x, h => by
    have := strOk_lt (h x (by simp [Kd.names]))
    simp [Kd.data, PyData.canLay0, PyData.canLayAll0, this]
    decide +kernel
  | .row k, h => by
    have := Kd.data_lay k h
    simp [Kd.data, PyData.canLay0, PyData.canLayAll0, this]
    decide +kernel
  | .calls ps r, h => by
    have a := Kd.datas_lay ps fun x hx => h x (List.mem_append_left _ hx)
    have b := Kd.data_lay r fun x hx => h x (List.mem_append_right _ hx)
    simp [Kd.data, PyData.canLay0, PyData.canLayAll0, a, b]
    decide +kernel
  | .answers n k, h => by
    have := Kd.data_lay k h
    simp [Kd.data, PyData.canLay0, PyData.canLayAll0, this]
    decide +kernel
theorem Kd.datas_lay : ∀ (ks : List Kd), (∀ x ∈ Kd.namesL ks, LtA x) → PyData.canLayAll0 (Kd.datas ks) = true
  | [], _ => rfl
  | k :: r, h => by
    have a := Kd.data_lay k fun x hx => h x (List.mem_append_left _ hx)
    have b := Kd.datas_lay r fun x hx => h x (List.mem_append_right _ hx)
    simp [Kd.datas, PyData.canLayAll0, a, b]
end
/-- kinds_directly_in -/
def spInner : Sp := fun vs H Q _ => ∃ (v : V) (k : Kd), vs = [v] ∧ KdAt H v k ∧ k.size ≤ 100000 ∧
  ∀ (r : Addr) (ws : List V) (H' : Hp), H r = none → H' r = some (.lst ws) → KdsAt H' ws k.inner → Same H H' → Q (.ref r) H'
/-- depth -/
def spDepth : Sp := fun vs H Q _ => ∃ (v : V) (k : Kd), vs = [v] ∧ KdAt H v k ∧ k.size ≤ 100000 ∧ ∀ H', Same H H' → Q (.int (k.depth : Int)) H'
def Kd.inners : List Kd → List Kd
  | [] => []
  | k :: r => k.inner ++ Kd.inners r
theorem Kd.inners_app : ∀ (a b : List Kd), Kd.inners (a ++ b) = Kd.inners a ++ Kd.inners b
  | [], b => rfl
  | k :: r, b => by
    rw [List.cons_append, Kd.inners, Kd.inners, Kd.inners_app r b, List.append_assoc]
theorem Kd.depths_inners : ∀ (ks : List Kd), ks ≠ [] → Kd.depths ks = Kd.depths (Kd.inners ks) + 1
  | [k], _ => by
    rw [Kd.depths, Kd.depths, Kd.inners, Kd.inners, List.append_nil, Kd.depth_inner]
    omega
  | k :: k2 :: r, _ => by
    have ih := Kd.depths_inners (k2 :: r) (by simp)
    rw [Kd.depths, Kd.inners, Kd.depths_app, ih, Kd.depth_inner]
    omega
theorem Kd.sizes_inners : ∀ (ks : List Kd), Kd.sizes (Kd.inners ks) + ks.length = Kd.sizes ks
  | [] => rfl
  | k :: r => by
    have ih := Kd.sizes_inners r
    rw [Kd.inners, Kd.sizes_app, List.length_cons, Kd.sizes, Kd.size_inner k]
    omega
theorem Kd.sizes_mem {k : Kd} : ∀ {ks : List Kd}, k ∈ ks → k.size ≤ Kd.sizes ks
  | x :: r, h => by
    rw [Kd.sizes]
    rcases List.mem_cons.mp h with rfl | h
    · omega
    · have := Kd.sizes_mem h
      omega
theorem Kd.sizes_take : ∀ (ks : List Kd) (i : Nat), Kd.sizes (ks.take i) ≤ Kd.sizes ks
  | [], i => by simp
  | x :: r, 0 => by simp [Kd.sizes]
  | x :: r, i + 1 => by
    have := Kd.sizes_take r i
    rw [List.take_succ_cons, Kd.sizes, Kd.sizes]
    omega
def Wdep (v : V) (k : Kd) (H0 : Hp) (m : Nat) (σ : St) (H : Hp) : Prop :=
  ∃ (l : Addr) (ws : List V) (ks : List Kd) (lv : Nat) (u3 u4 : Option V), σ = [some v, some (.int (lv : Int)), some (.ref l), u3, u4] ∧ Same H0 H ∧ H l = some (.lst ws) ∧ KdsAt H ws ks ∧ lv + Kd.depths ks = k.depth ∧ Kd.sizes ks ≤ 100000 ∧ m = Kd.depths ks
def Pdep (H0 : Hp) (D : Addr) (ks : List Kd) (i : Nat) (H : Hp) : Prop := Same H0 H ∧ ∃ acc, H D = some (.lst acc) ∧ KdsAt H acc (Kd.inners (ks.take i))
def Pdep2 (H1 H3 : Hp) (r D : Addr) (ys acc : List V) (j : Nat) (H : Hp) : Prop := Same H1 H ∧ Tups H3 H ∧ H r = some (.lst ys) ∧ H D = some (.lst (acc ++ ys.take j))
section
variable {P : Program} {w : World} {K : PySem.W.Frag} {mg : Str → Option Value} {base : Heap} {f : Addr} {fd : FuncData}
end
end My
namespace My
open PySem L2
/-- _law_names -/
def spNames : Sp := fun vs H Q _ => ∃ (d g u : Addr) (n : Int) (m : Nat) (us : List Str), vs = [.ref d, .int (m : Int), .ref u] ∧ Tray H d g n ∧ n ≤ 800000 ∧ u ≠ d ∧ u ≠ g ∧ H u = some (.lst (us.map V.str)) ∧ us.length + m ≤ 22 ∧ (∀ x ∈ us, LtS x) ∧
  ∀ (r : Addr) (zs : List Str) (H' : Hp), H r = none → H' r = some (.lst (zs.map V.str)) → zs.length = m → (∀ z ∈ zs, Nm z ∧ z ∉ us) → zs.Nodup → Tray H' d g (n + 20 * (m : Int)) → But d g H H' → Q (.ref r) H'
def Pnam (d g u r : Addr) (n : Int) (m : Nat) (us : List Str) (H0 : Hp) (i : Nat) (σ : St) (H : Hp) : Prop :=
  ∃ (zs : List Str) (uk : Option V), σ = [some (.ref d), some (.int (m : Int)), some (.ref u), some (.ref r), uk] ∧ But d g H0 H ∧ H r = some (.lst (zs.map V.str)) ∧ zs.length = i ∧ (∀ z ∈ zs, Nm z ∧ z ∉ us) ∧ zs.Nodup ∧ Tray H d g (n + 20 * (i : Int))
/-- _law_flat_kind -/
def spFlat (e : Nat) : Sp := fun vs H Q _ => ∃ (d g nl : Addr) (n deep : Int) (nms : List Str), vs = [.ref d, .ref nl, .int deep] ∧ deep = (e : Int) ∧ 1 ≤ e ∧ Tray H d g n ∧ n + 2 * (e : Int) ≤ 900000 ∧ nl ≠ d ∧ nl ≠ g ∧ H nl = some (.lst (nms.map V.str)) ∧
  nms.length ≤ 1000 ∧ (∀ x ∈ nms, LtS x) ∧ ∀ (v : V) (k : Kd) (H' : Hp), KdAt H' v k → k.flat = true → k.depth ≤ e → k.size ≤ e → (∀ x ∈ k.names, x ∈ nms) → Tray H' d g (n + 2 * (e : Int)) → But d g H H' → Q v H'
/-- _law_kind -/
def spKind (e : Nat) : Sp := fun vs H Q _ => ∃ (d g nl : Addr) (n deep : Int) (nms : List Str), vs = [.ref d, .ref nl, .int deep] ∧ deep = (e : Int) ∧ 1 ≤ e ∧ Tray H d g n ∧ n + 10 * (e : Int) + 10 ≤ 900000 ∧ nl ≠ d ∧ nl ≠ g ∧ H nl = some (.lst (nms.map V.str)) ∧
  nms.length ≤ 1000 ∧ (∀ x ∈ nms, LtS x) ∧ ∀ (v : V) (k : Kd) (H' : Hp), KdAt H' v k → k.plain = true → k.depth ≤ e → k.size ≤ 5 * e → (∀ x ∈ k.names, x ∈ nms) → Tray H' d g (n + 10 * (e : Int) + 10) → But d g H H' → Q v H'
def Pcalled (d g D8 : Addr) (n : Int) (e : Nat) (nms : List Str) (H0 : Hp) (i : Nat) (H : Hp) : Prop :=
  But d g H0 H ∧ Tray H d g (n + 2 * (e : Int) * (i : Int)) ∧ ∃ vs ks, H D8 = some (.lst vs) ∧ KdsAt H vs ks ∧ ks.length = i ∧ ks.all Kd.flat = true ∧ Kd.depths ks ≤ e ∧ Kd.sizes ks ≤ e * i ∧ (∀ x ∈ Kd.namesL ks, x ∈ nms)
section
variable {P : Program} {w : World} {K : PySem.W.Frag} {mg : Str → Option Value} {base : Heap} {f : Addr} {fd : FuncData}
theorem ok_names (B : Bn mg) (F : Fun K "_law_names" "_law_names" s__law_names f fd) (c__law_name : Cal P w K mg base "_law_name" 2 ["tray", "used"] spName) : FnOk P w K mg base CX0 3 f fd ["tray", "many", "used"] spNames := by
  refine F.ok sc__law_names (fun vs H Q E h => ?_) (fun cdv A outer s H vs Q E hr h => ?_)
  · obtain ⟨d, g, u, n, m, us, rfl, _⟩ := h
    rfl
  obtain ⟨d, g, u, n, m, us, rfl, D, hn, nd, ng, hu, h22, hus, q⟩ := h
  refine ⟨_, (pss_cons (ps_set (i := 3) sc__law_names.nd rfl (Or.inl rfl) (pe_lst pa_nil))
    (pss_cons (ps_for PassesOwn.never rfl (pi_range1 rfl B.b_range (pa_cons (pv 1) pa_nil)) (pg_name (i := 4) sc__law_names.nd rfl (Or.inl rfl)) (pss_one (ps_expr (pe_bm PySem.F.plainAttrs_list PySem.F.slot_list_append PySem.F.type_list_append mt_append (pv 3) (pa_cons (pc c__law_name (hr.mono (by first | decide | omega)) (pa_cons (pv 0) (pa_cons (pe_op op_cat (pv 2) (pv 3)) pa_nil))) pa_nil)))))
    (pss_one (ps_ret (pv 3))))), ?_⟩
  refine ⟨Nat.zero_le _, fun r nr => ⟨_, rfl, _, rfl, by omega, by omega, for_range (lo := 0) (n := (m : Int).toNat) (Pnam d g u r n m us H) ?_ ?_ ?_⟩⟩
  · exact ⟨[], none, rfl, (But.refl d g H).new nr, upd_same, rfl, fun z hz => by simp at hz, List.nodup_nil, (D.new nr).le (by simp)⟩
  · rintro i σ H1 hi ⟨zs, uk, rfl, b1, hr1, lz, az, ndz, D1⟩
    have hi2 : i < m := by omega
    have ner : r ≠ d ∧ r ≠ g := D.ne nr
    have hu1 := b1 _ _ nd ng hu
    refine ⟨_, rfl, tyL hr1, _, rfl, _, rfl, _, rfl, u, r, _, _, rfl, rfl, hu1, hr1, ?_, fun c nc => ?_⟩
    · rw [List.length_map, List.length_map]
      exact Nat.le_of_lt (line5 (by omega))
    have nec := D1.ne nc
    have D2 := D1.new (o := .lst (us.map V.str ++ zs.map V.str)) nc
    have e2 : (upd H1 c (.lst (us.map V.str ++ zs.map V.str))) c = some (.lst ((us ++ zs).map V.str)) := by rw [upd_same, List.map_append]
    have b2 := b1.new (o := .lst (us.map V.str ++ zs.map V.str)) nc
    have hr2 : (upd H1 c (.lst (us.map V.str ++ zs.map V.str))) r = some (.lst (zs.map V.str)) := same_new nc _ _ _ hr1
    generalize upd H1 c (.lst (us.map V.str ++ zs.map V.str)) = H2 at D2 e2 b2 hr2
    refine ⟨d, g, c, n + 20 * (i : Int), us ++ zs, rfl, D2, by omega, nec.1, nec.2, e2, by rw [List.length_append]; omega, fun x hx => ?_, fun z H3 hz1 hz2 D3 B3 => ?_⟩
    · rcases List.mem_append.mp hx with hx | hx
      · exact hus x hx
      · exact (az x hx).1.1
    have hr3 := B3 _ _ ner.1 ner.2 hr2
    refine ⟨r, _, _, rfl, rfl, hr3, line5 (by rw [List.length_map]; omega), zs ++ [z], _, rfl, ?_, ?_, ?_, ?_, ?_, ?_⟩
    · exact (b2.trans B3).atNew nr
    · rw [upd_same, List.map_append]
      rfl
    · rw [List.length_append, lz]
      rfl
    · intro y hy
      rcases List.mem_append.mp hy with hy | hy
      · exact az y hy
      · have e : y = z := by simpa using hy
        rw [e]
        exact ⟨hz1, fun h => hz2 (List.mem_append_left _ h)⟩
    · rw [List.nodup_append]
      refine ⟨ndz, by simp, fun a ha b hb e => ?_⟩
      have eb : b = z := by simpa using hb
      exact hz2 (List.mem_append_right _ (by rw [← eb, ← e]; exact ha))
    · exact (D3.le (by omega)).at ner.1 ner.2
  · rintro σ H1 ⟨zs, uk, rfl, b1, hr1, lz, az, ndz, D1⟩
    refine ⟨_, rfl, ?_⟩
    exact q r zs H1 nr hr1 (by omega) az ndz (D1.le (by omega)) b1
end
end My
namespace My
open PySem L2
def spFlatTo (E : Nat) : Sp := fun vs H Q X => ∃ e, e ≤ E ∧ spFlat e vs H Q X
section
variable {P : Program} {w : World} {K : PySem.W.Frag} {mg : Str → Option Value} {base : Heap} {f : Addr} {fd : FuncData}
end
end My
namespace My
open PySem L2
/-! signs of texts, writings of kinds -/
abbrev cl (x : Str) : List Nat := x.cps.toList
def ofL (l : List Nat) : Str := ⟨l.toArray⟩
theorem cl_ofL (l : List Nat) : cl (ofL l) = l := by simp [ofL]
theorem cl_app (x y : Str) : cl (x ++ y) = cl x ++ cl y := by
  show (x.cps ++ y.cps).toList = _
  rw [Array.toList_append]
theorem cl_len (x : Str) : (cl x).length = x.length := Array.length_toList
theorem str_ext {x y : Str} (h : cl x = cl y) : x = y := by
  cases x with
  | mk a =>
    cases y with
    | mk b =>
      have e : a = b := Array.toList_inj.mp h
      rw [e]
theorem ofL_cl (x : Str) : ofL (cl x) = x := str_ext (cl_ofL _)
theorem cl_nil : cl Str.empty = [] := rfl
/-- texts with a text between them -/
def glue (sep : List Nat) : List (List Nat) → List Nat
  | [] => []
  | x :: r => x ++ (r.flatMap fun y => sep ++ y)
theorem cl_join (sep : Str) : ∀ ys : List Str, cl (Str.join sep ys) = glue (cl sep) (ys.map cl)
  | [] => rfl
  | [x] => by simp [Str.join, glue]
  | x :: y :: r => by
    have ih := cl_join sep (y :: r)
    show cl ((x ++ sep) ++ Str.join sep (y :: r)) = _
    rw [cl_app, cl_app, ih]
    simp [glue]
theorem txt_join (sep : Str) (ys : List Str) : cl (Txt.join sep ys) = glue (cl sep) (ys.map cl) := by
  rw [show Txt.join sep ys = Str.join sep ys from PySem.StrLaws.glued_eq_join _ _, cl_join]
theorem txt_join_len (sep : Str) (ys : List Str) : (Txt.join sep ys).length ≤ (ys.map (·.length)).sum + ys.length * sep.length := by
  rw [show Txt.join sep ys = Str.join sep ys from PySem.StrLaws.glued_eq_join _ _]
  exact PySem.StrLaws.join_length_le sep ys
mutual
/-- the writing of a kind -/
def Kd.sh : Kd → List Nat
  | .num => [110, 117, 109]
  | .text => [116, 101, 120, 116]
  | .of x => cl x
  | .row k => 91 :: (Kd.sh k ++ [93])
  | .calls ps r => 40 :: (Kd.shs ps ++ (45 :: 62 :: 32 :: (Kd.sh r ++ [41])))
  | .answers _ k => Kd.sh k
/-- what is called with, a blank behind -/
def Kd.shs : List Kd → List Nat
  | [] => []
  | k :: r => Kd.sh k ++ (Kd.sht r ++ [32])
/-- the further ones -/
def Kd.sht : List Kd → List Nat
  | [] => []
  | k :: r => 44 :: 32 :: (Kd.sh k ++ Kd.sht r)
end
theorem Kd.sht_glue : ∀ (r : List Kd), Kd.sht r = (r.map Kd.sh).flatMap fun y => [44, 32] ++ y
  | [] => rfl
  | k :: r => by simp [Kd.sht, Kd.sht_glue r]
theorem Kd.shs_glue (ks : List Kd) : Kd.shs ks = if ks = [] then [] else glue [44, 32] (ks.map Kd.sh) ++ [32] := by
  cases ks with
  | nil => rfl
  | cons k r => simp [Kd.shs, glue, Kd.sht_glue]
mutual
theorem Kd.sh_len : ∀ (k : Kd), (∀ x ∈ k.names, LtS x) → (Kd.sh k).length + 2 ≤ 14 * k.size
  | .num, _ => by simp [Kd.sh, Kd.size]
  | .text, _ => by simp [Kd.sh, Kd.size]
  | .of x, h => by
    have := (h x (by simp [Kd.names])).1
    simp only [Kd.sh, Kd.size]
    rw [cl_len]
    omega
  | .row k, h => by
    have := Kd.sh_len k h
    simp only [Kd.sh, Kd.size, List.length_cons, List.length_append, List.length_nil]
    omega
  | .calls ps r, h => by
    have h1 := Kd.shs_len ps fun x hx => h x (by simp [Kd.names, hx])
    have h2 := Kd.sh_len r fun x hx => h x (by simp [Kd.names, hx])
    simp only [Kd.sh, Kd.size, List.length_cons, List.length_append, List.length_nil]
    omega
  | .answers _ k, h => by
    have := Kd.sh_len k h
    simp only [Kd.sh, Kd.size]
    omega
theorem Kd.shs_len : ∀ (ks : List Kd), (∀ x ∈ Kd.namesL ks, LtS x) → (Kd.shs ks).length ≤ 14 * Kd.sizes ks + 1
  | [], _ => by simp [Kd.shs]
  | k :: r, h => by
    have h1 := Kd.sh_len k fun x hx => h x (by simp [Kd.namesL, hx])
    have h2 := Kd.sht_len r fun x hx => h x (by simp [Kd.namesL, hx])
    simp only [Kd.shs, Kd.sizes, List.length_append, List.length_cons, List.length_nil]
    omega
theorem Kd.sht_len : ∀ (ks : List Kd), (∀ x ∈ Kd.namesL ks, LtS x) → (Kd.sht ks).length ≤ 14 * Kd.sizes ks
  | [], _ => by simp [Kd.sht]
  | k :: r, h => by
    have h1 := Kd.sh_len k fun x hx => h x (by simp [Kd.namesL, hx])
    have h2 := Kd.sht_len r fun x hx => h x (by simp [Kd.namesL, hx])
    simp only [Kd.sht, Kd.sizes, List.length_append, List.length_cons]
    omega
end
/-- a small letter -/
def isLt (c : Nat) : Bool := decide (97 ≤ c ∧ c ≤ 122)
theorem in_abc (c : Nat) : decide (c ∈ abc.cps.toList) = isLt c := by
  rw [abc_list]
  unfold isLt
  refine decide_eq_decide.mpr ⟨fun h => ?_, fun h => ?_⟩
  · obtain ⟨k, hk, rfl⟩ := List.mem_map.mp h
    have := List.mem_range.mp hk
    omega
  · exact List.mem_map.mpr ⟨c - 97, List.mem_range.mpr (by omega), by omega⟩
/-- what stands behind a word: no letter -/
def Brk (l : List Nat) : Prop := ∀ c r, l = c :: r → isLt c = false
theorem Brk.nil : Brk [] := fun c r h => by cases h
theorem Brk.cons {c : Nat} {r : List Nat} (h : isLt c = false) : Brk (c :: r) := fun a b e => by
  injection e with e1 e2
  rw [← e1]
  exact h
theorem take_word : ∀ {w l : List Nat}, (∀ c ∈ w, isLt c = true) → Brk l → (w ++ l).takeWhile isLt = w ∧ (w ++ l).dropWhile isLt = l
  | [], l, _, b => by
    cases l with
    | nil => simp
    | cons c r => simp [b c r rfl]
  | c :: w, l, h, b => by
    obtain ⟨h1, h2⟩ := take_word (w := w) (fun x hx => h x (by simp [hx])) b
    have hc := h c (by simp)
    constructor
    · rw [List.cons_append, List.takeWhile_cons_of_pos hc, h1]
    · rw [List.cons_append, List.dropWhile_cons_of_pos hc, h2]
theorem lt_word {x : Str} (h : LtA x) : ∀ c ∈ cl x, isLt c = true := fun c hc => decide_eq_true (h c hc)
/-- startswith from a place -/
theorem starts_at {x y : Str} {i : Nat} (h : i ≤ x.length) : Txt.startswith3 x y (i : Int) = decide (cl y <+: (cl x).drop i) := by
  have e : fromIndex x.length (i : Int) = i := by
    unfold fromIndex
    rw [if_neg (by omega)]
    omega
  unfold Txt.startswith3
  rw [e]
  rw [Bool.eq_iff_iff, Bool.and_eq_true_iff, decide_eq_true_iff, decide_eq_true_iff]
  unfold Builtin.Str.subAt
  have hx : x.length = (cl x).length := (cl_len x).symm
  have hy : y.length = (cl y).length := (cl_len y).symm
  rw [beq_iff_eq, ← Array.toList_inj, Array.toList_extract, List.extract_eq_take_drop, hx, hy]
  rw [Nat.add_sub_cancel_left]
  constructor
  · rintro ⟨h1, h2⟩
    exact ⟨((cl x).drop i).drop (cl y).length, (congrArg (· ++ ((cl x).drop i).drop (cl y).length) h2.symm).trans (List.take_append_drop (cl y).length ((cl x).drop i))⟩
  · rintro ⟨t, ht⟩
    have hl := congrArg List.length ht
    rw [List.length_append, List.length_drop] at hl
    refine ⟨by omega, ?_⟩
    rw [← ht, List.take_left]
end My
namespace My
open PySem L2
/-! terms -/
/-- what a term is by itself, its parts left out -/
inductive Hd where
  | num (i : Int) | text (z : Str) | hole (x : Str)
  | call (x : Str) (ns : List Str) | make (x : Str) (ns : List Str) | get (x : Str)
  | bare (x c : Str) | case (x c : Str) | as_ (x : Str) | look (xs : List Str) | one | answer (n : Int) | ask
  | handed (x p : Str) (i : Int) (ns : List Str)
inductive Tm where
  | nd (h : Hd) (ts : List Tm)
mutual
def Tm.size : Tm → Nat
  | .nd _ ts => Tm.sizes ts + 1
def Tm.sizes : List Tm → Nat
  | [] => 0
  | t :: r => t.size + Tm.sizes r
end
mutual
def Tm.depth : Tm → Nat
  | .nd _ ts => Tm.depths ts + 1
def Tm.depths : List Tm → Nat
  | [] => 0
  | t :: r => max t.depth (Tm.depths r)
end
def Tm.hd : Tm → Hd
  | .nd h _ => h
def Tm.parts : Tm → List Tm
  | .nd _ ts => ts
theorem Tm.eta (t : Tm) : t = .nd t.hd t.parts := by
  cases t
  rfl
theorem Tm.size_parts (t : Tm) : t.size = Tm.sizes t.parts + 1 := by
  cases t
  rfl
theorem Tm.sizes_app : ∀ (a b : List Tm), Tm.sizes (a ++ b) = Tm.sizes a + Tm.sizes b
  | [], b => by simp [Tm.sizes]
  | t :: r, b => by
    rw [List.cons_append, Tm.sizes, Tm.sizes, Tm.sizes_app r b]
    omega
theorem Tm.sizes_mem {t : Tm} : ∀ {ts : List Tm}, t ∈ ts → t.size ≤ Tm.sizes ts
  | x :: r, h => by
    rw [Tm.sizes]
    rcases List.mem_cons.mp h with rfl | h
    · omega
    · have := Tm.sizes_mem h
      omega
theorem Tm.depths_mem {t : Tm} : ∀ {ts : List Tm}, t ∈ ts → t.depth ≤ Tm.depths ts
  | x :: r, h => by
    rw [Tm.depths]
    rcases List.mem_cons.mp h with rfl | h
    · omega
    · have := Tm.depths_mem h
      omega
theorem Tm.len_sizes : ∀ (ts : List Tm), ts.length ≤ Tm.sizes ts
  | [] => Nat.le_refl _
  | t :: r => by
    have := Tm.len_sizes r
    have := t.size_parts
    rw [List.length_cons, Tm.sizes]
    omega
/-- rows (name, part) -/
inductive ArgsAt (H : Hp) : List V → List Str → List V → Prop
  | nil : ArgsAt H [] [] []
  | cons {b : Addr} {x : Str} {p : V} {qs ps : List V} {ns : List Str} (h : H b = some (.tup [.str x, p])) (t : ArgsAt H qs ns ps) : ArgsAt H (.ref b :: qs) (x :: ns) (p :: ps)
theorem ArgsAt.mono {H H' : Hp} (t : Tups H H') {qs ps : List V} {ns : List Str} (h : ArgsAt H qs ns ps) : ArgsAt H' qs ns ps := by
  induction h with
  | nil => exact .nil
  | cons h _ ih => exact .cons (t _ _ h) ih
theorem ArgsAt.len {H : Hp} {qs ps : List V} {ns : List Str} (h : ArgsAt H qs ns ps) : qs.length = ps.length ∧ ns.length = ps.length := by
  induction h with
  | nil => exact ⟨rfl, rfl⟩
  | cons h _ ih => exact ⟨congrArg (· + 1) ih.1, congrArg (· + 1) ih.2⟩
theorem ArgsAt.get {H : Hp} {qs ps : List V} {ns : List Str} (h : ArgsAt H qs ns ps) : ∀ (i : Nat) (q : V), qs[i]? = some q → ∃ b x p, q = .ref b ∧ ns[i]? = some x ∧ ps[i]? = some p ∧ H b = some (.tup [.str x, p]) := by
  induction h with
  | nil => intro i q e; simp at e
  | cons h _ ih =>
    intro i q e
    cases i with
    | zero =>
      have e := Option.some.inj e
      exact ⟨_, _, _, e.symm, rfl, rfl, h⟩
    | succ i => exact ih i q e
theorem ArgsAt.app {H : Hp} {qs ps : List V} {ns : List Str} (h : ArgsAt H qs ns ps) {b : Addr} {x : Str} {p : V} (hb : H b = some (.tup [.str x, p])) : ArgsAt H (qs ++ [.ref b]) (ns ++ [x]) (ps ++ [p]) := by
  induction h with
  | nil => exact .cons hb .nil
  | cons h _ ih => exact .cons h ih
/-- v stands for a term that is by itself hd, with the parts ps -/
inductive NdAt (H : Hp) : V → Hd → List V → Prop
  | num {a : Addr} {i : Int} (h : H a = some (.tup [.str "num", .int i])) : NdAt H (.ref a) (.num i) []
  | text {a : Addr} {z : Str} (h : H a = some (.tup [.str "text", .str z])) : NdAt H (.ref a) (.text z) []
  | hole {a : Addr} {x : Str} (h : H a = some (.tup [.str "hole", .str x])) : NdAt H (.ref a) (.hole x) []
  | call {a g : Addr} {x : Str} {ns : List Str} {qs ps : List V} (h : H a = some (.tup [.str "call", .str x, .ref g])) (hg : H g = some (.tup qs)) (hq : ArgsAt H qs ns ps) : NdAt H (.ref a) (.call x ns) ps
  | make {a g : Addr} {x : Str} {ns : List Str} {qs ps : List V} (h : H a = some (.tup [.str "make", .str x, .ref g])) (hg : H g = some (.tup qs)) (hq : ArgsAt H qs ns ps) : NdAt H (.ref a) (.make x ns) ps
  | get {a b : Addr} {x : Str} (h : H a = some (.tup [.str "get", .str x, .ref b])) : NdAt H (.ref a) (.get x) [.ref b]
  | bare {a : Addr} {x c : Str} (h : H a = some (.tup [.str "case", .str x, .str c, .non])) : NdAt H (.ref a) (.bare x c) []
  | case {a b : Addr} {x c : Str} (h : H a = some (.tup [.str "case", .str x, .str c, .ref b])) : NdAt H (.ref a) (.case x c) [.ref b]
  | as_ {a b : Addr} {x : Str} (h : H a = some (.tup [.str "as", .str x, .ref b])) : NdAt H (.ref a) (.as_ x) [.ref b]
  | look {a b g : Addr} {xs : List Str} (h : H a = some (.tup [.str "look", .ref g, .ref b])) (hg : H g = some (.tup (xs.map V.str))) : NdAt H (.ref a) (.look xs) [.ref b]
  | one {a b : Addr} (h : H a = some (.tup [.str "one", .ref b])) : NdAt H (.ref a) .one [.ref b]
  | answer {a b : Addr} {n : Int} (h : H a = some (.tup [.str "answer", .int n, .ref b])) : NdAt H (.ref a) (.answer n) [.ref b]
  | ask {a g : Addr} {v : V} {vs : List V} (h : H a = some (.tup [.str "ask", v, .ref g])) (hg : H g = some (.tup vs)) : NdAt H (.ref a) .ask (v :: vs)
  | handed {a g : Addr} {x p : Str} {i : Int} {ns : List Str} {qs ps : List V} (h : H a = some (.tup [.str "handed", .str x, .str p, .int i, .ref g])) (hg : H g = some (.tup qs)) (hq : ArgsAt H qs ns ps) : NdAt H (.ref a) (.handed x p i ns) ps
theorem NdAt.mono {H H' : Hp} (t : Tups H H') {v : V} {h : Hd} {ps : List V} (n : NdAt H v h ps) : NdAt H' v h ps := by
  cases n with
  | num h => exact .num (t _ _ h)
  | text h => exact .text (t _ _ h)
  | hole h => exact .hole (t _ _ h)
  | call h hg hq => exact .call (t _ _ h) (t _ _ hg) (hq.mono t)
  | make h hg hq => exact .make (t _ _ h) (t _ _ hg) (hq.mono t)
  | get h => exact .get (t _ _ h)
  | bare h => exact .bare (t _ _ h)
  | case h => exact .case (t _ _ h)
  | as_ h => exact .as_ (t _ _ h)
  | look h hg => exact .look (t _ _ h) (t _ _ hg)
  | one h => exact .one (t _ _ h)
  | answer h => exact .answer (t _ _ h)
  | ask h hg => exact .ask (t _ _ h) (t _ _ hg)
  | handed h hg hq => exact .handed (t _ _ h) (t _ _ hg) (hq.mono t)
theorem NdAt.ref {H : Hp} {v : V} {h : Hd} {ps : List V} (n : NdAt H v h ps) : ∃ a xs, v = .ref a ∧ H a = some (.tup xs) := by
  cases n <;> exact ⟨_, _, rfl, ‹_›⟩
mutual
inductive TmAt (H : Hp) : V → Tm → Prop
  | nd {v : V} {h : Hd} {ps : List V} {ts : List Tm} (n : NdAt H v h ps) (hs : TmsAt H ps ts) : TmAt H v (.nd h ts)
inductive TmsAt (H : Hp) : List V → List Tm → Prop
  | nil : TmsAt H [] []
  | cons {v : V} {vs : List V} {t : Tm} {ts : List Tm} (h : TmAt H v t) (r : TmsAt H vs ts) : TmsAt H (v :: vs) (t :: ts)
end
mutual
theorem TmAt.mono {H H' : Hp} (t : Tups H H') : ∀ {x : Tm} {v : V}, TmAt H v x → TmAt H' v x
  | .nd _ _, _, .nd n hs => .nd (n.mono t) (TmsAt.mono t hs)
theorem TmsAt.mono {H H' : Hp} (t : Tups H H') : ∀ {xs : List Tm} {vs : List V}, TmsAt H vs xs → TmsAt H' vs xs
  | [], _, .nil => .nil
  | _ :: _, _, .cons h r => .cons (TmAt.mono t h) (TmsAt.mono t r)
end
theorem TmsAt.len {H : Hp} : ∀ {xs : List Tm} {vs : List V}, TmsAt H vs xs → vs.length = xs.length
  | [], _, .nil => rfl
  | _ :: _, _, .cons _ r => by rw [List.length_cons, TmsAt.len r, List.length_cons]
theorem TmsAt.get {H : Hp} : ∀ {xs : List Tm} {vs : List V}, TmsAt H vs xs → ∀ (i : Nat) (t : Tm), xs[i]? = some t → ∃ v, vs[i]? = some v ∧ TmAt H v t
  | [], _, .nil, i, t, h => by simp at h
  | _ :: _, _, .cons a r, 0, t, h => by
    have e := Option.some.inj h
    subst e
    exact ⟨_, rfl, a⟩
  | _ :: _, _, .cons a r, i + 1, t, h => TmsAt.get r i t h
theorem TmsAt.app {H : Hp} : ∀ {ts : List Tm} {vs : List V}, TmsAt H vs ts → ∀ {v : V} {t : Tm}, TmAt H v t → TmsAt H (vs ++ [v]) (ts ++ [t])
  | [], _, .nil, _, _, h => .cons h .nil
  | _ :: _, _, .cons a r, _, _, h => .cons a (TmsAt.app r h)
theorem TmAt.ref {H : Hp} {v : V} {t : Tm} (h : TmAt H v t) : ∃ a xs, v = .ref a ∧ H a = some (.tup xs) := by
  cases h with
  | nd n _ => exact n.ref
theorem TmAt.node {H : Hp} {v : V} {t : Tm} (h : TmAt H v t) : ∃ ps, NdAt H v t.hd ps ∧ TmsAt H ps t.parts := by
  cases h with
  | nd n hs => exact ⟨_, n, hs⟩
/-- by the word: what a walk over the parts meets -/
inductive Wrd (H : Hp) (xs ps : List V) : Prop
  | leaf (w : Str) (K : List V) (v : V) (e : xs = (.str w :: K) ++ [v]) (h1 : inV (.str w) [.str "num", .str "text", .str "hole"] = true ∨ (inV (.str w) [.str "num", .str "text", .str "hole"] = false ∧ v = .non))
      (h2 : inV (.str w) [.str "call", .str "make", .str "handed"] = false) (h3 : decide (V.str w = .str "ask") = false) (hp : ps = [])
  | args (w : Str) (K : List V) (g : Addr) (qs : List V) (ns : List Str) (e : xs = (.str w :: K) ++ [.ref g]) (h1 : inV (.str w) [.str "num", .str "text", .str "hole"] = false)
      (h2 : inV (.str w) [.str "call", .str "make", .str "handed"] = true) (hg : H g = some (.tup qs)) (h : ArgsAt H qs ns ps)
  | ask (v : V) (g : Addr) (vs : List V) (e : xs = [.str "ask", v, .ref g]) (hg : H g = some (.tup vs)) (hp : ps = v :: vs)
  | last (w : Str) (K : List V) (b : Addr) (e : xs = (.str w :: K) ++ [.ref b]) (h1 : inV (.str w) [.str "num", .str "text", .str "hole"] = false)
      (h2 : inV (.str w) [.str "call", .str "make", .str "handed"] = false) (h3 : decide (V.str w = .str "ask") = false) (hp : ps = [.ref b])
theorem NdAt.wrd {H : Hp} {v : V} {h : Hd} {ps : List V} (n : NdAt H v h ps) : ∃ a xs, v = .ref a ∧ H a = some (.tup xs) ∧ Wrd H xs ps := by
  cases n with
  | num h => exact ⟨_, _, rfl, h, .leaf "num" [] _ rfl (.inl rfl) rfl (by decide) rfl⟩
  | text h => exact ⟨_, _, rfl, h, .leaf "text" [] _ rfl (.inl rfl) rfl (by decide) rfl⟩
  | hole h => exact ⟨_, _, rfl, h, .leaf "hole" [] _ rfl (.inl rfl) rfl (by decide) rfl⟩
  | call h hg hq => exact ⟨_, _, rfl, h, .args "call" [_] _ _ _ rfl rfl rfl hg hq⟩
  | make h hg hq => exact ⟨_, _, rfl, h, .args "make" [_] _ _ _ rfl rfl rfl hg hq⟩
  | get h => exact ⟨_, _, rfl, h, .last "get" [_] _ rfl rfl rfl (by decide) rfl⟩
  | bare h => exact ⟨_, _, rfl, h, .leaf "case" [_, _] .non rfl (.inr ⟨rfl, rfl⟩) rfl (by decide) rfl⟩
  | case h => exact ⟨_, _, rfl, h, .last "case" [_, _] _ rfl rfl rfl (by decide) rfl⟩
  | as_ h => exact ⟨_, _, rfl, h, .last "as" [_] _ rfl rfl rfl (by decide) rfl⟩
  | look h hg => exact ⟨_, _, rfl, h, .last "look" [_] _ rfl rfl rfl (by decide) rfl⟩
  | one h => exact ⟨_, _, rfl, h, .last "one" [] _ rfl rfl rfl (by decide) rfl⟩
  | answer h => exact ⟨_, _, rfl, h, .last "answer" [_] _ rfl rfl rfl (by decide) rfl⟩
  | ask h hg => exact ⟨_, _, rfl, h, .ask _ _ _ rfl hg rfl⟩
  | handed h hg hq => exact ⟨_, _, rfl, h, .args "handed" [_, _, _] _ _ _ rfl rfl rfl hg hq⟩
theorem at_head {w : Str} {K : List V} {v : V} : atI ((.str w :: K) ++ [v]) 0 = some (.str w) := at_of rfl rfl
end My
namespace My
open PySem L2
/-! terms written -/
theorem lineM {n : Nat} (h : n ≤ 10000000) : n ≤ sizeLine := Nat.le_trans h (by decide)
theorem lenS_app (x y : Str) : (x ++ y).length = x.length + y.length := by
  rw [← cl_len, ← cl_len, ← cl_len, cl_app, List.length_append]
theorem lenS_emp : Str.empty.length = 0 := rfl
abbrev decS (i : Int) : Str := Str.ofString (toString i)
def argsL (ns : List Str) (ws : List (List Nat)) : List Nat := cl "(" ++ glue (cl ", ") (List.zipWith (fun n w => cl n ++ cl ": " ++ w) ns ws) ++ cl ")"
def othL (first : List Nat) (others : List (List Nat)) : List Nat := if others = [] then first else first ++ cl ": " ++ glue (cl ", ") others
def Hd.sh : Hd → List (List Nat) → List Nat
  | .num i, _ => cl (decS i)
  | .text z, _ => cl "'" ++ cl z ++ cl "'"
  | .hole _, _ => []
  | .call x ns, ws => cl x ++ argsL ns ws
  | .make x ns, ws => cl "new " ++ cl x ++ argsL ns ws
  | .get x, ws => ws.headD [] ++ cl "." ++ cl x
  | .bare x c, _ => cl x ++ cl "!" ++ cl c
  | .case x c, ws => cl x ++ cl "!" ++ cl c ++ cl "(" ++ ws.headD [] ++ cl ")"
  | .as_ x, ws => cl "(" ++ ws.headD [] ++ cl " as " ++ cl x ++ cl ")"
  | .look xs, ws => cl "look(" ++ othL (ws.headD []) (xs.map cl) ++ cl ")"
  | .one, ws => cl "one(" ++ ws.headD [] ++ cl ")"
  | .answer n, ws => cl "(" ++ cl (decS n) ++ cl " -> " ++ ws.headD [] ++ cl ")"
  | .ask, ws => cl "ask(" ++ othL (ws.headD []) ws.tail ++ cl ")"
  | .handed x p i ns, ws => cl x ++ cl "?" ++ cl p ++ cl "." ++ cl (decS i) ++ argsL ns ws
mutual
def Tm.sh : Tm → List Nat
  | .nd h ts => h.sh (Tm.shs ts)
def Tm.shs : List Tm → List (List Nat)
  | [] => []
  | t :: r => Tm.sh t :: Tm.shs r
end
theorem Tm.shs_map : ∀ (ts : List Tm), Tm.shs ts = ts.map Tm.sh
  | [] => rfl
  | t :: r => by rw [Tm.shs, Tm.shs_map r, List.map_cons]
theorem Tm.sh_eq (t : Tm) : t.sh = t.hd.sh (t.parts.map Tm.sh) := by
  cases t with
  | nd h ts =>
    rw [Tm.sh, Tm.shs_map]
    rfl
/-- names of at most eight signs, numbers of some sixty figures -/
def Hd.small : Hd → Prop
  | .num i => i.natAbs < 10 ^ 62
  | .text z => z.length ≤ 100
  | .hole _ => False
  | .call x ns => x.length ≤ 8 ∧ ∀ n ∈ ns, n.length ≤ 8
  | .make x ns => x.length ≤ 8 ∧ ∀ n ∈ ns, n.length ≤ 8
  | .get x => x.length ≤ 8
  | .bare x c => x.length ≤ 8 ∧ c.length ≤ 8
  | .case x c => x.length ≤ 8 ∧ c.length ≤ 8
  | .as_ x => x.length ≤ 8
  | .look xs => xs.length ≤ 8 ∧ ∀ n ∈ xs, n.length ≤ 8
  | .one => True
  | .answer n => n.natAbs < 10 ^ 62
  | .ask => True
  | .handed x p i ns => x.length ≤ 8 ∧ p.length ≤ 8 ∧ i.natAbs < 10 ^ 62 ∧ ∀ n ∈ ns, n.length ≤ 8
mutual
def Tm.small : Tm → Prop
  | .nd h ts => h.small ∧ Tm.smalls ts
def Tm.smalls : List Tm → Prop
  | [] => True
  | t :: r => Tm.small t ∧ Tm.smalls r
end
theorem Tm.smalls_mem {t : Tm} : ∀ {ts : List Tm}, Tm.smalls ts → t ∈ ts → t.small
  | x :: r, h, m => by
    rcases List.mem_cons.mp m with rfl | m
    · exact h.1
    · exact Tm.smalls_mem h.2 m
theorem Tm.smalls_of : ∀ {ts : List Tm}, (∀ t ∈ ts, t.small) → Tm.smalls ts
  | [], _ => trivial
  | t :: r, h => ⟨h t (.head _), Tm.smalls_of fun x hx => h x (.tail _ hx)⟩
theorem Tm.small_hd {t : Tm} (h : t.small) : t.hd.small := by
  cases t
  exact h.1
theorem Tm.small_parts {t : Tm} (h : t.small) : ∀ x ∈ t.parts, x.small := by
  cases t
  exact fun x hx => Tm.smalls_mem h.2 hx
theorem dec_len {i : Int} (h : i.natAbs < 10 ^ 62) : (decS i).length ≤ 63 := by
  have := int_text_length_le10 (k := 62) (by decide) h
  rw [ofString_length]
  omega
theorem dec_log {i : Int} (h : i.natAbs < 10 ^ 62) : i.natAbs.log2 < 1920 := by
  by_cases c : i.natAbs = 0
  · rw [c]
    decide
  · refine (Nat.log2_lt c).mpr (Nat.lt_of_lt_of_le h ?_)
    exact Nat.le_trans (Nat.pow_le_pow_left (show 10 ≤ 2 ^ 4 by decide) 62) (by rw [← Nat.pow_mul]; exact Nat.pow_le_pow_right (by decide) (by decide))
/-- the lengths together -/
def lens (ws : List (List Nat)) : Nat := (ws.map List.length).sum
theorem glue_lens (sep : List Nat) : ∀ (ws : List (List Nat)), (glue sep ws).length ≤ lens ws + ws.length * sep.length
  | [] => by simp [glue]
  | w :: r => by
    have e : ∀ l : List (List Nat), (l.flatMap fun y => sep ++ y).length = lens l + l.length * sep.length := by
      intro l
      induction l with
      | nil => simp [lens]
      | cons a b ih =>
        rw [List.flatMap_cons, List.length_append, ih, List.length_append, List.length_cons]
        simp only [lens, List.map_cons, List.sum_cons, Nat.succ_mul]
        omega
    show (w ++ r.flatMap fun y => sep ++ y).length ≤ _
    rw [List.length_append, e, List.length_cons, Nat.succ_mul]
    simp only [lens, List.map_cons, List.sum_cons]
    omega
theorem args_lens : ∀ (ns : List Str) (ws : List (List Nat)), (∀ n ∈ ns, n.length ≤ 8) → lens (List.zipWith (fun n w => cl n ++ cl ": " ++ w) ns ws) ≤ lens ws + 10 * ws.length
  | [], ws, _ => by simp [lens]
  | n :: ns, [], _ => by simp [lens]
  | n :: ns, w :: ws, h => by
    have ih := args_lens ns ws fun x hx => h x (.tail _ hx)
    have h8 := h n (.head _)
    have e2 : (cl ": ").length = 2 := by decide
    simp only [List.zipWith_cons_cons, lens, List.map_cons, List.sum_cons, List.length_append, List.length_cons, cl_len] at ih ⊢
    have e2 : (": " : Str).length = 2 := by decide
    omega
theorem argsL_len {ns : List Str} {ws : List (List Nat)} (h : ∀ n ∈ ns, n.length ≤ 8) : (argsL ns ws).length ≤ lens ws + 12 * ws.length + 2 := by
  have a := args_lens ns ws h
  have b := glue_lens (cl ", ") (List.zipWith (fun n w => cl n ++ cl ": " ++ w) ns ws)
  have c : (List.zipWith (fun n w => cl n ++ cl ": " ++ w) ns ws).length ≤ ws.length := by
    rw [List.length_zipWith]
    exact Nat.min_le_right _ _
  have e : (cl ", ").length = 2 := by decide
  rw [e] at b
  unfold argsL
  rw [List.length_append, List.length_append]
  show 1 + _ + 1 ≤ _
  omega
theorem othL_len (f : List Nat) (ws : List (List Nat)) : (othL f ws).length ≤ f.length + lens ws + 2 * ws.length + 2 := by
  have b := glue_lens (cl ", ") ws
  have e : (cl ", ").length = 2 := by decide
  have e2 : (cl ": ").length = 2 := by decide
  rw [e] at b
  unfold othL
  split
  · omega
  · rw [List.length_append, List.length_append, e2]
    omega
theorem headD_len (ws : List (List Nat)) : (ws.headD []).length + lens ws.tail ≤ lens ws ∧ ws.tail.length ≤ ws.length := by
  cases ws with
  | nil => exact ⟨Nat.le_refl _, Nat.le_refl _⟩
  | cons w r => simp [lens]
theorem lens_names : ∀ (xs : List Str), (∀ x ∈ xs, x.length ≤ 8) → lens (xs.map cl) ≤ 8 * xs.length
  | [], _ => by simp [lens]
  | x :: r, h => by
    have a := lens_names r fun y hy => h y (.tail _ hy)
    have b := h x (.head _)
    simp only [lens, List.map_cons, List.sum_cons, List.length_cons, cl_len] at a ⊢
    omega
theorem Hd.sh_len {h : Hd} (s : h.small) (ws : List (List Nat)) : (h.sh ws).length ≤ lens ws + 12 * ws.length + 200 := by
  have h0 := headD_len ws
  have l1 : ∀ x : Str, (cl x).length = x.length := cl_len
  cases h with
  | num i =>
    have := dec_len s
    show (cl (decS i)).length ≤ _
    rw [l1]
    omega
  | text z =>
    have s : z.length ≤ 100 := s
    simp only [Hd.sh, List.length_append, l1]
    have e : ("'" : Str).length = 1 := by decide
    omega
  | hole x => exact Nat.zero_le _
  | call x ns =>
    have := argsL_len (ws := ws) s.2
    have := s.1
    simp only [Hd.sh, List.length_append, l1]
    omega
  | make x ns =>
    have := argsL_len (ws := ws) s.2
    have := s.1
    simp only [Hd.sh, List.length_append, l1]
    have e : ("new " : Str).length = 4 := by decide
    omega
  | get x =>
    have s : x.length ≤ 8 := s
    simp only [Hd.sh, List.length_append, l1]
    have e : ("." : Str).length = 1 := by decide
    omega
  | bare x c =>
    have := s.1
    have := s.2
    simp only [Hd.sh, List.length_append, l1]
    have e : ("!" : Str).length = 1 := by decide
    omega
  | case x c =>
    have := s.1
    have := s.2
    simp only [Hd.sh, List.length_append, l1]
    have e : ("!" : Str).length = 1 := by decide
    have e2 : ("(" : Str).length = 1 := by decide
    have e3 : (")" : Str).length = 1 := by decide
    omega
  | as_ x =>
    have s : x.length ≤ 8 := s
    simp only [Hd.sh, List.length_append, l1]
    have e : (" as " : Str).length = 4 := by decide
    have e2 : ("(" : Str).length = 1 := by decide
    have e3 : (")" : Str).length = 1 := by decide
    omega
  | look xs =>
    have a := othL_len (ws.headD []) (xs.map cl)
    have b := lens_names xs s.2
    have c := s.1
    simp only [Hd.sh, List.length_append, l1]
    rw [List.length_map] at a
    have e : ("look(" : Str).length = 5 := by decide
    have e3 : (")" : Str).length = 1 := by decide
    omega
  | one =>
    simp only [Hd.sh, List.length_append, l1]
    have e : ("one(" : Str).length = 4 := by decide
    have e3 : (")" : Str).length = 1 := by decide
    omega
  | answer n =>
    have := dec_len s
    simp only [Hd.sh, List.length_append, l1]
    have e : (" -> " : Str).length = 4 := by decide
    have e2 : ("(" : Str).length = 1 := by decide
    have e3 : (")" : Str).length = 1 := by decide
    omega
  | ask =>
    have a := othL_len (ws.headD []) ws.tail
    simp only [Hd.sh, List.length_append, l1]
    have e : ("ask(" : Str).length = 4 := by decide
    have e3 : (")" : Str).length = 1 := by decide
    omega
  | handed x p i ns =>
    obtain ⟨h1, h2, h3, h4⟩ := s
    have := argsL_len (ws := ws) h4
    have := dec_len h3
    simp only [Hd.sh, List.length_append, l1]
    have e : ("?" : Str).length = 1 := by decide
    have e2 : ("." : Str).length = 1 := by decide
    omega
mutual
theorem Tm.sh_len : ∀ (t : Tm), t.small → (Tm.sh t).length + 12 ≤ 300 * t.size
  | .nd h ts, s => by
    have a := Hd.sh_len s.1 (Tm.shs ts)
    have b := Tm.shs_len ts s.2
    simp only [Tm.sh, Tm.size]
    omega
theorem Tm.shs_len : ∀ (ts : List Tm), Tm.smalls ts → lens (Tm.shs ts) + 12 * (Tm.shs ts).length ≤ 300 * Tm.sizes ts
  | [], _ => by simp [Tm.shs, lens]
  | t :: r, s => by
    have a := Tm.sh_len t s.1
    have b := Tm.shs_len r s.2
    simp only [Tm.shs, Tm.sizes, lens, List.map_cons, List.sum_cons, List.length_cons] at a b ⊢
    omega
end
end My
namespace My
open PySem L2
/-! _law_great, _law_number -/
def spGreat : Sp := fun vs H Q _ => ∃ (d g : Addr) (n : Int), vs = [.ref d] ∧ Tray H d g n ∧ n ≤ 900000 ∧ ∀ (r : Int) (H' : Hp), 0 ≤ r → r < 10 ^ 59 → Tray H' d g (n + 4) → But d g H H' → Q (.int r) H'
/-- a number of an edition -/
def Num3 (H : Hp) (v : V) (ns : List Int) : Prop := ∃ t, v = .ref t ∧ H t = some (.tup (ns.map V.int)) ∧ ns.length = 3 ∧ ∀ x ∈ ns, 0 ≤ x ∧ x < 10 ^ 61
def spNumber : Sp := fun vs H Q _ => ∃ (d g : Addr) (n : Int), vs = [.ref d] ∧ Tray H d g n ∧ n ≤ 800000 ∧ ∀ (v : V) (ns : List Int) (H' : Hp), Num3 H' v ns → Tray H' d g (n + 20) → But d g H H' → Q v H'
def Pgrt (d g : Addr) (n : Int) (H0 : Hp) (i : Nat) (σ : St) (H : Hp) : Prop := ∃ (x : Int) (u2 : Option V), σ = [some (.ref d), some (.int x), u2] ∧ But d g H0 H ∧ Tray H d g (n + (i : Int)) ∧ 0 ≤ x ∧ x < 10 ^ (14 + 15 * i)
def Pnum (d g D : Addr) (n : Int) (H0 : Hp) (i : Nat) (H : Hp) : Prop := But d g H0 H ∧ Tray H d g (n + 6 * (i : Int)) ∧ ∃ ns : List Int, H D = some (.lst (ns.map V.int)) ∧ ns.length = i ∧ ∀ x ∈ ns, 0 ≤ x ∧ x < 10 ^ 61
theorem pow14 : (10 : Int) ^ (14 : Int).toNat = 100000000000000 := by decide
theorem pow15 : (10 : Int) ^ (15 : Int).toNat = 1000000000000000 := by decide
section
variable {P : Program} {w : World} {K : PySem.W.Frag} {mg : Str → Option Value} {base : Heap} {f : Addr} {fd : FuncData} {aT aF : Addr}
theorem ok_great (B : Bn mg) (F : Fun K "_law_great" "_law_great" s__law_great f fd) (c__law_draw : Cal P w K mg base "_law_draw" 1 ["tray", "many"] spDraw) : FnOk P w K mg base CX0 2 f fd ["tray"] spGreat := by
  refine F.ok sc__law_great (fun vs H Q E h => ?_) (fun cdv A outer s H vs Q E hr h => ?_)
  · obtain ⟨d, g, n, rfl, _⟩ := h
    rfl
  obtain ⟨d, g, n, rfl, D, hn, q⟩ := h
  refine ⟨_, (pss_cons (ps_set (i := 1) sc__law_great.nd rfl (Or.inl rfl) (pc c__law_draw (hr.mono (by first | decide | omega)) (pa_cons (pv 0) (pa_cons (pe_op op_pow pe_int pe_int) pa_nil))))
    (pss_cons (ps_for PassesOwn.never rfl (pi_range1 rfl B.b_range (pa_cons pe_int pa_nil)) (pg_name (i := 2) sc__law_great.nd rfl (Or.inl rfl)) (pss_one (ps_set (i := 1) sc__law_great.nd rfl (Or.inl rfl) (pe_op op_add (pe_op op_mul (pv 1) (pe_op op_pow pe_int pe_int)) (pc c__law_draw (hr.mono (by first | decide | omega)) (pa_cons (pv 0) (pa_cons (pe_op op_pow pe_int pe_int) pa_nil)))))))
    (pss_one (ps_ret (pv 1))))), ?_⟩
  refine ⟨_, rfl, _, _, rfl, rfl, ⟨by decide, by decide, by decide⟩, d, g, _, n, rfl, D, by rw [pow14]; decide, by rw [pow14]; decide, by omega, fun x H1 x0 x1 D1 B1 => ?_⟩
  rw [pow14] at x1
  refine ⟨_, rfl, by decide, by decide, for_range (lo := 0) (n := (3 : Int).toNat) (Pgrt d g (n + 1) H) ?_ ?_ ?_⟩
  · exact ⟨x, none, rfl, B1, D1.le (by simp), x0, by simpa using x1⟩
  · rintro i σ H2 hi ⟨x, u2, rfl, b2, D2, x0, x1⟩
    have hi3 : i < 3 := hi
    refine ⟨_, rfl, _, _, rfl, rfl, ⟨by decide, by decide, by decide⟩, _, _, rfl, rfl, ?_⟩
    rw [pow15]
    refine ⟨.inr ⟨by decide, by decide⟩, _, rfl, _, _, rfl, rfl, ⟨by decide, by decide, by decide⟩, d, g, _, _, rfl, D2, by rw [pow15]; decide, by rw [pow15]; decide, by omega, fun y H3 y0 y1 D3 B3 => ?_⟩
    rw [pow15] at y1
    refine ⟨_, _, rfl, rfl, ?_⟩
    refine ⟨x * 1000000000000000 + y, _, rfl, b2.trans B3, D3.le (by omega), by omega, ?_⟩
    have e : (10 : Int) ^ (14 + 15 * (i + 1)) = 10 ^ (14 + 15 * i) * 1000000000000000 := by
      rw [Nat.mul_succ, ← Nat.add_assoc, Int.pow_add]
      rfl
    rw [e]
    omega
  · rintro σ H2 ⟨x, u2, rfl, b2, D2, x0, x1⟩
    have D3 : Tray H2 d g (n + 1 + 3) := D2
    exact ⟨_, rfl, q x H2 x0 x1 (D3.le (by omega)) b2⟩
end
end My
namespace My
open PySem L2
/-! the law's drawn terms -/
/-- the names that terms are drawn of -/
structure NmsAt (H : Hp) (d g nl : Addr) (nms : List Str) : Prop where
  nd : nl ≠ d
  ng : nl ≠ g
  at_ : H nl = some (.lst (nms.map V.str))
  pos : 1 ≤ nms.length
  le : nms.length ≤ 1000
  sh : ∀ x ∈ nms, x.length ≤ 8
theorem NmsAt.but {H H' : Hp} {d g nl : Addr} {nms : List Str} (n : NmsAt H d g nl nms) (b : But d g H H') : NmsAt H' d g nl nms := ⟨n.nd, n.ng, b _ _ n.nd n.ng n.at_, n.pos, n.le, n.sh⟩
theorem NmsAt.pick {H : Hp} {d g nl : Addr} {nms : List Str} (n : NmsAt H d g nl nms) {r : Int} (h0 : 0 ≤ r) (h1 : r < (nms.length : Int)) : ∃ x, atI (nms.map V.str) r = some (.str x) ∧ x.length ≤ 8 := by
  have hl : r.toNat < nms.length := by omega
  refine ⟨nms[r.toNat], at_of (j := r.toNat) (by omega) ?_, n.sh _ (List.getElem_mem hl)⟩
  rw [List.getElem?_map, List.getElem?_eq_getElem hl]
  rfl
/-- what is drawn -/
structure Drawn (H : Hp) (v : V) (t : Tm) (e : Nat) : Prop where
  at_ : TmAt H v t
  small : t.small
  size : t.size ≤ 4 ^ e
  depth : t.depth ≤ e + 1
theorem Drawn.mono {H H' : Hp} {v : V} {t : Tm} {e : Nat} (T : Tups H H') (h : Drawn H v t e) : Drawn H' v t e := ⟨h.at_.mono T, h.small, h.size, h.depth⟩
theorem drawn_leaf {H : Hp} {v : V} {h : Hd} {e : Nat} (n : NdAt H v h []) (s : h.small) : Drawn H v (.nd h []) e :=
  ⟨.nd n .nil, ⟨s, trivial⟩, by simp only [Tm.size, Tm.sizes]; exact Nat.one_le_pow e 4 (by decide), by simp [Tm.depth, Tm.depths]⟩
theorem drawn_node {H : Hp} {v : V} {h : Hd} {e : Nat} {ps : List V} {ts : List Tm} (n : NdAt H v h ps) (s : h.small) (hs : TmsAt H ps ts) (sm : Tm.smalls ts) (sz : Tm.sizes ts ≤ 3 * 4 ^ e) (dp : Tm.depths ts ≤ e + 1) : Drawn H v (.nd h ts) (e + 1) := by
  have p : 1 ≤ 4 ^ e := Nat.one_le_pow e 4 (by decide)
  exact ⟨.nd n hs, ⟨s, sm⟩, by simp only [Tm.size]; rw [Nat.pow_succ]; omega, by simp only [Tm.depth]; omega⟩
theorem drawn_one {H : Hp} {v u : V} {h : Hd} {e : Nat} {t : Tm} (n : NdAt H v h [u]) (s : h.small) (ht : Drawn H u t e) : Drawn H v (.nd h [t]) (e + 1) :=
  drawn_node n s (.cons ht.at_ .nil) ⟨ht.small, trivial⟩ (by have := ht.size; simp only [Tm.sizes]; omega) (by have := ht.depth; simp only [Tm.depths]; omega)
def spPlainT : Sp := fun vs H Q _ => ∃ (d g : Addr) (n : Int), vs = [.ref d] ∧ Tray H d g n ∧ n ≤ 890000 ∧ ∀ (v : V) (t : Tm) (H' : Hp), Drawn H' v t 0 → Tray H' d g (n + 20) → But d g H H' → Q v H'
section
variable {P : Program} {w : World} {K : PySem.W.Frag} {mg : Str → Option Value} {base : Heap} {f : Addr} {fd : FuncData}
theorem ok_plain_term (B : Bn mg) (F : Fun K "_law_plain_term" "_law_plain_term" s__law_plain_term f fd) (c__law_draw : Cal P w K mg base "_law_draw" 1 ["tray", "many"] spDraw) (c__law_great : Cal P w K mg base "_law_great" 2 ["tray"] spGreat) : FnOk P w K mg base CX0 3 f fd ["tray"] spPlainT := by
  refine F.ok sc__law_plain_term (fun vs H Q E h => ?_) (fun cdv A outer s H vs Q E hr h => ?_)
  · obtain ⟨d, g, n, rfl, _⟩ := h
    rfl
  obtain ⟨d, g, n, rfl, D, hn, q⟩ := h
  refine ⟨_, (pss_cons (ps_set (i := 1) sc__law_plain_term.nd rfl (Or.inl rfl) (pc c__law_draw (hr.mono (by first | decide | omega)) (pa_cons (pv 0) (pa_cons pe_int pa_nil))))
    (pss_cons (ps_if (pt_cmpR op_eq (pv 1) pe_int (nomark _)) (pss_one (ps_ret (pe_tup (pa_cons pe_str (pa_cons (pe_op op_mul (pe_op op_add (pc c__law_great (hr.mono (by first | decide | omega)) (pa_cons (pv 0) pa_nil)) pe_int) (pe_op op_sub pe_int (pe_op op_mul pe_int (pc c__law_draw (hr.mono (by first | decide | omega)) (pa_cons (pv 0) (pa_cons pe_int pa_nil)))))) pa_nil))))) pss_nil)
    (pss_cons (ps_if (pt_cmpR op_eq (pv 1) pe_int (nomark _)) (pss_one (ps_ret (pe_tup (pa_cons pe_str (pa_cons (pe_op op_sub (pc c__law_draw (hr.mono (by first | decide | omega)) (pa_cons (pv 0) (pa_cons pe_int pa_nil))) pe_int) pa_nil))))) pss_nil)
    (pss_cons (ps_set (i := 2) sc__law_plain_term.nd rfl (Or.inr rfl) pe_str)
    (pss_one (ps_ret (pe_tup (pa_cons pe_str (pa_cons (pe_join pe_str (pe_lc (own := [("k", 3)]) (g := (gName 3)) rfl sc__law_plain_term.nd (pi_range1 rfl B.b_range (pa_cons (pc c__law_draw (hr.mono (by first | decide | omega)) (pa_cons (pv 0) (pa_cons pe_int pa_nil))) pa_nil)) (blkOk_by (N := ["tray", "way", "letters", "k"]) (sc := defScope s__law_plain_term) (by decide +kernel)) (fun _ _ _ _ _ => (pg_name (i := 3) sc__law_plain_term.nd rfl (Or.inl rfl) (hf := Or.inr rfl))) (fun _ _ _ _ _ => pts_nil) (fun _ _ _ _ _ => (pe_ix ix_str (pv 2) (pc c__law_draw (hr.mono (by first | decide | omega)) (pa_cons (pv 0) (pa_cons pe_int pa_nil))) (fun _ _ => rfl))))) pa_nil))))))))), ?_⟩
  refine seq_set ?_
  refine ⟨_, rfl, d, g, 4, n, rfl, D, by decide, by decide, by omega, fun way H1 w0 w1 D1 B1 => ?_⟩
  refine ⟨_, rfl, rfl, _, rfl, ite2 (fun _ => ?_) (fun _ => ?_)⟩
  · refine ⟨_, rfl, d, g, _, rfl, D1, by omega, fun r H2 r0 r1 D2 B2 => ⟨_, _, rfl, rfl, _, rfl, d, g, 2, _, rfl, D2, by decide, by decide, by omega, fun b H3 b0 b1 D3 B3 => ?_⟩⟩
    refine ⟨_, _, rfl, rfl, .inl ⟨by decide, by decide⟩, _, _, rfl, rfl, _, _, rfl, rfl, .inr ⟨by omega, by omega⟩, (by show 2 ≤ sizeLine; decide), fun p np => ?_⟩
    have B13 := (B1.trans B2).trans B3
    refine q _ _ _ (drawn_leaf (.num upd_same) ?_) ((D3.new np).le (by omega)) (B13.new np)
    show ((r + 1) * (1 - 2 * b)).natAbs < 10 ^ 62
    have e : (10 : Int) ^ 59 < ((10 ^ 62 : Nat) : Int) := by decide
    rcases (by omega : b = 0 ∨ b = 1) with rfl | rfl
    · omega
    · omega
  refine ⟨_, rfl, rfl, _, rfl, ite2 (fun _ => ?_) (fun _ => ?_)⟩
  · refine ⟨_, rfl, d, g, 12, _, rfl, D1, by decide, by decide, by omega, fun r H2 r0 r1 D2 B2 => ⟨_, _, rfl, rfl, (by show 2 ≤ sizeLine; decide), fun p np => ?_⟩⟩
    refine q _ _ _ (drawn_leaf (.num upd_same) ?_) ((D2.new np).le (by omega)) ((B1.trans B2).new np)
    show (r - 3).natAbs < 10 ^ 62
    have e : (12 : Nat) < 10 ^ 62 := by decide
    omega
  refine ⟨⟨_, rfl⟩, _, rfl, d, g, 13, _, rfl, D1, by decide, by decide, by omega, fun r3 H3 q0 q1 D3 B3 => ⟨_, rfl, by omega, by omega, fun D8 hD8 => ?_⟩⟩
  have B03 := B1.trans B3
  have ne8 := D3.ne hD8
  refine lc_range (lo := 0) (n := r3.toNat) (Plet d g D8 (n + 2) H3) ?_ ?_ ?_
  · exact ⟨(But.refl d g H3).new hD8, (D3.le (by simp; omega)).new hD8, [], upd_same, rfl, fun y hy => by simp at hy⟩
  · rintro i H4 hi ⟨b4, D4, ys, hy, ly, ay⟩
    refine ⟨rfl, _, rfl, _, rfl, d, g, 26, n + 2 + (i : Int), rfl, D4, by decide, by decide, by omega, fun r5 H5 z0 z1 D5 B5 => ?_⟩
    refine ⟨_, _, _, rfl, rfl, abc_len, abc_at z0 z1, ys.map V.str, B5 _ _ ne8.1 ne8.2 hy, line5 (by rw [List.length_map]; omega), (b4.trans B5).atNew hD8, (D5.le (by omega)).at ne8.1 ne8.2, ys ++ [⟨#[97 + r5.toNat]⟩], ?_, ?_, ?_⟩
    · rw [upd_same, List.map_append]
      rfl
    · rw [List.length_append, ly]
      rfl
    · intro y hy2
      rcases List.mem_append.mp hy2 with hy2 | hy2
      · exact ay y hy2
      · have e : y = ⟨#[97 + r5.toNat]⟩ := by simpa using hy2
        rw [e]
        exact ⟨LtA.one (by omega) (by omega), rfl⟩
  rintro H4 ⟨b4, D4, ys, hy, ly, ay⟩
  have hsum : (ys.map (·.length)).sum = ys.length := by
    clear hy ly
    induction ys with
    | nil => rfl
    | cons y r ih =>
      rw [List.map_cons, List.sum_cons, ih fun z hz => ay z (.tail _ hz), (ay y (.head _)).2, List.length_cons]
      omega
  have e0 : ("" : Str).length = 0 := rfl
  have el := txt_join_len "" ys
  rw [hsum, e0] at el
  refine ⟨_, D8, ys, rfl, rfl, .inl (SqL.of hy), by rw [hsum, e0]; omega, (by show 2 ≤ sizeLine; decide), fun p np => ?_⟩
  refine q _ _ _ (drawn_leaf (.text upd_same) ?_) ((D4.new np).le (by omega)) ((B03.trans b4).new np)
  show (Txt.join "" ys).length ≤ 100
  omega
end
end My
namespace My
open PySem L2
def cst (e : Nat) : Int := ((30 * 4 ^ e : Nat) : Int)
theorem cst_succ (e : Nat) : cst (e + 1) = 4 * cst e := by
  unfold cst
  rw [Nat.pow_succ]
  omega
theorem cst_pos (e : Nat) : 30 ≤ cst e := by
  have : 1 ≤ 4 ^ e := Nat.one_le_pow e 4 (by decide)
  unfold cst
  omega
def spTm (e : Nat) : Sp := fun vs H Q _ => ∃ (d g nl : Addr) (n k : Int) (nms : List Str), vs = [.ref d, .int k, .ref nl] ∧ 1 ≤ e ∧ k ≤ (e : Int) ∧ Tray H d g n ∧ n + cst e ≤ 890000 ∧ NmsAt H d g nl nms ∧
  ∀ (v : V) (t : Tm) (H' : Hp), Drawn H' v t e → Tray H' d g (n + cst e) → But d g H H' → Q v H'
def spGiv (e : Nat) : Sp := fun vs H Q _ => ∃ (d g nl : Addr) (n k : Int) (nms : List Str), vs = [.ref d, .int k, .ref nl] ∧ 1 ≤ e ∧ k - 1 ≤ (e : Int) ∧ Tray H d g n ∧ n + 4 + 3 * cst e ≤ 890000 ∧ NmsAt H d g nl nms ∧
  ∀ (a : Addr) (qs ps : List V) (ns : List Str) (ts : List Tm) (H' : Hp), H' a = some (.tup qs) → ArgsAt H' qs ns ps → TmsAt H' ps ts → (∀ x ∈ ns, x.length ≤ 8) → Tm.smalls ts → Tm.sizes ts ≤ 3 * 4 ^ e → Tm.depths ts ≤ e + 1 → Tray H' d g (n + 4 + 3 * cst e) → But d g H H' → Q (.ref a) H'
theorem Tm.smalls_app : ∀ {a b : List Tm}, Tm.smalls a → Tm.smalls b → Tm.smalls (a ++ b)
  | [], _, _, h => h
  | _ :: _, _, h, h' => ⟨h.1, Tm.smalls_app h.2 h'⟩
theorem Tm.depths_app : ∀ (a b : List Tm), Tm.depths (a ++ b) = max (Tm.depths a) (Tm.depths b)
  | [], b => by simp [Tm.depths]
  | t :: r, b => by
    rw [List.cons_append, Tm.depths, Tm.depths, Tm.depths_app r b]
    omega
/-- terms drawn one after another, in the list at r -/
structure Row (H : Hp) (e : Nat) (ps : List V) (ts : List Tm) (i : Nat) : Prop where
  at_ : TmsAt H ps ts
  small : Tm.smalls ts
  size : Tm.sizes ts ≤ i * 4 ^ e
  depth : Tm.depths ts ≤ e + 1
  len : ts.length = i
theorem Row.nil {H : Hp} {e : Nat} : Row H e [] [] 0 := ⟨.nil, trivial, by simp [Tm.sizes], by simp [Tm.depths], rfl⟩
theorem Row.mono {H H' : Hp} {e : Nat} {ps : List V} {ts : List Tm} {i : Nat} (T : Tups H H') (r : Row H e ps ts i) : Row H' e ps ts i := ⟨r.at_.mono T, r.small, r.size, r.depth, r.len⟩
theorem Row.snoc {H : Hp} {e : Nat} {ps : List V} {ts : List Tm} {i : Nat} (r : Row H e ps ts i) {v : V} {t : Tm} (h : Drawn H v t e) : Row H e (ps ++ [v]) (ts ++ [t]) (i + 1) := by
  refine ⟨r.at_.app h.at_, Tm.smalls_app r.small ⟨h.small, trivial⟩, ?_, ?_, by rw [List.length_append, r.len]; rfl⟩
  · have a := r.size
    have b := h.size
    rw [Tm.sizes_app, Nat.succ_mul]
    simp only [Tm.sizes]
    omega
  · have a := r.depth
    have b := h.depth
    rw [Tm.depths_app]
    simp only [Tm.depths]
    omega
def Pgiv (d g nl r : Addr) (k n : Int) (nms : List Str) (e : Nat) (H0 : Hp) (i : Nat) (σ : St) (H : Hp) : Prop :=
  ∃ (qs ps : List V) (ns : List Str) (ts : List Tm) (u4 : Option V), σ = [some (.ref d), some (.int k), some (.ref nl), some (.ref r), u4] ∧ But d g H0 H ∧ Tray H d g (n + 1 + (i : Int) * (1 + cst e)) ∧ NmsAt H d g nl nms ∧ H r = some (.lst qs) ∧ ArgsAt H qs ns ps ∧ Row H e ps ts i ∧ ∀ x ∈ ns, x.length ≤ 8
section
variable {P : Program} {w : World} {K : PySem.W.Frag} {mg : Str → Option Value} {base : Heap} {f : Addr} {fd : FuncData}
theorem ok_given (B : Bn mg) (F : Fun K "_law_given" "_law_given" s__law_given f fd) {j e : Nat} (c__law_draw : Cal P w K mg base "_law_draw" 1 ["tray", "many"] spDraw) (hj : 1 ≤ j) (c__law_term : Cal P w K mg base "_law_term" j ["tray", "deep", "names"] (spTm e)) :
    FnOk P w K mg base CX0 (j + 1) f fd ["tray", "deep", "names"] (spGiv e) := by
  refine F.ok sc__law_given (fun vs H Q E h => ?_) (fun cdv A outer s H vs Q E hr h => ?_)
  · obtain ⟨d, g, nl, n, k, nms, rfl, _⟩ := h
    rfl
  obtain ⟨d, g, nl, n, k, nms, rfl, he, hk, D, hn, N, q⟩ := h
  refine ⟨_, (pss_cons (ps_set (i := 3) sc__law_given.nd rfl (Or.inl rfl) (pe_lst pa_nil))
    (pss_cons (ps_for PassesOwn.never rfl (pi_range1 rfl B.b_range (pa_cons (pc c__law_draw (hr.mono (by first | decide | omega)) (pa_cons (pv 0) (pa_cons pe_int pa_nil))) pa_nil)) (pg_name (i := 4) sc__law_given.nd rfl (Or.inl rfl)) (pss_one (ps_expr (pe_bm PySem.F.plainAttrs_list PySem.F.slot_list_append PySem.F.type_list_append mt_append (pv 3) (pa_cons (pe_tup (pa_cons (pe_ix (ixL K rfl) (pv 2) (pc c__law_draw (hr.mono (by first | decide | omega)) (pa_cons (pv 0) (pa_cons (pe_callB (lenSeq K rfl) (by rfl) B.b_len PySem.boot_len (pa_cons (pv 2) pa_nil)) pa_nil))) (fun _ _ => rfl)) (pa_cons (pc c__law_term (hr.mono (by first | decide | omega)) (pa_cons (pv 0) (pa_cons (pe_op op_sub (pv 1) pe_int) (pa_cons (pv 2) pa_nil)))) pa_nil))) pa_nil)))))
    (pss_one (ps_ret (pe_callTy (tupleOf K rfl) (by rfl) B.b_tuple (by decide +kernel) (pa_cons (pv 3) pa_nil)))))), ?_⟩
  have cp := cst_pos e
  refine ⟨Nat.zero_le _, fun r nr => ?_⟩
  have ner := D.ne nr
  have D0 := D.new (o := .lst []) nr
  have N0 : NmsAt (upd H r (.lst [])) d g nl nms := N.but ((But.refl d g H).new nr)
  have hr0 : (upd H r (.lst [])) r = some (.lst []) := upd_same
  have B0 : But d g H (upd H r (.lst [])) := (But.refl d g H).new nr
  generalize upd H r (.lst []) = H0 at D0 N0 hr0 B0 ⊢
  refine ⟨_, rfl, d, g, 4, n, rfl, D0, by decide, by decide, by omega, fun m H1 m0 m1 D1 B1 => ⟨_, rfl, by omega, by omega, for_range (lo := 0) (n := m.toNat) (Pgiv d g nl r k n nms e H) ?_ ?_ ?_⟩⟩
  · exact ⟨[], [], [], [], none, rfl, B0.trans B1, D1.le (by simp), N0.but B1, B1 _ _ ner.1 ner.2 hr0, .nil, .nil, fun x hx => (nomatch hx)⟩
  · rintro i σ H2 hi ⟨qs, ps, ns, ts, u4, rfl, b2, D2, N2, hr2, ha, hw, hs⟩
    have i3 : i < 3 := by omega
    have im : (i : Int) * (1 + cst e) ≤ 2 * (1 + cst e) := Int.mul_le_mul_of_nonneg_right (by omega) (by omega)
    have np := N2.pos
    have nle := N2.le
    refine ⟨_, rfl, tyL hr2, _, rfl, _, rfl, _, rfl, nl, _, rfl, .inl (SqL.of N2.at_), d, g, _, _, rfl, D2, by rw [List.length_map]; omega, by rw [List.length_map]; omega, by omega, fun y H3 y0 y1 D3 B3 => ?_⟩
    have N3 := N2.but B3
    obtain ⟨x, hx, x8⟩ := N3.pick y0 (by rw [List.length_map] at y1; exact y1)
    refine ⟨_, _, _, _, rfl, rfl, SqL.of N3.at_, hx, _, rfl, _, rfl, _, _, rfl, rfl, _, rfl, d, g, nl, _, _, nms, rfl, he, hk, D3, by omega, N3, fun v t H4 hd D4 B4 => ⟨(by show 2 ≤ sizeLine; decide), fun T nT => ?_⟩⟩
    have hr4 := B4 _ _ ner.1 ner.2 (B3 _ _ ner.1 ner.2 hr2)
    have b4 := (b2.trans B3).trans B4
    have T24 : Tups H2 H4 := (D2.tups B3).trans (D3.tups B4)
    have N4 := N3.but B4
    have s5 := same_new nT (.tup [.str x, v])
    have b5 := b4.new (o := .tup [.str x, v]) nT
    have D5 := D4.new (o := .tup [.str x, v]) nT
    have hT5 : (upd H4 T (.tup [.str x, v])) T = some (.tup [.str x, v]) := upd_same
    have hr5 := s5 _ _ hr4
    have N5 : NmsAt (upd H4 T (.tup [.str x, v])) d g nl nms := N4.but ((But.refl d g H4).new nT)
    generalize upd H4 T (.tup [.str x, v]) = H5 at s5 b5 D5 hT5 hr5 N5 ⊢
    have T5 : Tups H2 H5 := T24.trans (Tups.of_same s5)
    have qlen : qs.length = i := by
      have a := ha.len.1
      have b := hw.at_.len
      have c := hw.len
      omega
    refine ⟨r, qs, .ref T, rfl, rfl, hr5, line5 (by omega), ?_⟩
    have T6 : Tups H5 (upd H5 r (.lst (qs ++ [.ref T]))) := Tups.upd hr5
    have nnr : nl ≠ r := fun z => by
      have h1 := N.at_
      rw [z, nr] at h1
      cases h1
    refine ⟨qs ++ [.ref T], ps ++ [v], ns ++ [x], ts ++ [t], _, rfl, b5.atNew nr, (D5.le ?_).at ner.1 ner.2, ⟨N5.nd, N5.ng, by rw [upd_ne nnr]; exact N5.at_, N5.pos, N5.le, N5.sh⟩, upd_same, ((ha.mono (T5.trans T6)).app (T6 _ _ hT5)), ((hw.mono (T5.trans T6)).snoc (hd.mono ((Tups.of_same s5).trans T6))), fun z hz => ?_⟩
    · rw [show (((i + 1 : Nat) : Int)) = (i : Int) + 1 from rfl, Int.add_mul, Int.one_mul]
      omega
    · rcases List.mem_append.mp hz with hz | hz
      · exact hs z hz
      · rw [List.mem_singleton.mp hz]
        exact x8
  · rintro σ H2 ⟨qs, ps, ns, ts, u4, rfl, b2, D2, N2, hr2, ha, hw, hs⟩
    have m3 : m.toNat ≤ 3 := by omega
    have im : (m.toNat : Int) * (1 + cst e) ≤ 3 * (1 + cst e) := Int.mul_le_mul_of_nonneg_right (by omega) (by omega)
    refine ⟨_, rfl, r, qs, rfl, .inl ⟨SqL.of hr2, fun a na => ?_⟩⟩
    have T3 : Tups H2 (upd H2 a (.tup qs)) := Tups.of_same (same_new na _)
    refine q a qs ps ns ts _ upd_same (ha.mono T3) (hw.at_.mono T3) hs hw.small (Nat.le_trans hw.size (Nat.mul_le_mul_right _ m3)) hw.depth ((D2.new na).le ?_) (b2.new na)
    omega
end
end My
namespace My
open PySem L2
section
variable {P : Program} {w : World} {K : PySem.W.Frag} {mg : Str → Option Value} {base : Heap} {f : Addr} {fd : FuncData} {fg : Addr} {fdg : FuncData}
theorem drawn_up {H : Hp} {v : V} {t : Tm} {e : Nat} (h : Drawn H v t 0) : Drawn H v t e :=
  ⟨h.at_, h.small, Nat.le_trans h.size (by rw [Nat.pow_zero]; exact Nat.one_le_pow e 4 (by decide)), Nat.le_trans h.depth (by omega)⟩
def Ptms (d g D8 : Addr) (n : Int) (e : Nat) (nl : Addr) (nms : List Str) (H0 : Hp) (i : Nat) (H : Hp) : Prop := But d g H0 H ∧ Tray H d g (n + (i : Int) * cst e) ∧ NmsAt H d g nl nms ∧ ∃ ps ts, H D8 = some (.lst ps) ∧ Row H e ps ts i
theorem ok_term (B : Bn mg) (F : Fun K "_law_term" "_law_term" s__law_term f fd) (hm : mg "_law_term" = some (.ref f)) (hb : Binds K fd ["tray", "deep", "names"] [])
    (Fg : Fun K "_law_given" "_law_given" s__law_given fg fdg) (hmg : mg "_law_given" = some (.ref fg)) (hbg : Binds K fdg ["tray", "deep", "names"] [])
    (c__law_draw : Cal P w K mg base "_law_draw" 1 ["tray", "many"] spDraw) (c__law_plain_term : Cal P w K mg base "_law_plain_term" 3 ["tray"] spPlainT) : ∀ e : Nat, FnOk P w K mg base CX0 (2 * e + 5) f fd ["tray", "deep", "names"] (spTm e)
  | 0 => by
    have no : ∀ vs H Q E, ¬ spTm 0 vs H Q E := fun vs H Q E h => by
      obtain ⟨d, g, nl, n, k, nms, _, h, _⟩ := h
      omega
    exact ⟨fun vs H Q E h => absurd h (no vs H Q E), fun A outer s H args us vs Q E _ _ _ _ h => absurd h (no vs H Q E)⟩
  | e + 1 => by
    have c__law_term : Cal P w K mg base "_law_term" (2 * e + 5) ["tray", "deep", "names"] (spTm e) := ⟨f, fd, ok_term B F hm hb Fg hmg hbg c__law_draw c__law_plain_term e, hm, F.kp, hb⟩
    have c__law_given : Cal P w K mg base "_law_given" (2 * e + 6) ["tray", "deep", "names"] (spGiv e) := ⟨fg, fdg, ok_given B Fg c__law_draw (by omega) c__law_term, hmg, Fg.kp, hbg⟩
    refine F.ok (k := 2 * e + 6) sc__law_term (fun vs H Q E h => ?_) (fun cdv A outer s H vs Q E hr h => ?_)
    · obtain ⟨d, g, nl, n, k, nms, rfl, _⟩ := h
      rfl
    obtain ⟨d, g, nl, n, k, nms, rfl, he, hk, D, hn, N, q⟩ := h
    refine ⟨_, (pss_cons (ps_set (i := 3) sc__law_term.nd rfl (Or.inl rfl) (pc c__law_draw (hr.mono (by first | decide | omega)) (pa_cons (pv 0) (pa_cons pe_int pa_nil))))
    (pss_cons (ps_if (PW.pt (pw_or (pt_cmpR op_lt (pv 1) pe_int (nomark _)) (pw_or1 (pt_cmpR op_lt (pv 3) pe_int (nomark _))))) (pss_one (ps_ret (pc c__law_plain_term (hr.mono (by first | decide | omega)) (pa_cons (pv 0) pa_nil)))) pss_nil)
    (pss_cons (ps_set (i := 4) sc__law_term.nd rfl (Or.inl rfl) (pe_ix (ixL K rfl) (pv 2) (pc c__law_draw (hr.mono (by first | decide | omega)) (pa_cons (pv 0) (pa_cons (pe_callB (lenSeq K rfl) (by rfl) B.b_len PySem.boot_len (pa_cons (pv 2) pa_nil)) pa_nil))) (fun _ _ => rfl)))
    (pss_cons (ps_set (i := 5) sc__law_term.nd rfl (Or.inl rfl) (pe_ix (ixL K rfl) (pv 2) (pc c__law_draw (hr.mono (by first | decide | omega)) (pa_cons (pv 0) (pa_cons (pe_callB (lenSeq K rfl) (by rfl) B.b_len PySem.boot_len (pa_cons (pv 2) pa_nil)) pa_nil))) (fun _ _ => rfl)))
    (pss_cons (ps_if (pt_cmpR op_lt (pv 3) pe_int (nomark _)) (pss_one (ps_ret (pe_tup (pa_cons (pe_ix (ixL K rfl) (pe_lst (pa_cons pe_str (pa_cons pe_str pa_nil))) (pe_op op_sub (pv 3) pe_int) (fun _ _ => rfl)) (pa_cons (pv 4) (pa_cons (pc c__law_given (hr.mono (by first | decide | omega)) (pa_cons (pv 0) (pa_cons (pv 1) (pa_cons (pv 2) pa_nil)))) pa_nil)))))) pss_nil)
    (pss_cons (ps_if (pt_cmpR op_eq (pv 3) pe_int (nomark _)) (pss_one (ps_ret (pe_tup (pa_cons pe_str (pa_cons (pv 4) (pa_cons (pv 5) (pa_cons (pe_op op_sub (pc c__law_draw (hr.mono (by first | decide | omega)) (pa_cons (pv 0) (pa_cons pe_int pa_nil))) pe_int) (pa_cons (pc c__law_given (hr.mono (by first | decide | omega)) (pa_cons (pv 0) (pa_cons (pv 1) (pa_cons (pv 2) pa_nil)))) pa_nil)))))))) pss_nil)
    (pss_cons (ps_if (PW.pt (pw_and (pt_cmpR op_eq (pv 3) pe_int (nomark _)) (pw_and1 (pt_cmpR op_eq (pc c__law_draw (hr.mono (by first | decide | omega)) (pa_cons (pv 0) (pa_cons pe_int pa_nil))) pe_int (nomark _))))) (pss_one (ps_ret (pe_tup (pa_cons pe_str (pa_cons (pv 4) (pa_cons (pv 5) (pa_cons pe_non pa_nil))))))) pss_nil)
    (pss_cons (ps_set (i := 6) sc__law_term.nd rfl (Or.inl rfl) (pc c__law_term (hr.mono (by first | decide | omega)) (pa_cons (pv 0) (pa_cons (pe_op op_sub (pv 1) pe_int) (pa_cons (pv 2) pa_nil)))))
    (pss_cons (ps_if (pt_cmpR op_eq (pv 3) pe_int (nomark _)) (pss_one (ps_ret (pe_tup (pa_cons pe_str (pa_cons (pv 4) (pa_cons (pv 5) (pa_cons (pv 6) pa_nil))))))) pss_nil)
    (pss_cons (ps_if (pt_cmpR op_lt (pv 3) pe_int (nomark _)) (pss_one (ps_ret (pe_tup (pa_cons (pe_ix (ixL K rfl) (pe_lst (pa_cons pe_str (pa_cons pe_str pa_nil))) (pe_op op_sub (pv 3) pe_int) (fun _ _ => rfl)) (pa_cons (pv 4) (pa_cons (pv 6) pa_nil)))))) pss_nil)
    (pss_cons (ps_if (pt_cmpR op_eq (pv 3) pe_int (nomark _)) (pss_one (ps_ret (pe_tup (pa_cons pe_str (pa_cons (pe_callTy (tupleOf K rfl) (by rfl) B.b_tuple (by decide +kernel) (pa_cons (pe_slice (slL K rfl) (pe_lst (pa_cons (pv 4) (pa_cons (pv 5) pa_nil))) po_none (po_some (pc c__law_draw (hr.mono (by first | decide | omega)) (pa_cons (pv 0) (pa_cons pe_int pa_nil))))) pa_nil)) (pa_cons (pv 6) pa_nil)))))) pss_nil)
    (pss_cons (ps_if (pt_cmpR op_eq (pv 3) pe_int (nomark _)) (pss_one (ps_ret (pe_tup (pa_cons pe_str (pa_cons (pv 6) pa_nil))))) pss_nil)
    (pss_cons (ps_if (pt_cmpR op_eq (pv 3) pe_int (nomark _)) (pss_one (ps_ret (pe_tup (pa_cons pe_str (pa_cons (pc c__law_draw (hr.mono (by first | decide | omega)) (pa_cons (pv 0) (pa_cons pe_int pa_nil))) (pa_cons (pv 6) pa_nil)))))) pss_nil)
    (pss_one (ps_ret (pe_tup (pa_cons pe_str (pa_cons (pv 6) (pa_cons (pe_callTy (tupleOf K rfl) (by rfl) B.b_tuple (by decide +kernel) (pa_cons (pe_lc (own := [("k", 7)]) (g := (gName 7)) rfl sc__law_term.nd (pi_range1 rfl B.b_range (pa_cons (pc c__law_draw (hr.mono (by first | decide | omega)) (pa_cons (pv 0) (pa_cons pe_int pa_nil))) pa_nil)) (blkOk_by (N := ["tray", "deep", "names", "way", "one", "other", "part", "k"]) (sc := defScope s__law_term) (by decide +kernel)) (fun _ _ _ _ _ => (pg_name (i := 7) sc__law_term.nd rfl (Or.inl rfl) (hf := Or.inr rfl))) (fun _ _ _ _ _ => pts_nil) (fun _ _ _ _ _ => (pc c__law_term (hr.mono (by first | decide | omega)) (pa_cons (pv 0) (pa_cons (pe_op op_sub (pv 1) pe_int) (pa_cons (pv 2) pa_nil)))))) pa_nil)) pa_nil))))))))))))))))))), ?_⟩
    have cp := cst_pos e
    have cs := cst_succ e
    refine seq_set ?_
    refine ⟨_, rfl, d, g, 12, n, rfl, D, by decide, by decide, by omega, fun way H1 w0 w1 D1 B1 => ?_⟩
    have N1 := N.but B1
    have plain : ∀ (Q' : VK), (∀ v H', Q v H' → Q' v H') → spPlainT [.ref d] H1 Q' E0 := fun Q' k => ⟨d, g, _, rfl, D1, by omega, fun v t H2 hd D2 B2 => k _ _ (q v t H2 (drawn_up hd) (D2.le (by omega)) (B1.trans B2))⟩
    refine ⟨_, rfl, _, _, rfl, rfl, _, rfl, ite2 (fun _ => ⟨_, rfl, plain _ fun v H' h => h⟩) (fun c2 => ⟨_, rfl, _, _, rfl, rfl, _, rfl, ite2 (fun _ => ⟨_, rfl, plain _ fun v H' h => h⟩) (fun c3 => ?_)⟩)⟩
    clear plain
    have hk2 : ¬ k < 2 := fun h => c2 (decide_eq_true h)
    have hw2 : ¬ way < 2 := fun h => c3 (decide_eq_true h)
    have hk' : k - 1 ≤ (e : Int) := by omega
    have he1 : 1 ≤ e := by omega
    clear c2 c3
    refine ⟨_, rfl, _, rfl, _, rfl, nl, _, rfl, .inl (SqL.of N1.at_), d, g, _, _, rfl, D1, by rw [List.length_map]; have := N.pos; omega, by rw [List.length_map]; have := N.le; omega, by omega, fun y2 H2 y20 y21 D2 B2 => ?_⟩
    have N2 := N1.but B2
    obtain ⟨one, ho, o8⟩ := N2.pick y20 (by rw [List.length_map] at y21; exact y21)
    refine ⟨_, _, _, _, rfl, rfl, SqL.of N2.at_, ho, ?_⟩
    refine ⟨_, rfl, _, rfl, _, rfl, nl, _, rfl, .inl (SqL.of N2.at_), d, g, _, _, rfl, D2, by rw [List.length_map]; have := N.pos; omega, by rw [List.length_map]; have := N.le; omega, by omega, fun y3 H3 y30 y31 D3 B3 => ?_⟩
    have N3 := N2.but B3
    obtain ⟨other, hot, t8⟩ := N3.pick y30 (by rw [List.length_map] at y31; exact y31)
    refine ⟨_, _, _, _, rfl, rfl, SqL.of N3.at_, hot, ?_⟩
    have b3 := (B1.trans B2).trans B3
    have D3 : Tray H3 d g (n + 3) := D3.le (by omega)
    clear ho hot y20 y21 y30 y31 D1 D2 N1 N2 B1 B2 B3
    refine ⟨_, rfl, _, _, rfl, rfl, _, rfl, ite2 (fun c4 => ?_) (fun c4 => ?_)⟩
    · have c4 := of_decide_eq_true c4
      refine ⟨(by show 2 ≤ sizeLine; decide), fun l nl' => ?_⟩
      have bl := b3.new (o := .lst [.str "call", .str "make"]) nl'
      have Dl := D3.new (o := .lst [.str "call", .str "make"]) nl'
      have hl : (upd H3 l (.lst [.str "call", .str "make"])) l = some (.lst [.str "call", .str "make"]) := upd_same
      generalize upd H3 l (.lst [.str "call", .str "make"]) = H4 at bl Dl hl ⊢
      rcases (by omega : way = 2 ∨ way = 3) with rfl | rfl
      · refine ⟨_, rfl, _, _, rfl, rfl, _, _, _, _, rfl, rfl, SqL.of hl, at_of (j := 0) rfl rfl, _, rfl, _, rfl, _, rfl, _, rfl, d, g, nl, _, k, nms, rfl, he1, hk', Dl, by omega, N.but bl, fun a qs ps ns ts H5 h1 h2 h3 h4 h5 h6 h7 D5 b5 => ⟨(by show 3 ≤ sizeLine; decide), fun p np => ?_⟩⟩
        have T := Tups.of_same (same_new np (.tup [.str "call", .str one, .ref a]))
        exact q _ _ _ (drawn_node (.call upd_same (T _ _ h1) (h2.mono T)) ⟨o8, h4⟩ (h3.mono T) h5 h6 h7) ((D5.new np).le (by omega)) ((bl.trans b5).new np)
      · refine ⟨_, rfl, _, _, rfl, rfl, _, _, _, _, rfl, rfl, SqL.of hl, at_of (j := 1) rfl rfl, _, rfl, _, rfl, _, rfl, _, rfl, d, g, nl, _, k, nms, rfl, he1, hk', Dl, by omega, N.but bl, fun a qs ps ns ts H5 h1 h2 h3 h4 h5 h6 h7 D5 b5 => ⟨(by show 3 ≤ sizeLine; decide), fun p np => ?_⟩⟩
        have T := Tups.of_same (same_new np (.tup [.str "make", .str one, .ref a]))
        exact q _ _ _ (drawn_node (.make upd_same (T _ _ h1) (h2.mono T)) ⟨o8, h4⟩ (h3.mono T) h5 h6 h7) ((D5.new np).le (by omega)) ((bl.trans b5).new np)
    have c4 : ¬ way < 4 := fun h => c4 (decide_eq_true h)
    refine ⟨_, rfl, rfl, _, rfl, ite2 (fun _ => ?_) (fun c5 => ?_)⟩
    · refine ⟨_, rfl, _, rfl, _, rfl, d, g, 4, _, rfl, D3, by decide, by decide, by omega, fun i H4 i0 i1 D4 B4 => ⟨_, _, rfl, rfl, _, rfl, _, rfl, _, rfl, d, g, nl, _, k, nms, rfl, he1, hk', D4, by omega, N.but (b3.trans B4), fun a qs ps ns ts H5 h1 h2 h3 h4 h5 h6 h7 D5 b5 => ⟨(by show 5 ≤ sizeLine; decide), fun p np => ?_⟩⟩⟩
      have T := Tups.of_same (same_new np (.tup [.str "handed", .str one, .str other, .int (i - 1), .ref a]))
      have sm : (i - 1).natAbs < 10 ^ 62 := Nat.lt_of_lt_of_le (m := 10) (by omega) (by decide)
      exact q _ _ _ (drawn_node (.handed upd_same (T _ _ h1) (h2.mono T)) ⟨o8, t8, sm, h4⟩ (h3.mono T) h5 h6 h7) ((D5.new np).le (by omega)) (((b3.trans B4).trans b5).new np)
    have c5 : way ≠ 4 := fun h => c5 (by rw [h]; rfl)
    dsimp only [tNext]
    refine seq_abs (fun σ' H' => σ' = [some (.ref d), some (.int k), some (.ref nl), some (.int way), some (.str one), some (.str other), none, none] ∧ But d g H H' ∧ Tray H' d g (n + 4)) ?_ ?_
    rotate_left
    · intro nx hnx
      refine ⟨_, rfl, rfl, _, rfl, ite2 (fun _ => ⟨_, rfl, d, g, 2, _, rfl, D3, by decide, by decide, by omega, fun b H4 b0 b1 D4 B4 => ⟨rfl, _, rfl, ite2 (fun _ => ?_) (fun _ => hnx _ _ ⟨rfl, b3.trans B4, D4.le (by omega)⟩)⟩⟩) (fun _ => hnx _ _ ⟨rfl, b3, D3.le (by omega)⟩)⟩
      refine ⟨_, rfl, _, rfl, (by show 4 ≤ sizeLine; decide), fun p np => ?_⟩
      exact q _ _ _ (drawn_leaf (.bare upd_same) ⟨o8, t8⟩) ((D4.new np).le (by omega)) ((b3.trans B4).new np)
    rintro σ' H4 ⟨rfl, b4, D4⟩
    clear D3 N3 b3
    have N4 := N.but b4
    refine ⟨_, rfl, _, rfl, _, _, rfl, rfl, _, rfl, d, g, nl, _, _, nms, rfl, he1, hk', D4, by omega, N4, fun u t H5 hd D5 B5 => ?_⟩
    have b5 := b4.trans B5
    have N5 := N4.but B5
    obtain ⟨b, xs, rfl, hb⟩ := hd.at_.ref
    have sn : ∀ {G : Hp} {p : Addr} (o : HO), G p = none → Tups G (upd G p o) := fun o np => Tups.of_same (same_new np o)
    refine ⟨_, rfl, rfl, _, rfl, ite2 (fun _ => ?_) (fun c6 => ?_)⟩
    · refine ⟨_, rfl, _, rfl, _, rfl, (by show 4 ≤ sizeLine; decide), fun p np => ?_⟩
      exact q _ _ _ (drawn_one (.case upd_same) ⟨o8, t8⟩ (hd.mono (sn _ np))) ((D5.new np).le (by omega)) (b5.new np)
    have c6 : way ≠ 5 := fun h => c6 (by rw [h]; rfl)
    refine ⟨_, rfl, _, _, rfl, rfl, _, rfl, ite2 (fun c8 => ?_) (fun c8 => ?_)⟩
    · have c8 := of_decide_eq_true c8
      refine ⟨(by show 2 ≤ sizeLine; decide), fun l nl' => ?_⟩
      have bl := b5.new (o := .lst [.str "get", .str "as"]) nl'
      have Dl := D5.new (o := .lst [.str "get", .str "as"]) nl'
      have Tl := sn (.lst [.str "get", .str "as"]) nl'
      have hl : (upd H5 l (.lst [.str "get", .str "as"])) l = some (.lst [.str "get", .str "as"]) := upd_same
      generalize upd H5 l (.lst [.str "get", .str "as"]) = H6 at bl Dl hl Tl ⊢
      rcases (by omega : way = 6 ∨ way = 7) with rfl | rfl
      · refine ⟨_, rfl, _, _, rfl, rfl, _, _, _, _, rfl, rfl, SqL.of hl, at_of (j := 0) rfl rfl, _, rfl, _, rfl, (by show 3 ≤ sizeLine; decide), fun p np => ?_⟩
        exact q _ _ _ (drawn_one (.get upd_same) o8 (hd.mono (Tl.trans (sn _ np)))) ((Dl.new np).le (by omega)) (bl.new np)
      · refine ⟨_, rfl, _, _, rfl, rfl, _, _, _, _, rfl, rfl, SqL.of hl, at_of (j := 1) rfl rfl, _, rfl, _, rfl, (by show 3 ≤ sizeLine; decide), fun p np => ?_⟩
        exact q _ _ _ (drawn_one (.as_ upd_same) o8 (hd.mono (Tl.trans (sn _ np)))) ((Dl.new np).le (by omega)) (bl.new np)
    refine ⟨_, rfl, rfl, _, rfl, ite2 (fun _ => ?_) (fun _ => ?_)⟩
    · refine ⟨_, rfl, _, rfl, (by show 2 ≤ sizeLine; decide), fun l nl' => ?_⟩
      have bl := b5.new (o := .lst [.str one, .str other]) nl'
      have Dl := D5.new (o := .lst [.str one, .str other]) nl'
      have Tl := sn (.lst [.str one, .str other]) nl'
      have hl : (upd H5 l (.lst [.str one, .str other])) l = some (.lst [.str one, .str other]) := upd_same
      have nel := D5.ne nl'
      generalize upd H5 l (.lst [.str one, .str other]) = H6 at bl Dl hl Tl ⊢
      refine ⟨_, rfl, d, g, 3, _, rfl, Dl, by decide, by decide, by omega, fun r H7 r0 r1 D7 B7 => ⟨_, rfl, _, _, rfl, SqL.of (B7 _ _ nel.1 nel.2 hl), fun l2 nl2 => ?_⟩⟩
      obtain ⟨ys, ey, hy⟩ : ∃ ys : List Str, cutV [V.str one, V.str other] none (some r) = ys.map V.str ∧ (ys.length ≤ 8 ∧ ∀ y ∈ ys, y.length ≤ 8) := by
        rcases (by omega : r = 0 ∨ r = 1 ∨ r = 2) with rfl | rfl | rfl
        · exact ⟨[], rfl, by decide, fun y hy => (nomatch hy)⟩
        · exact ⟨[one], rfl, by show 1 ≤ 8; decide, fun y hy => by rw [List.mem_singleton.mp hy]; exact o8⟩
        · refine ⟨[one, other], rfl, by show 2 ≤ 8; decide, fun y hy => ?_⟩
          rcases List.mem_cons.mp hy with rfl | hy
          · exact o8
          · rw [List.mem_singleton.mp hy]
            exact t8
      rw [ey]
      have b8 := (bl.trans B7).new (o := .lst (ys.map V.str)) nl2
      have D8 := D7.new (o := .lst (ys.map V.str)) nl2
      have T8 := (Tl.trans (Dl.tups B7)).trans (sn (.lst (ys.map V.str)) nl2)
      have h8 : (upd H7 l2 (.lst (ys.map V.str))) l2 = some (.lst (ys.map V.str)) := upd_same
      generalize upd H7 l2 (.lst (ys.map V.str)) = H8 at b8 D8 T8 h8 ⊢
      refine ⟨l2, _, rfl, .inl ⟨SqL.of h8, fun l3 nl3 => ⟨_, rfl, (by show 3 ≤ sizeLine; decide), fun p np => ?_⟩⟩⟩
      have T9 := sn (.tup (ys.map V.str)) nl3
      have T10 := sn (.tup [.str "look", .ref l3, .ref b]) np
      exact q _ _ _ (drawn_one (.look upd_same (T10 _ _ upd_same)) hy (hd.mono ((T8.trans T9).trans T10))) (((D8.new nl3).new np).le (by omega)) ((b8.new nl3).new np)
    refine ⟨_, rfl, rfl, _, rfl, ite2 (fun _ => ?_) (fun _ => ?_)⟩
    · refine ⟨_, rfl, (by show 2 ≤ sizeLine; decide), fun p np => ?_⟩
      exact q _ _ _ (drawn_one (.one upd_same) trivial (hd.mono (sn _ np))) ((D5.new np).le (by omega)) (b5.new np)
    refine ⟨_, rfl, rfl, _, rfl, ite2 (fun _ => ?_) (fun _ => ?_)⟩
    · refine ⟨_, rfl, d, g, 4, _, rfl, D5, by decide, by decide, by omega, fun i H6 i0 i1 D6 B6 => ⟨_, rfl, (by show 3 ≤ sizeLine; decide), fun p np => ?_⟩⟩
      have sm : i.natAbs < 10 ^ 62 := Nat.lt_of_lt_of_le (m := 10) (by omega) (by decide)
      exact q _ _ _ (drawn_one (.answer upd_same) sm (hd.mono ((D5.tups B6).trans (sn _ np)))) ((D6.new np).le (by omega)) ((b5.trans B6).new np)
    refine ⟨_, rfl, _, rfl, d, g, 3, _, rfl, D5, by decide, by decide, by omega, fun m H6 m0 m1 D6 B6 => ⟨_, rfl, by omega, by omega, fun D8 hD8 => ?_⟩⟩
    have ne8 := D6.ne hD8
    refine lc_range (lo := 0) (n := m.toNat) (Ptms d g D8 (n + 5 + cst e) e nl nms H6) ?_ ?_ ?_
    · exact ⟨(But.refl d g H6).new hD8, (D6.le (by simp; omega)).new hD8, (N5.but B6).but ((But.refl d g H6).new hD8), [], [], upd_same, .nil⟩
    · rintro i H7 hi ⟨b7, D7, N7, ps, ts, hp, hw⟩
      have im : (i : Int) * cst e ≤ 1 * cst e := Int.mul_le_mul_of_nonneg_right (by omega) (by omega)
      refine ⟨rfl, _, rfl, _, rfl, _, _, rfl, rfl, _, rfl, d, g, nl, _, _, nms, rfl, he1, hk', D7, by omega, N7, fun v t' H8 hd' D9 B9 => ?_⟩
      have lps : ps.length = i := hw.at_.len.trans hw.len
      have hp8 := B9 _ _ ne8.1 ne8.2 hp
      have T8 := (D7.tups B9).trans (Tups.upd (o := .lst (ps ++ [v])) hp8)
      have nnr : nl ≠ D8 := fun z => by
        have h1 := (N5.but B6).at_
        rw [z, hD8] at h1
        cases h1
      have N8 := N7.but B9
      refine ⟨ps, hp8, line5 (by omega), (b7.trans B9).atNew hD8, (D9.le ?_).at ne8.1 ne8.2, ⟨N8.nd, N8.ng, by rw [upd_ne nnr]; exact N8.at_, N8.pos, N8.le, N8.sh⟩, _, _, upd_same, (hw.mono T8).snoc (hd'.mono (Tups.upd hp8))⟩
      rw [show (((i + 1 : Nat) : Int)) = (i : Int) + 1 from rfl, Int.add_mul, Int.one_mul]
      omega
    rintro H7 ⟨b7, D7, N7, ps, ts, hp, hw⟩
    have m3 : m.toNat ≤ 2 := by omega
    have im : (m.toNat : Int) * cst e ≤ 2 * cst e := Int.mul_le_mul_of_nonneg_right (by omega) (by omega)
    refine ⟨D8, ps, rfl, .inl ⟨SqL.of hp, fun l3 nl3 => ⟨(by show 3 ≤ sizeLine; decide), fun p np => ?_⟩⟩⟩
    have T9 := sn (.tup ps) nl3
    have T10 := sn (.tup [.str "ask", .ref b, .ref l3]) np
    have T7 := ((D5.tups B6).trans (D6.tups b7)).trans (T9.trans T10)
    have sz := hw.size
    have sz2 : m.toNat * 4 ^ e ≤ 2 * 4 ^ e := Nat.mul_le_mul_right _ m3
    have hz := hd.size
    have dz := hd.depth
    have dw := hw.depth
    refine q _ _ _ (drawn_node (.ask upd_same (T10 _ _ upd_same)) trivial (.cons (hd.at_.mono T7) (hw.at_.mono (T9.trans T10))) ⟨hd.small, hw.small⟩ ?_ ?_) (((D7.new nl3).new np).le (by omega)) ((((b5.trans B6).trans b7).new nl3).new np)
    · simp only [Tm.sizes]
      omega
    · simp only [Tm.depths]
      omega
end
end My
namespace My
open PySem L2
theorem new_of {H H' : Hp} {p : Addr} {o : HO} (n : H p = none) (e : upd H p o = H') : H' p = some o ∧ Same H H' := by
  subst e
  exact ⟨upd_same, same_new n o⟩
def spChain : Sp := fun vs H Q _ => ∃ (d g nl : Addr) (n : Int) (nms : List Str), vs = [.ref d, .ref nl] ∧ Tray H d g n ∧ n + 1000 ≤ 890000 ∧ NmsAt H d g nl nms ∧
  ∀ (v : V) (t : Tm) (H' : Hp), TmAt H' v t → t.small → t.size ≤ 60 → t.depth ≤ 40 → Tray H' d g (n + 1000) → But d g H H' → Q v H'
def Pch (d g nl : Addr) (n : Int) (nms : List Str) (H0 : Hp) (i : Nat) (σ : St) (H : Hp) : Prop := ∃ (v : V) (t : Tm) (u3 u4 u5 u6 : Option V), σ = [some (.ref d), some (.ref nl), some v, u3, u4, u5, u6] ∧ TmAt H v t ∧ t.small ∧ t.size ≤ 16 + i ∧ t.depth ≤ 3 + i ∧ But d g H0 H ∧ Tray H d g (n + 480 + 2 * (i : Int)) ∧ NmsAt H d g nl nms
section
variable {P : Program} {w : World} {K : PySem.W.Frag} {mg : Str → Option Value} {base : Heap} {f : Addr} {fd : FuncData}
theorem ok_chain (B : Bn mg) (F : Fun K "_law_chain" "_law_chain" s__law_chain f fd) (c__law_draw : Cal P w K mg base "_law_draw" 1 ["tray", "many"] spDraw) (c__law_term : Cal P w K mg base "_law_term" 9 ["tray", "deep", "names"] (spTm 2)) : FnOk P w K mg base CX0 10 f fd ["tray", "names"] spChain := by
  refine F.ok sc__law_chain (fun vs H Q E h => ?_) (fun cdv A outer s H vs Q E hr h => ?_)
  · obtain ⟨d, g, nl, n, nms, rfl, _⟩ := h
    rfl
  obtain ⟨d, g, nl, n, nms, rfl, D, hn, N, q⟩ := h
  refine ⟨_, (pss_cons (ps_set (i := 2) sc__law_chain.nd rfl (Or.inl rfl) (pc c__law_term (hr.mono (by first | decide | omega)) (pa_cons (pv 0) (pa_cons pe_int (pa_cons (pv 1) pa_nil)))))
    (pss_cons (ps_for PassesOwn.never rfl (pi_range1 rfl B.b_range (pa_cons pe_int pa_nil)) (pg_name (i := 3) sc__law_chain.nd rfl (Or.inl rfl)) (pss_cons (ps_set (i := 4) sc__law_chain.nd rfl (Or.inl rfl) (pc c__law_draw (hr.mono (by first | decide | omega)) (pa_cons (pv 0) (pa_cons pe_int pa_nil))))
    (pss_cons (ps_set (i := 5) sc__law_chain.nd rfl (Or.inl rfl) (pe_ix (ixL K rfl) (pv 1) (pc c__law_draw (hr.mono (by first | decide | omega)) (pa_cons (pv 0) (pa_cons (pe_callB (lenSeq K rfl) (by rfl) B.b_len PySem.boot_len (pa_cons (pv 1) pa_nil)) pa_nil))) (fun _ _ => rfl)))
    (pss_cons (ps_set (i := 6) sc__law_chain.nd rfl (Or.inl rfl) (pe_lst (pa_cons (pe_tup (pa_cons pe_str (pa_cons (pv 5) (pa_cons (pv 2) pa_nil)))) (pa_cons (pe_tup (pa_cons pe_str (pa_cons (pv 2) pa_nil))) (pa_cons (pe_tup (pa_cons pe_str (pa_cons (pv 5) (pa_cons (pv 2) pa_nil)))) (pa_cons (pe_tup (pa_cons pe_str (pa_cons (pv 3) (pa_cons (pv 2) pa_nil)))) (pa_cons (pe_tup (pa_cons pe_str (pa_cons (pv 2) (pa_cons (pe_tup pa_nil) pa_nil)))) pa_nil)))))))
    (pss_cons (ps_set (i := 6) sc__law_chain.nd rfl (Or.inl rfl) (pe_op op_cat (pv 6) (pe_lst (pa_cons (pe_tup (pa_cons pe_str (pa_cons (pe_tup pa_nil) (pa_cons (pv 2) pa_nil)))) (pa_cons (pe_tup (pa_cons pe_str (pa_cons (pv 5) (pa_cons (pe_tup (pa_cons (pe_tup (pa_cons (pv 5) (pa_cons (pv 2) pa_nil))) pa_nil)) pa_nil)))) pa_nil)))))
    (pss_one (ps_set (i := 2) sc__law_chain.nd rfl (Or.inl rfl) (pe_ix (ixL K rfl) (pv 6) (pv 4) (fun _ _ => rfl)))))))))
    (pss_one (ps_ret (pv 2))))), ?_⟩
  have c2 : cst 2 = 480 := by decide
  refine ⟨_, rfl, _, rfl, d, g, nl, n, 2, nms, rfl, by decide, by decide, D, by omega, N, fun v t H1 hd D1 B1 => ⟨_, rfl, by decide, by decide, for_range (lo := 0) (n := (28 : Int).toNat) (Pch d g nl n nms H) ?_ ?_ ?_⟩⟩
  · exact ⟨v, t, none, none, none, none, rfl, hd.at_, hd.small, hd.size, hd.depth, B1, D1.le (by simp; omega), N.but B1⟩
  · rintro i σ H2 hi ⟨v, t, u3, u4, u5, u6, rfl, ht, sm, sz, dp, b2, D2, N2⟩
    have hi : i < 28 := hi
    refine ⟨_, rfl, d, g, 7, _, rfl, D2, by decide, by decide, by omega, fun way H3 w0 w1 D3 B3 => ?_⟩
    have N3 := N2.but B3
    refine ⟨_, rfl, _, rfl, _, rfl, nl, _, rfl, .inl (SqL.of N3.at_), d, g, _, _, rfl, D3, by rw [List.length_map]; have := N.pos; omega, by rw [List.length_map]; have := N.le; omega, by omega, fun y H4 y0 y1 D4 B4 => ?_⟩
    have N4 := N3.but B4
    obtain ⟨x, hx, x8⟩ := N4.pick y0 (by rw [List.length_map] at y1; exact y1)
    refine ⟨_, _, _, _, rfl, rfl, SqL.of N4.at_, hx, ?_⟩
    have b4 := (b2.trans B3).trans B4
    have ht4 := ht.mono ((D2.tups B3).trans (D3.tups B4))
    clear hx y0 y1 ht B3 B4 D2 D3 N2 N3 b2
    obtain ⟨b, xs, rfl, hb⟩ := ht4.ref
    refine ⟨_, rfl, _, rfl, (by show 3 ≤ sizeLine; decide), fun p1 n1 => ?_⟩
    generalize hG : upd _ p1 _ = G1
    obtain ⟨a1, s1⟩ := new_of n1 hG
    clear hG
    refine ⟨_, rfl, (by show 2 ≤ sizeLine; decide), fun p2 n2 => ?_⟩
    generalize hG : upd _ p2 _ = G2
    obtain ⟨a2, s2⟩ := new_of n2 hG
    clear hG
    refine ⟨_, rfl, _, rfl, (by show 3 ≤ sizeLine; decide), fun p3 n3 => ?_⟩
    generalize hG : upd _ p3 _ = G3
    obtain ⟨a3, s3⟩ := new_of n3 hG
    clear hG
    refine ⟨_, rfl, _, rfl, (by show 3 ≤ sizeLine; decide), fun p4 n4 => ?_⟩
    generalize hG : upd _ p4 _ = G4
    obtain ⟨a4, s4⟩ := new_of n4 hG
    clear hG
    refine ⟨_, rfl, Nat.zero_le _, fun q5 m5 => ?_⟩
    generalize hG : upd _ q5 _ = G5
    obtain ⟨e5, r5⟩ := new_of m5 hG
    clear hG
    refine ⟨(by show 3 ≤ sizeLine; decide), fun p5 n5 => ?_⟩
    generalize hG : upd _ p5 _ = G6
    obtain ⟨a5, s5⟩ := new_of n5 hG
    clear hG
    refine ⟨(by show 5 ≤ sizeLine; decide), fun l1 nl1 => ?_⟩
    generalize hG : upd _ l1 _ = G7
    obtain ⟨al1, sl1⟩ := new_of nl1 hG
    clear hG
    refine ⟨_, rfl, Nat.zero_le _, fun q6 m6 => ?_⟩
    generalize hG : upd _ q6 _ = G8
    obtain ⟨e6, r6⟩ := new_of m6 hG
    clear hG
    refine ⟨_, rfl, (by show 3 ≤ sizeLine; decide), fun p6 n6 => ?_⟩
    generalize hG : upd _ p6 _ = G9
    obtain ⟨a6, s6⟩ := new_of n6 hG
    clear hG
    refine ⟨_, rfl, _, rfl, _, rfl, (by show 2 ≤ sizeLine; decide), fun q7 m7 => ?_⟩
    generalize hG : upd _ q7 _ = G10
    obtain ⟨e7, r7⟩ := new_of m7 hG
    clear hG
    refine ⟨(by show 1 ≤ sizeLine; decide), fun k7 j7 => ?_⟩
    generalize hG : upd _ k7 _ = G11
    obtain ⟨f7, t7⟩ := new_of j7 hG
    clear hG
    refine ⟨(by show 3 ≤ sizeLine; decide), fun p7 n7 => ?_⟩
    generalize hG : upd _ p7 _ = G12
    obtain ⟨a7, s7⟩ := new_of n7 hG
    clear hG
    refine ⟨(by show 2 ≤ sizeLine; decide), fun l2 nl2 => ?_⟩
    generalize hG : upd _ l2 _ = G13
    obtain ⟨al2, sl2⟩ := new_of nl2 hG
    clear hG
    have s7l := s7.trans sl2
    have st7 := t7.trans s7l
    have sr7 := r7.trans st7
    have ss6 := s6.trans sr7
    have sr6 := r6.trans ss6
    have ssl1 := sl1.trans sr6
    have ss5 := s5.trans ssl1
    have sr5 := r5.trans ss5
    have ss4 := s4.trans sr5
    have ss3 := s3.trans ss4
    have ss2 := s2.trans ss3
    have ss1 := s1.trans ss2
    refine ⟨l1, l2, _, _, rfl, rfl, sr6 _ _ al1, al2, (by show 5 + 2 ≤ sizeLine; decide), fun l3 nl3 => ?_⟩
    generalize hG : upd _ l3 _ = G14
    obtain ⟨al3, sl3⟩ := new_of nl3 hG
    clear hG
    have S := ss1.trans sl3
    have T := Tups.of_same S
    have pick : ∃ (p : Addr) (h : Hd), atI ([V.ref p1, .ref p2, .ref p3, .ref p4, .ref p5] ++ [.ref p6, .ref p7]) way = some (.ref p) ∧ NdAt G14 (.ref p) h [.ref b] ∧ h.small := by
      rcases (by omega : way = 0 ∨ way = 1 ∨ way = 2 ∨ way = 3 ∨ way = 4 ∨ way = 5 ∨ way = 6) with rfl | rfl | rfl | rfl | rfl | rfl | rfl
      · exact ⟨p1, .get x, at_of (j := 0) rfl rfl, .get (sl3 _ _ (ss2 _ _ a1)), x8⟩
      · exact ⟨p2, .one, at_of (j := 1) rfl rfl, .one (sl3 _ _ (ss3 _ _ a2)), trivial⟩
      · exact ⟨p3, .as_ x, at_of (j := 2) rfl rfl, .as_ (sl3 _ _ (ss4 _ _ a3)), x8⟩
      · exact ⟨p4, .answer _, at_of (j := 3) rfl rfl, .answer (sl3 _ _ (sr5 _ _ a4)), Nat.lt_of_lt_of_le (m := 100) (by omega) (by decide)⟩
      · exact ⟨p5, .ask, at_of (j := 4) rfl rfl, .ask (sl3 _ _ (ssl1 _ _ a5)) (sl3 _ _ (ss5 _ _ e5)), trivial⟩
      · exact ⟨p6, .look [], at_of (j := 5) rfl rfl, .look (sl3 _ _ (sr7 _ _ a6)) (sl3 _ _ (ss6 _ _ e6)), by decide, fun y hy => (nomatch hy)⟩
      · exact ⟨p7, .call x [x], at_of (j := 6) rfl rfl, .call (sl3 _ _ (sl2 _ _ a7)) (sl3 _ _ (s7l _ _ f7)) (.cons (sl3 _ _ (st7 _ _ e7)) .nil), x8, fun y hy => by rw [List.mem_singleton.mp hy]; exact x8⟩
    obtain ⟨p, h, hat, nd, hsm⟩ := pick
    refine ⟨_, rfl, _, rfl, _, _, _, _, rfl, rfl, SqL.of al3, hat, ?_⟩
    refine ⟨.ref p, .nd h [t], _, _, _, _, rfl, .nd nd (.cons (ht4.mono T) .nil), ⟨hsm, sm, trivial⟩, ?_, ?_, b4.trans (But.of_same S), (D4.same S).le (by omega), N4.but (But.of_same S)⟩
    · simp only [Tm.size, Tm.sizes]
      omega
    · simp only [Tm.depth, Tm.depths]
      omega
  · rintro σ H2 ⟨v, t, u3, u4, u5, u6, rfl, ht, sm, sz, dp, b2, D2, N2⟩
    have e : ((28 : Int).toNat : Nat) = 28 := rfl
    rw [e] at sz dp D2
    exact ⟨_, rfl, q v t H2 ht sm (by omega) (by omega) (D2.le (by omega)) b2⟩
end
end My
namespace My
open PySem L2
/-- parts_of: a new list of the parts -/
def spParts : Sp := fun vs H Q _ => ∃ (v : V) (h : Hd) (ps : List V), vs = [v] ∧ NdAt H v h ps ∧ ps.length ≤ 100000 ∧
  ∀ (r : Addr) (H' : Hp), H r = none → H' r = some (.lst ps) → Same H H' → Q (.ref r) H'
def Pcol (H0 : Hp) (D : Addr) (ps : List V) (i : Nat) (H : Hp) : Prop := Same H0 H ∧ H D = some (.lst (ps.take i))
section
variable {P : Program} {w : World} {K : PySem.W.Frag} {mg : Str → Option Value} {base : Heap} {f : Addr} {fd : FuncData}
theorem ok_parts (F : Fun K "parts_of" "parts_of" s_parts_of f fd) : FnOk P w K mg base CX0 1 f fd ["term"] spParts := by
  refine F.ok sc_parts_of (fun vs H Q E h => ?_) (fun cdv A outer s H vs Q E hr h => ?_)
  · obtain ⟨v, h, ps, rfl, _⟩ := h
    rfl
  obtain ⟨v, hd, ps, rfl, hn, hl, q⟩ := h
  refine ⟨_, (pss_cons (ps_if (pt_cmpR (inSeq K rfl) (pe_ix (ixT K rfl) (pv 0) pe_int (fun _ _ => rfl)) (pe_tup (pa_cons pe_str (pa_cons pe_str (pa_cons pe_str pa_nil)))) (by rfl)) (pss_one (ps_ret (pe_lst pa_nil))) pss_nil)
    (pss_cons (ps_if (pt_cmpR (inSeq K rfl) (pe_ix (ixT K rfl) (pv 0) pe_int (fun _ _ => rfl)) (pe_tup (pa_cons pe_str (pa_cons pe_str (pa_cons pe_str pa_nil)))) (by rfl)) (pss_one (ps_ret (pe_lc (own := [("_", 1), ("part", 2)]) (g := (gTup K 2 (gCons (gName 1) (gCons (gName 2) gNil)))) rfl sc_parts_of.nd (piT K rfl (pe_ix (ixT K rfl) (pv 0) (pe_un un_neg pe_int) (fun _ _ => rfl))) (blkOk_by (N := ["term", "_", "part"]) (sc := defScope s_parts_of) (by decide +kernel)) (fun _ _ _ _ _ => (pg_tup rfl (pgs_cons (pg_name (i := 1) sc_parts_of.nd rfl (Or.inl rfl) (hf := Or.inr rfl)) (pgs_cons (pg_name (i := 2) sc_parts_of.nd rfl (Or.inl rfl) (hf := Or.inr rfl)) pgs_nil)))) (fun _ _ _ _ _ => pts_nil) (fun _ _ _ _ _ => (pv 2))))) pss_nil)
    (pss_cons (ps_if (pt_cmpR op_eq (pe_ix (ixT K rfl) (pv 0) pe_int (fun _ _ => rfl)) pe_str (nomark _)) (pss_one (ps_ret (pe_lst (pa_cons (pe_ix (ixT K rfl) (pv 0) pe_int (fun _ _ => rfl)) (star K rfl (pe_ix (ixT K rfl) (pv 0) pe_int (fun _ _ => rfl)) pa_nil))))) pss_nil)
    (pss_one (ps_ret (pe_ifExp (pt_cmpR op_isN (pe_ix (ixT K rfl) (pv 0) (pe_un un_neg pe_int) (fun _ _ => rfl)) pe_non (nomark _)) (pe_lst pa_nil) (pe_lst (pa_cons (pe_ix (ixT K rfl) (pv 0) (pe_un un_neg pe_int) (fun _ _ => rfl)) pa_nil)))))))), ?_⟩
  obtain ⟨a, xs, rfl, ha, W⟩ := hn.wrd
  clear hn
  cases W with
  | leaf w L v e h1 h2 h3 hp =>
    subst e hp
    refine ⟨_, rfl, _, _, _, _, rfl, rfl, SqT.of ha, at_head, (by show 3 ≤ sizeLine; decide), fun t1 n1 => ⟨t1, _, rfl, .inr (SqT.of upd_same), rfl, rfl, _, rfl, ?_⟩⟩
    have S1 := same_new n1 (.tup [V.str "num", V.str "text", V.str "hole"])
    generalize upd H t1 (.tup [V.str "num", V.str "text", V.str "hole"]) = H1 at S1
    rcases h1 with h1 | ⟨h1, rfl⟩
    · refine ifT h1 ?_
      exact ⟨Nat.zero_le _, fun r nr => q r _ (S1.free nr) upd_same (S1.trans (same_new nr _))⟩
    refine ifF h1 ?_
    refine ⟨_, rfl, _, _, _, _, rfl, rfl, SqT.of (S1 _ _ ha), at_head, (by show 3 ≤ sizeLine; decide), fun t2 n2 => ⟨t2, _, rfl, .inr (SqT.of upd_same), rfl, rfl, _, rfl, ?_⟩⟩
    have S2 := S1.trans (same_new n2 (.tup [V.str "call", V.str "make", V.str "handed"]))
    generalize upd H1 t2 (.tup [V.str "call", V.str "make", V.str "handed"]) = H2 at S2
    refine ifF h2 ?_
    refine ⟨_, rfl, _, _, _, _, rfl, rfl, SqT.of (S2 _ _ ha), at_head, rfl, _, rfl, ifF h3 ?_⟩
    refine ⟨_, rfl, _, rfl, _, _, _, _, rfl, rfl, SqT.of (S2 _ _ ha), atI_last _ _, rfl, _, rfl, ifT rfl ?_⟩
    exact ⟨Nat.zero_le _, fun r nr => q r _ (S2.free nr) upd_same (S2.trans (same_new nr _))⟩
  | args w L g qs ns e h1 h2 hg h =>
    subst e
    refine ⟨_, rfl, _, _, _, _, rfl, rfl, SqT.of ha, at_head, (by show 3 ≤ sizeLine; decide), fun t1 n1 => ⟨t1, _, rfl, .inr (SqT.of upd_same), rfl, rfl, _, rfl, ifF h1 ?_⟩⟩
    have S1 := same_new n1 (.tup [V.str "num", V.str "text", V.str "hole"])
    generalize upd H t1 (.tup [V.str "num", V.str "text", V.str "hole"]) = H1 at S1
    refine ⟨_, rfl, _, _, _, _, rfl, rfl, SqT.of (S1 _ _ ha), at_head, (by show 3 ≤ sizeLine; decide), fun t2 n2 => ⟨t2, _, rfl, .inr (SqT.of upd_same), rfl, rfl, _, rfl, ifT h2 ?_⟩⟩
    have S2 := S1.trans (same_new n2 (.tup [V.str "call", V.str "make", V.str "handed"]))
    generalize upd H1 t2 (.tup [V.str "call", V.str "make", V.str "handed"]) = H2 at S2
    have hg2 := S2 _ _ hg
    refine ⟨_, rfl, _, rfl, _, _, _, _, rfl, rfl, SqT.of (S2 _ _ ha), atI_last _ _, g, rfl, ⟨_, SqT.of hg2⟩, fun D nD => lc_tup (xs := qs) (Pcol H2 D ps) ?_ ?_ ?_ ?_⟩
    · exact ⟨same_new nD _, upd_same⟩
    · exact fun i H3 _ p => SqT.of (p.1 _ _ hg2)
    · intro i x H3 hx p
      obtain ⟨b, nm, y, rfl, _, hy, hb⟩ := h.get i x hx
      refine ⟨b, _, rfl, SqT.of (p.1 _ _ (S2 _ _ hb)), rfl, _, _, rfl, _, _, rfl, rfl, rfl, ?_⟩
      refine ⟨_, rfl, _, p.2, ?_, ?_, ?_⟩
      · exact line5 (Nat.le_trans (List.length_take_le' _ _) hl)
      · exact Same.atNew p.1 nD
      · rw [upd_same, take_next hy]
    · intro H3 p
      refine q D _ (S2.free nD) ?_ (S2.trans p.1)
      rw [p.2, h.len.1, List.take_length]
  | ask v g vs e hg hp =>
    subst e hp
    refine ⟨_, rfl, _, _, _, _, rfl, rfl, SqT.of ha, at_of rfl rfl, (by show 3 ≤ sizeLine; decide), fun t1 n1 => ⟨t1, _, rfl, .inr (SqT.of upd_same), rfl, rfl, _, rfl, ifF rfl ?_⟩⟩
    have S1 := same_new n1 (.tup [V.str "num", V.str "text", V.str "hole"])
    generalize upd H t1 (.tup [V.str "num", V.str "text", V.str "hole"]) = H1 at S1
    refine ⟨_, rfl, _, _, _, _, rfl, rfl, SqT.of (S1 _ _ ha), at_of rfl rfl, (by show 3 ≤ sizeLine; decide), fun t2 n2 => ⟨t2, _, rfl, .inr (SqT.of upd_same), rfl, rfl, _, rfl, ifF rfl ?_⟩⟩
    have S2 := S1.trans (same_new n2 (.tup [V.str "call", V.str "make", V.str "handed"]))
    generalize upd H1 t2 (.tup [V.str "call", V.str "make", V.str "handed"]) = H2 at S2
    refine ⟨_, rfl, _, _, _, _, rfl, rfl, SqT.of (S2 _ _ ha), at_of rfl rfl, rfl, _, rfl, ifT (by decide) ?_⟩
    refine ⟨_, rfl, _, _, _, _, rfl, rfl, SqT.of (S2 _ _ ha), at_of rfl rfl, _, rfl, _, _, _, _, rfl, rfl, SqT.of (S2 _ _ ha), at_of rfl rfl, g, _, rfl, .inl (SqT.of (S2 _ _ hg)), ?_, fun r nr => ?_⟩
    · show (v :: (vs ++ [])).length ≤ sizeLine
      rw [List.append_nil]
      exact Nat.le_of_lt (line5 hl)
    · refine q r _ (S2.free nr) ?_ (S2.trans (same_new nr _))
      rw [upd_same, List.append_nil]
  | last w L b e h1 h2 h3 hp =>
    subst e hp
    refine ⟨_, rfl, _, _, _, _, rfl, rfl, SqT.of ha, at_head, (by show 3 ≤ sizeLine; decide), fun t1 n1 => ⟨t1, _, rfl, .inr (SqT.of upd_same), rfl, rfl, _, rfl, ifF h1 ?_⟩⟩
    have S1 := same_new n1 (.tup [V.str "num", V.str "text", V.str "hole"])
    generalize upd H t1 (.tup [V.str "num", V.str "text", V.str "hole"]) = H1 at S1
    refine ⟨_, rfl, _, _, _, _, rfl, rfl, SqT.of (S1 _ _ ha), at_head, (by show 3 ≤ sizeLine; decide), fun t2 n2 => ⟨t2, _, rfl, .inr (SqT.of upd_same), rfl, rfl, _, rfl, ifF h2 ?_⟩⟩
    have S2 := S1.trans (same_new n2 (.tup [V.str "call", V.str "make", V.str "handed"]))
    generalize upd H1 t2 (.tup [V.str "call", V.str "make", V.str "handed"]) = H2 at S2
    refine ⟨_, rfl, _, _, _, _, rfl, rfl, SqT.of (S2 _ _ ha), at_head, rfl, _, rfl, ifF h3 ?_⟩
    refine ⟨_, rfl, _, rfl, _, _, _, _, rfl, rfl, SqT.of (S2 _ _ ha), atI_last _ _, rfl, _, rfl, ifF (by rfl) ?_⟩
    refine ⟨_, rfl, _, rfl, _, _, _, _, rfl, rfl, SqT.of (S2 _ _ ha), atI_last _ _, (by show 1 ≤ sizeLine; decide), fun r nr => ?_⟩
    exact q r _ (S2.free nr) upd_same (S2.trans (same_new nr _))
end
end My
namespace My
open PySem PySem.Spec PyProof.Rows L2 RZ
/-! list(zip(a, b)) of two tuples -/
section
variable {prog : Program} {w : World} {A : Around} {E : Value → Shared → Prop} {s : Shared}
theorem heldT_item {z TI TO T i1 i2 l1 l2 : Addr} {f : Bool} {oT : Obj} {j : Nat} {xs ys : Array Value} {x y : Value} {Q : Option Value → Shared → Prop} (D : ZipApart z TI TO i1 i2 l1 l2)
    (hz : IsZipHeld s.heap z TI TO T f) (hT : s.heap.get? T = some oT) (hTI : IsPair s.heap TI (.ref i1) (.ref i2)) (t1 : s.heap.IsTupleIter i1 l1 j) (t2 : s.heap.IsTupleIter i2 l2 j)
    (m1 : s.heap.IsTuple l1 xs) (m2 : s.heap.IsTuple l2 ys) (hx : xs[j]? = some x) (hy : ys[j]? = some y)
    (go : ∀ g, IsZipHeld g z TI TO T true → g.IsTupleIter i1 l1 (j + 1) → g.IsTupleIter i2 l2 (j + 1) → IsPair g s.heap.objs.size x y → (∀ c o, c ≠ z → c ≠ i1 → c ≠ i2 → s.heap.get? c = some o → g.get? c = some o) → Q (some (.ref s.heap.objs.size)) { s with heap := g }) :
    wpAny (model prog w) A (pyNext (.ref z)) Q E s := by
  have ty : s.TypeIs (.ref z) "zip" := ⟨_, hz, rfl⟩
  unfold pyNext
  refine wpAny_bind (wpAny_attempt (wpAny_callSpecial?_slot (name := Str.ofString "__next__") ty PySem.F.slot_zip_next (wpAny_call_entry PySem.F.slot_zip_next ty PySem.F.entry_zip_next ?_ (PySem.F.args_zip_next_1 _))))
  show wpAny _ _ (field (.ref z) 2 >>= _) _ _ _; refine wpAny_bind (wpAny_field hz rfl (x := .bool false) rfl ?_)
  show wpAny _ _ (field (.ref z) 3 >>= _) _ _ _; refine wpAny_bind (wpAny_field hz rfl (x := .ref TI) rfl ?_)
  refine wpAny_bind (wpAny_seqItems hTI rfl ?_); show wpAny _ _ (Builtin.SmallTypes.ownedTupleIsFree (.ref z) >>= _) _ _ _
  refine wpAny_bind (wpAny_tupleHeld_zip hz hT fun g1 z1 b1 => ?_)
  simp only [Bool.false_eq_true, if_false]; refine wpAny_bind ?_; rw [← Array.forIn_toList]; simp only [List.forIn_cons, List.forIn_nil]
  refine wpAny_bind (wpAny_bind (wpAny_holding ?_)); show wpAny _ _ (Builtin.SmallTypes.nextOf (.ref i1) >>= _) _ _ _
  refine wpAny_bind (nextOf_tuple_item (s := { s with heap := g1 }) (t1.at fun o e => b1.extBut _ _ D.i1z e) (let ⟨o, e, r⟩ := m1; ⟨o, b1.extBut _ _ D.l1z e, r⟩) hx fun g2 u1 b2 => wpAny_pure (wpAny_pure ?_))
  refine wpAny_bind (wpAny_bind (wpAny_holding ?_)); show wpAny _ _ (Builtin.SmallTypes.nextOf (.ref i2) >>= _) _ _ _
  have c2 : ∀ c o, c ≠ z → c ≠ i1 → s.heap.get? c = some o → g2.get? c = some o := fun c o p q e => b2.extBut _ _ q (b1.extBut _ _ p e)
  refine wpAny_bind (nextOf_tuple_item (s := { s with heap := g2 }) (t2.at fun o e => c2 _ o D.i2z D.i12.symm e) (let ⟨o, e, r⟩ := m2; ⟨o, c2 _ o D.l2z D.l2i1 e, r⟩) hy fun g3 u2 b3 => wpAny_pure (wpAny_pure (wpAny_pure ?_)))
  show wpAny _ _ (newTuple [x, y] >>= _) _ _ _; refine wpAny_bind (wpAny_newTuple (wpAny_pure ⟨_, rfl, ?_⟩))
  have sz : g3.objs.size = s.heap.objs.size := b3.1.trans (b2.1.trans b1.1)
  have p3 : IsPair (g3.push { cls := .type "tuple", data := .seq #[x, y] }) g3.objs.size x y := Heap.get?_push_size _ rfl
  refine wpAny_pure ?_
  rw [sz] at p3 ⊢
  exact go _ (Heap.get?_push_of_some _ (b3.extBut _ _ D.i2z.symm (b2.extBut _ _ D.i1z.symm z1))) (u1.at fun o e => Heap.get?_push_of_some _ (b3.extBut _ _ D.i12 e)) (u2.at fun o e => Heap.get?_push_of_some _ e) p3
    fun c o n1 n2 n3 e => Heap.get?_push_of_some _ (b3.extBut _ _ n3 (c2 c o n1 n2 e))
theorem heldT_end {z TI TO T i1 i2 l1 l2 : Addr} {f : Bool} {oT : Obj} {j : Nat} {xs : Array Value} {Q : Option Value → Shared → Prop} (calm : A.handled = none) (D : ZipApart z TI TO i1 i2 l1 l2)
    (hz : IsZipHeld s.heap z TI TO T f) (hT : s.heap.get? T = some oT) (hTI : IsPair s.heap TI (.ref i1) (.ref i2)) (t1 : s.heap.IsTupleIter i1 l1 j)
    (m1 : s.heap.IsTuple l1 xs) (hx : xs[j]? = none)
    (go : ∀ g, (∀ c o, c ≠ z → c ≠ i1 → s.heap.get? c = some o → g.get? c = some o) → Q none { s with heap := g }) :
    wpAny (model prog w) A (pyNext (.ref z)) Q E s := by
  have ty : s.TypeIs (.ref z) "zip" := ⟨_, hz, rfl⟩
  unfold pyNext
  refine wpAny_bind (wpAny_attempt (wpAny_callSpecial?_slot (name := Str.ofString "__next__") ty PySem.F.slot_zip_next (wpAny_call_entry PySem.F.slot_zip_next ty PySem.F.entry_zip_next ?_ (PySem.F.args_zip_next_1 _))))
  show wpAny _ _ (field (.ref z) 2 >>= _) _ _ _; refine wpAny_bind (wpAny_field hz rfl (x := .bool false) rfl ?_)
  show wpAny _ _ (field (.ref z) 3 >>= _) _ _ _; refine wpAny_bind (wpAny_field hz rfl (x := .ref TI) rfl ?_)
  refine wpAny_bind (wpAny_seqItems hTI rfl ?_); show wpAny _ _ (Builtin.SmallTypes.ownedTupleIsFree (.ref z) >>= _) _ _ _
  refine wpAny_bind (wpAny_tupleHeld_zip hz hT fun g1 z1 b1 => ?_)
  simp only [Bool.false_eq_true, if_false]; refine wpAny_bind ?_; rw [← Array.forIn_toList]; simp only [List.forIn_cons, List.forIn_nil]
  refine wpAny_bind (wpAny_bind (wpAny_holding ?_)); show wpAny _ _ (Builtin.SmallTypes.nextOf (.ref i1) >>= _) _ _ _
  refine wpAny_bind (nextOf_tuple_end (s := { s with heap := g1 }) calm (t1.at fun o e => b1.extBut _ _ D.i1z e) (let ⟨o, e, r⟩ := m1; ⟨o, b1.extBut _ _ D.l1z e, r⟩) hx fun g2 e b2 st => ?_)
  obtain ⟨o, ho, hc⟩ := st
  refine wpAny_bind (wpAny_isInstance (T := "StopIteration") (b := true) ⟨o, ho, hc⟩ isSubtype_stop (wpAny_pure (go _ fun c o n1 n2 q => b2 _ _ n2 (b1.extBut _ _ n1 q))))
end
theorem Same.tup {K : PySem.W.Frag} {H H' : Hp} {a : Addr} {xs : List V} (e : Same H H') (h : SqT K H a xs) : SqT K H' a xs := by
  rcases h with (h | ⟨o, h⟩) | h
  · exact .inl (.inl (e _ _ h))
  · exact .inl (.inr ⟨o, e _ _ h⟩)
  · exact .inr h
/-- pairs of what stands at the same places, in new tuples -/
def PairsAt (H : Hp) (xs ys : List V) (as : List Addr) : Prop := ∀ (j : Nat) (c : Addr), as[j]? = some c → ∃ x y, xs[j]? = some x ∧ ys[j]? = some y ∧ H c = some (.tup [x, y])
def ZSt (H : Hp) (z TI TO i1 i2 a b : Addr) (i : Nat) (h : Heap) : Prop :=
  ((i = 0 ∧ IsZip h z TI TO .none) ∨ ∃ T f xs, IsZipHeld h z TI TO T f ∧ H T = some (.tup xs)) ∧ IsPair h TI (.ref i1) (.ref i2) ∧ (∃ x y, IsPair h TO x y) ∧ h.IsTupleIter i1 a i ∧ h.IsTupleIter i2 b i
section
variable {X : Cx} {pins : List (Addr × Obj)} {σ : L2.St}
theorem zip_loop {A1 : Around} {Rs : Result → Shared → Prop} {z TI TO i1 i2 a b S : Addr} {xs ys : List V} (calm : A1.in1.handled = none) (D : ZipApart z TI TO i1 i2 a b) (hl : xs.length = ys.length) (hz : xs.length < sizeLine) (H0 : Hp) (hS0 : H0 S = none)
    (fin : ∀ (H' : Hp) (as : List Addr) (s' : Shared), Inv X pins σ H' s' → Same H0 H' → H' S = some (.lst (as.map V.ref)) → as.length = xs.length → PairsAt H' xs ys as → Rs (.ok (.ret .none)) s') :
    ∀ (k i : Nat) (as : List Addr) (H : Hp) (s : Shared), k + i = xs.length → Inv X pins σ H s → Same H0 H → SqT X.K H a xs → SqT X.K H b ys → H S = some (.lst (as.map V.ref)) → as.length = i → PairsAt H xs ys as → S ∉ as →
      (∀ c ∈ [z, TI, TO, i1, i2], FpOk X pins H c) → ZSt H z TI TO i1 i2 a b i s.heap → codeAny (model X.prog X.w) A1 (.builtin "list.extend.loop" ⟨[.ref S, .ref z, .none], []⟩) Rs s := by
  intro k
  induction k with
  | zero =>
    intro i as H s hi I sm ha hb hS hal hp _ hf st
    obtain ⟨hzz, hTI, ⟨x0, y0, hTO⟩, t1, t2⟩ := st
    obtain ⟨its, rv, p1, _⟩ := I.tuple ha
    obtain ⟨its2, rv2, p2, _⟩ := I.tuple hb
    have e1 : its.toArray[i]? = none := by
      have := rv.length
      simp
      omega
    refine codeAny_builtin PySem.F.entry_extend_loop ?_
    rw [Around.under_plainId PySem.F.plain_extend_loop _]
    show wpAny _ A1.in1 (pyNext (.ref z) >>= _) _ _ s
    have out : ∀ (g : Heap), (∀ c o, c ∉ [z, TI, TO, i1, i2] → s.heap.get? c = some o → g.get? c = some o) → Inv X pins σ H { s with heap := g } := fun g kp => I.turnedL (t' := s.toks) (ch := [z, TI, TO, i1, i2]) kp hf
    have last : ∀ (g : Heap), (∀ c o, c ∉ [z, TI, TO, i1, i2] → s.heap.get? c = some o → g.get? c = some o) → Rs (.ok (.ret .none)) { s with heap := g } := fun g kp => fin H as _ (out g kp) sm hS (by omega) hp
    rcases hzz with ⟨_, hz0⟩ | ⟨T, f, ts, hz0, hT⟩
    · refine wpAny_bind (pyNext_zipT_end (s := s) calm D hz0 hTI hTO t1 t2 p1 p2 (.inl e1) fun g kp => wpAny_pure (last g fun c o n e => kp c o ?_ ?_ ?_ ?_ e))
      all_goals (intro q; exact n (by simp [q]))
    · obtain ⟨_, tits, _, ⟨oT, eT, _⟩⟩ := I.hok T _ hT
      refine wpAny_bind (heldT_end (s := s) calm D hz0 eT hTI t1 p1 e1 fun g kp => wpAny_pure (last g fun c o n e => kp c o ?_ ?_ e))
      all_goals (intro q; exact n (by simp [q]))
  | succ k ih =>
    intro i as H s hi I sm ha hb hS hal hp nS hf st
    obtain ⟨hzz, hTI, ⟨x0, y0, hTO⟩, t1, t2⟩ := st
    obtain ⟨its, rv, p1, _⟩ := I.tuple ha
    obtain ⟨its2, rv2, p2, _⟩ := I.tuple hb
    have lx : i < xs.length := by omega
    obtain ⟨x, hx⟩ : ∃ x, xs[i]? = some x := ⟨xs[i], List.getElem?_eq_getElem lx⟩
    obtain ⟨y, hy⟩ : ∃ y, ys[i]? = some y := ⟨ys[i]'(by omega), List.getElem?_eq_getElem (by omega)⟩
    obtain ⟨u, hu, ru⟩ := rv.get hx
    obtain ⟨u2, hu2, ru2⟩ := rv2.get hy
    have zl : z < s.heap.objs.size := by
      rcases hzz with ⟨_, h⟩ | ⟨_, _, _, h, _⟩ <;> exact Heap.lt_size h
    have lt : ∀ c ∈ [z, TI, TO, i1, i2], c < s.heap.objs.size := fun c hc => by
      have e' : c = z ∨ c = TI ∨ c = TO ∨ c = i1 ∨ c = i2 := by simpa using hc
      rcases e' with q | q | q | q | q
      · rw [q]; exact zl
      · rw [q]; exact Heap.lt_size hTI
      · rw [q]; exact Heap.lt_size hTO
      · rw [q]; obtain ⟨_, e1, _⟩ := t1; exact Heap.lt_size e1
      · rw [q]; obtain ⟨_, e1, _⟩ := t2; exact Heap.lt_size e1
    have nT : H s.heap.objs.size = none := I.hok.fresh (Nat.le_refl _)
    have nST : S ≠ s.heap.objs.size := fun e => by rw [e, nT] at hS; cases hS
    refine codeAny_builtin PySem.F.entry_extend_loop ?_
    rw [Around.under_plainId PySem.F.plain_extend_loop _]
    show wpAny _ A1.in1 (pyNext (.ref z) >>= _) _ _ s
    have step : ∀ (g : Heap) (f : Bool), IsZipHeld g z TI TO (if f then s.heap.objs.size else s.heap.objs.size) false ∨ (∃ T ts, IsZipHeld g z TI TO T true ∧ H T = some (.tup ts)) → g.IsTupleIter i1 a (i + 1) → g.IsTupleIter i2 b (i + 1) → IsPair g s.heap.objs.size u u2 → (∃ x y, IsPair g TO x y) → IsPair g TI (.ref i1) (.ref i2) →
        (∀ c o, c ∉ [z, TI, TO, i1, i2] → s.heap.get? c = some o → g.get? c = some o) →
        wpAny (model X.prog X.w) A1.in1 (updateSeq S (·.push (.ref s.heap.objs.size)) >>= fun _ => again (.builtin "list.extend.loop" ⟨[.ref S, .ref z, .none], []⟩)) (fun fin s' => match fin with | .done f => Rs (.ok f) s' | .again c' => c'.quiet = true ∧ codeAny (model X.prog X.w) A1 c' Rs s') (fun e s' => Rs (.error e) s') { s with heap := g } := by
      intro g f hzg v1 v2 hT hTO' hTI' kp
      have new : ObjOk X.prog X.w (upd H s.heap.objs.size (.tup [x, y])) g s.heap.objs.size (.tup [x, y]) := ⟨by show 2 ≤ sizeLine; decide, [u, u2], .cons ru (.cons ru2 .nil), ⟨_, hT, rfl, _, rfl⟩⟩
      have I1 : Inv X pins σ (upd H s.heap.objs.size (.tup [x, y])) { s with heap := g } := I.turnedNew (t' := s.toks) (ch := [z, TI, TO, i1, i2]) kp hf (Nat.le_refl _) new
      have hS1 : upd H s.heap.objs.size (.tup [x, y]) S = some (.lst (as.map V.ref)) := by rw [upd_ne nST]; exact hS
      obtain ⟨_, its3, n3, r3, l3, e3⟩ := I1.lstM hS1
      have l4 : its3.length = i := by rw [← l3, List.length_map, hal]
      have s1 : Same H (upd H s.heap.objs.size (.tup [x, y])) := same_new nT _
      refine wpAny_bind (wpAny_updateSeq e3 rfl (wpAny_pure ⟨plainId_quiet PySem.F.plain_extend_loop _, ?_⟩) (by rw [List.size_toArray]; omega) (by show (its3.toArray.push _).size ≤ sizeLine + 1; rw [Array.size_push, List.size_toArray]; omega))
      have I2 := I1.lset (its' := its3 ++ [.ref s.heap.objs.size]) (ys := (as ++ [s.heap.objs.size]).map V.ref) (f := (·.push (.ref s.heap.objs.size))) (t' := s.toks) hS1 e3 (by simp) (by rw [List.map_append]; exact r3.append (.cons rfl .nil)) (by rw [List.length_map, List.length_append, List.length_singleton]; omega)
      have s2 : Same H0 (upd (upd H s.heap.objs.size (.tup [x, y])) S (.lst ((as ++ [s.heap.objs.size]).map V.ref))) := Same.atNew (sm.trans s1) hS0
      have off : ∀ c o, c ≠ S → H c = some o → upd (upd H s.heap.objs.size (.tup [x, y])) S (.lst ((as ++ [s.heap.objs.size]).map V.ref)) c = some o := fun c o n e => by rw [upd_ne n]; exact s1 _ _ e
      have sc : ∀ c ∈ [z, TI, TO, i1, i2], c ≠ S := fun c hc q => by
        have := (hf c hc).1
        rw [q, hS] at this
        cases this
      have keepT : ∀ {c : Addr} {ts : List V}, SqT X.K H c ts → SqT X.K (upd (upd H s.heap.objs.size (.tup [x, y])) S (.lst ((as ++ [s.heap.objs.size]).map V.ref))) c ts := fun h => by
        rcases h with (h | ⟨o, h⟩) | h
        · exact .inl (.inl (off _ _ (fun q => by rw [q, hS] at h; cases h) h))
        · exact .inl (.inr ⟨o, off _ _ (fun q => by rw [q, hS] at h; cases h) h⟩)
        · exact .inr h
      have up : ∀ c o, c ≠ S → g.get? c = some o → (g.update S (Obj.mapSeq (·.push (Value.ref s.heap.objs.size)))).get? c = some o := fun c o n e => (Heap.get?_update_other _ _ (Ne.symm n)).trans e
      have fp2 : ∀ c ∈ [z, TI, TO, i1, i2], upd (upd H s.heap.objs.size (.tup [x, y])) S (.lst ((as ++ [s.heap.objs.size]).map V.ref)) c = none := fun c hc => by
        rw [upd_ne (sc c hc), upd_ne (Nat.ne_of_lt (lt c hc))]
        exact (hf c hc).1
      refine ih (i + 1) (as ++ [s.heap.objs.size]) _ _ (by omega) I2 s2 (keepT ha) (keepT hb) upd_same (by rw [List.length_append, hal]; rfl) (fun j c hj => ?_) (fun hm => ?_) (fun c hc => ⟨fp2 c hc, (hf c hc).2⟩) ⟨.inr ?_, ?_, ?_, ?_, ?_⟩
      · by_cases hji : j < as.length
        · rw [List.getElem?_append_left hji] at hj
          obtain ⟨x', y', e1, e2, e3⟩ := hp j c hj
          exact ⟨x', y', e1, e2, off _ _ (fun q => nS (by rw [← q]; exact List.mem_of_getElem? hj)) e3⟩
        · have ej : j = as.length := by
            have := (List.getElem?_eq_some_iff.mp hj).1
            rw [List.length_append, List.length_singleton] at this
            omega
          subst ej
          have ec : s.heap.objs.size = c := by simpa using hj
          subst ec
          exact ⟨x, y, by rw [hal]; exact hx, by rw [hal]; exact hy, by rw [upd_ne nST.symm]; exact upd_same⟩
      · rcases List.mem_append.mp hm with h | h
        · exact nS h
        · exact nST (by simpa using h)
      · rcases hzg with h | ⟨T, ts, h, hT⟩
        · refine ⟨s.heap.objs.size, false, [x, y], up _ _ (sc z (by simp)) (by simpa using h), by rw [upd_ne nST.symm]; exact upd_same⟩
        · exact ⟨T, true, ts, up _ _ (sc z (by simp)) h, off _ _ (fun q => by rw [q, hS] at hT; cases hT) hT⟩
      · exact up _ _ (sc TI (by simp)) hTI'
      · obtain ⟨x', y', h⟩ := hTO'
        exact ⟨x', y', up _ _ (sc TO (by simp)) h⟩
      · exact v1.at fun o q => up _ o (sc i1 (by simp)) q
      · exact v2.at fun o q => up _ o (sc i2 (by simp)) q
    have au : its.toArray[i]? = some u := by simpa using hu
    have au2 : its2.toArray[i]? = some u2 := by simpa using hu2
    rcases hzz with ⟨_, hz0⟩ | ⟨T, f, ts, hz0, hT⟩
    · refine wpAny_bind (pyNext_zipT_item (s := s) D hz0 hTI hTO t1 t2 p1 p2 au au2 fun g zg tg v1 v2 hT _ kp => ?_)
      refine step g true (.inl (by simpa using zg)) v1 v2 hT ⟨_, _, tg⟩ (kp _ _ D.TIz D.TITO D.TIi1 D.TIi2 hTI) fun c o n e => kp c o ?_ ?_ ?_ ?_ e
      all_goals (intro q; exact n (by simp [q]))
    · obtain ⟨_, tits, _, ⟨oT, eT, _⟩⟩ := I.hok T _ hT
      refine wpAny_bind (heldT_item (s := s) D hz0 eT hTI t1 t2 p1 p2 au au2 fun g zg v1 v2 hT' kp => ?_)
      refine step g true (.inr ⟨T, ts, zg, hT⟩) v1 v2 hT' ⟨_, _, kp _ _ D.TOz D.TOi1 D.TOi2 hTO⟩ (kp _ _ D.TIz D.TIi1 D.TIi2 hTI) fun c o n e => kp c o ?_ ?_ ?_ e
      all_goals (intro q; exact n (by simp [q]))
theorem zip_len : typeLookup (.type "zip") "__len__" = pure none := am_miss_of_fast (by decide +kernel)
theorem zip_hint : typeLookup (.type "zip") "__length_hint__" = pure none := am_miss_of_fast (by decide +kernel)
/-- list(zip(a, b)), tuples of one length -/
def tListZip (K : PySem.W.Frag) (ta : TA) : TE := fun σ H Q => ta σ H fun vs H1 => ∃ (a b : Addr) (xs ys : List V), vs = [.ref a, .ref b] ∧ SqT K H1 a xs ∧ SqT K H1 b ys ∧ xs.length = ys.length ∧ xs.length < sizeLine ∧
  ∀ (l : Addr) (as : List Addr) (H2 : Hp), H1 l = none → Same H1 H2 → H2 l = some (.lst (as.map V.ref)) → as.length = xs.length → PairsAt H2 xs ys as → Q (.ref l) H2
theorem pe_listZip (K : PySem.W.Frag) (hK : X.K = K) (hc : X.calm = true) (hm : X.mg "list" = none) (hm2 : X.mg "zip" = none) {e e2 : Expr} {ta : TA} {p p2 q pos : Pos} (ha : PA X [e, e2] ta) (hg : Gl X "list" := by rfl) (hg2 : Gl X "zip" := by rfl)
    (hs : starEach [e, e2] X.env = (false, eval e X.env) :: starEach [e2] X.env := by rfl) (hpl : (backTo q (starEach [e2] X.env)).any (·.1) = false := by rfl)
    (na : starEach [.Call (.Name "zip" p2) [e, e2] [] q] X.env = (false, eval (.Call (.Name "zip" p2) [e, e2] [] q) X.env) :: starEach [] X.env := by rfl) :
    PE X (.Call (.Name "list" p) [.Call (.Name "zip" p2) [e, e2] [] q] [] pos) (tListZip K ta) := by
  subst hK
  refine ⟨fun pins s σ H Q I h => ?_⟩
  refine Call_ (ld_blt I hg hm PyProof.Rows.boot_list ?_)
  refine PyProof.Rows.callWith_type1 (PyProof.Rows.args_cons ?_ na) na rfl
  refine Call_ (ld_blt I hg2 hm2 PyProof.Rows.boot_zip (PyProof.Rows.callWith_type1 (thn (ha.run q pins s σ H _ I h) fun us s1 ⟨vs, H1, I1, r1, q1⟩ => ?_) hs hpl))
  obtain ⟨a, b, xs, ys, rfl, hqa, hqb, hl, hz, q1⟩ := q1
  cases r1 with
  | cons r rr =>
  cases rr with
  | cons r' rr =>
  cases rr
  cases r
  cases r'
  obtain ⟨its, rv, p1, _⟩ := I1.tuple hqa
  obtain ⟨its2, rv2, p2, _⟩ := I1.tuple hqb
  obtain ⟨o1, ho1, _⟩ := id p1
  obtain ⟨o2, ho2, _⟩ := id p2
  have D := PySem.W.ktu_apart s1.heap.objs.size a b (Heap.lt_size ho1) (Heap.lt_size ho2)
  refine call_zipT (show s1.heap.IsTuple a its.toArray from p1) (show s1.heap.IsTuple b its2.toArray from p2) fun g hz0 hTI hTO t1 t2 hsz hk => PyProof.Rows.args_nil ?_
  have I2 : Inv X pins σ H1 { s1 with heap := g } := I1.kept (t' := s1.toks) hk
  have calm : X.A.in1.in1.handled = none := by simp [I1.ok.hd hc]
  have nS : H1 g.objs.size = none := I2.hok.fresh (Nat.le_refl _)
  have zlt : s1.heap.objs.size + 4 < g.objs.size := by rw [hsz]; exact Nat.lt_succ_self _
  refine callType_codes (Q₁ := fun ob s3 => ob = .ref g.objs.size ∧ s3 = { s1 with heap := g.push { cls := .type "list", data := .seq #[] } }) PySem.F.called_list (PySem.F.typeCall_list_1 _) PySem.F.entry_list_init
    (code_list_new _ ⟨rfl, rfl⟩) fun ob s3 h3 => ?_
  obtain ⟨rfl, rfl⟩ := h3
  have hS : (g.push { cls := .type "list", data := .seq #[] }).get? g.objs.size = some { cls := .type "list", data := .seq #[] } := Heap.get?_push_size _ rfl
  refine ⟨⟨_, hS, rfl⟩, PySem.F.args_list_init_2 _ _, ?_⟩
  have I3 : Inv X pins σ (upd H1 g.objs.size (.lst [])) { s1 with heap := g.push { cls := .type "list", data := .seq #[] } } := I2.lnew (its := []) (t' := s1.toks) .nil (Nat.zero_le _)
  show wpAny _ X.A.in1.in1 (do let was ← Builtin.List.listItems (.ref g.objs.size); Builtin.List.listUpdate (.ref g.objs.size) (fun _ => #[]); letGo was.toList.reverse; Builtin.List.listExtendWith (.ref g.objs.size) (.ref (s1.heap.objs.size + 4)) .none) _ _ _
  refine wpAny_bind ?_; unfold Builtin.List.listItems; refine wpAny_bind (wpAny_seqItems hS rfl (wpAny_pure ?_))
  show wpAny _ _ (updateSeq g.objs.size (fun _ => #[]) >>= fun _ => letGo (#[] : Array Value).toList.reverse >>= fun _ => Builtin.List.listExtendWith (.ref g.objs.size) (.ref (s1.heap.objs.size + 4)) .none) _ _ _
  refine wpAny_bind (wpAny_updateSeq hS rfl ?_)
  have I4 := I3.lset (f := fun _ => #[]) (its := []) (its' := []) (ys := []) (t' := s1.toks) upd_same hS rfl .nil (Nat.zero_le _)
  rw [upd_upd] at I4
  have hS4 := Heap.get?_update_self (Obj.mapSeq (fun _ => (#[] : Array Value))) hS rfl
  have off4 : ∀ c o, c ≠ g.objs.size → g.get? c = some o → ((g.push { cls := .type "list", data := .seq #[] }).update g.objs.size (Obj.mapSeq (fun _ => (#[] : Array Value)))).get? c = some o := fun c o n e => (Heap.get?_update_other _ _ (Ne.symm n)).trans (Heap.get?_push_of_some _ e)
  generalize (g.push { cls := .type "list", data := .seq #[] }).update g.objs.size (Obj.mapSeq (fun _ => (#[] : Array Value))) = g4 at I4 hS4 off4
  refine wpAny_bind (wpAny_letGo ?_)
  have ne4 : ∀ k, k ≤ 4 → s1.heap.objs.size + k ≠ g.objs.size := fun k hk => by rw [hsz]; omega
  have z4 : IsZip g4 (s1.heap.objs.size + 4) (s1.heap.objs.size + 2) (s1.heap.objs.size + 3) .none := off4 _ _ (ne4 4 (by omega)) hz0
  unfold Builtin.List.listExtendWith
  have ty4 : ∀ {g5 : Heap}, IsZip g5 (s1.heap.objs.size + 4) (s1.heap.objs.size + 2) (s1.heap.objs.size + 3) .none → Shared.TypeIs { s1 with heap := g5 } (.ref (s1.heap.objs.size + 4)) "zip" := fun h => ⟨_, h, rfl⟩
  refine wpAny_bind (wpAny_typeOf (ty4 z4) ?_)
  have f1 : Builtin.List.listSameRef (.ref g.objs.size) (.ref (s1.heap.objs.size + 4)) = false := by simp [Builtin.List.listSameRef, (ne4 4 (by omega)).symm]
  have f2 : (Value.type "zip" == Value.type "list") = false := by decide
  have f3 : (Value.type "zip" == Value.type "tuple") = false := by decide
  simp only [f1, f2, f3, Bool.or_false, Bool.false_eq_true, if_false]
  refine wpAny_bind (wpAny_pyIter_zip (s := { s1 with heap := g4 }) z4 ?_)
  refine wpAny_bind (wpAny_holding ?_)
  unfold Builtin.List.listLengthHint
  refine wpAny_bind (wpAny_specialOf (ty4 z4) zip_len ?_)
  show wpAny _ _ (specialOf (Value.ref (s1.heap.objs.size + 4)) (Str.ofString "__length_hint__") >>= _) _ _ _
  refine wpAny_bind (wpAny_specialOf (ty4 z4) zip_hint ?_)
  refine wpAny_pure ?_
  show wpAny _ _ (rule "list.extend.makes-room" >>= fun _ => Builtin.List.listTouch (.ref g.objs.size) >>= fun _ => again (.builtin "list.extend.loop" ⟨[.ref g.objs.size, .ref (s1.heap.objs.size + 4), .none], []⟩)) _ _ _
  refine wpAny_bind (wpAny_rule ?_); refine wpAny_bind ?_
  show wpAny _ _ (updateSeq g.objs.size (·.push .none) >>= fun _ => updateSeq g.objs.size (·.pop)) _ _ _
  refine wpAny_bind (wpAny_updateSeq hS4 rfl ?_)
  have I5 := I4.lset (f := (·.push Value.none)) (its := []) (its' := [Value.none]) (ys := [.non]) (t' := s1.toks) upd_same hS4 (by simp) (.cons rfl .nil) (by rw [List.length_singleton, sizeLine_eq]; decide)
  have hS5 := Heap.get?_update_self (Obj.mapSeq (·.push Value.none)) hS4 rfl
  refine wpAny_updateSeq hS5 rfl ?_ (by show 1 ≤ sizeLine; rw [sizeLine_eq]; decide) (by show 0 ≤ sizeLine + 1; exact Nat.zero_le _)
  have I6 := I5.lset (f := (·.pop)) (its := [Value.none]) (its' := []) (ys := []) (t' := s1.toks) upd_same hS5 (by rfl) .nil (Nat.zero_le _)
  rw [upd_upd, upd_upd] at I6
  have off6 : ∀ c o, c ≠ g.objs.size → g.get? c = some o → ((g4.update g.objs.size (Obj.mapSeq (·.push Value.none))).update g.objs.size (Obj.mapSeq (·.pop))).get? c = some o := fun c o n e =>
    (Heap.get?_update_other _ _ (Ne.symm n)).trans ((Heap.get?_update_other _ _ (Ne.symm n)).trans (off4 c o n e))
  generalize (g4.update g.objs.size (Obj.mapSeq (·.push Value.none))).update g.objs.size (Obj.mapSeq (·.pop)) = g6 at I6 off6
  refine wpAny_pure ⟨plainId_quiet PySem.F.plain_extend_loop _, ?_⟩
  have ctup : ∀ {c : Addr} {ts : List V}, SqT X.K H1 c ts → SqT X.K (upd H1 g.objs.size (.lst [])) c ts := fun h => Same.tup (same_new nS _) h
  refine zip_loop (A1 := X.A.in1) (Rs := wants (fun r s₂ => r = .none ∧ _) X.xe) calm D hl hz H1 nS (fun H' as s' I' sm hS' hal hp => ⟨rfl, ?_⟩) xs.length 0 [] (upd H1 g.objs.size (.lst [])) { s1 with heap := g6 } rfl I6 (same_new nS _) (ctup hqa) (ctup hqb) upd_same rfl (fun j c hj => by simp at hj) (by simp) (fun c hc => ?_) ⟨.inl ⟨rfl, off6 _ _ (ne4 4 (by omega)) hz0⟩, off6 _ _ (ne4 2 (by omega)) hTI, ⟨_, _, off6 _ _ (ne4 3 (by omega)) hTO⟩, t1.at fun o e => off6 _ _ (ne4 0 (by omega)) e, t2.at fun o e => off6 _ _ (ne4 1 (by omega)) e⟩
  · exact ⟨.ref g.objs.size, H', I', rfl, q1 _ as H' nS sm hS' hal hp⟩
  · have e' : c = s1.heap.objs.size + 4 ∨ c = s1.heap.objs.size + 2 ∨ c = s1.heap.objs.size + 3 ∨ c = s1.heap.objs.size ∨ c = s1.heap.objs.size + 1 := by simpa using hc
    obtain ⟨k, hk4, rfl⟩ : ∃ k : Nat, k ≤ 4 ∧ c = s1.heap.objs.size + k := by
      rcases e' with h | h | h | h | h
      · exact ⟨4, by omega, h⟩
      · exact ⟨2, by omega, h⟩
      · exact ⟨3, by omega, h⟩
      · exact ⟨0, by omega, h⟩
      · exact ⟨1, by omega, h⟩
    have hle : s1.heap.objs.size ≤ s1.heap.objs.size + k := Nat.le_add_right _ _
    have hne := ne4 k hk4
    exact I1.fpOk hle (by rw [upd_ne hne]; exact I1.hok.fresh hle)
end
end My
namespace My
open PySem PySem.Spec PyProof.Rows L2 RZ
/-! zip of two sequences, each a tuple (true) or a list (false), in a comprehension or a for -/
def SIs (b : Bool) (h : Heap) (l : Addr) (xs : Array Value) : Prop := if b then h.IsTuple l xs else h.IsList l xs
def SIt (b : Bool) (h : Heap) (i l : Addr) (j : Nat) : Prop := if b then h.IsTupleIter i l j else h.IsListIter i l j
theorem SIs.ext {b : Bool} {h h' : Heap} {l : Addr} {xs : Array Value} (x : SIs b h l xs) (e : ∀ o, h.get? l = some o → h'.get? l = some o) : SIs b h' l xs := by
  cases b <;> exact let ⟨o, q, r⟩ := x; ⟨o, e o q, r⟩
theorem SIt.ext {b : Bool} {h h' : Heap} {i l : Addr} {j : Nat} (x : SIt b h i l j) (e : ∀ o, h.get? i = some o → h'.get? i = some o) : SIt b h' i l j := by
  cases b <;> exact let ⟨o, q, r⟩ := x; ⟨o, e o q, r⟩
theorem SIt.obj {b : Bool} {h : Heap} {i l : Addr} {j : Nat} (x : SIt b h i l j) : ∃ o, h.get? i = some o ∧ ∀ v, o.data ≠ .cell v := by
  cases b <;> exact let ⟨o, q, _, d⟩ := x; ⟨o, q, fun v z => by rw [d] at z; cases z⟩
theorem SIt.lt {b : Bool} {h : Heap} {i l : Addr} {j : Nat} (x : SIt b h i l j) : i < h.objs.size := by
  obtain ⟨o, q, _⟩ := x.obj
  exact Heap.lt_size q
section
variable {prog : Program} {w : World} {A : Around} {E : Value → Shared → Prop} {s : Shared}
theorem SIt.one {b : Bool} {i l : Addr} {j : Nat} {xs : Array Value} {x : Value} {Q : Value → Shared → Prop} (it : SIt b s.heap i l j) (sq : SIs b s.heap l xs) (hx : xs[j]? = some x)
    (h : ∀ g, SIt b g i l (j + 1) → Heap.SameBut i s.heap g → Q x { s with heap := g }) : wpAny (model prog w) A (Builtin.SmallTypes.nextOf (.ref i)) Q E s := by
  cases b with
  | true => exact nextOf_tuple_item it sq hx h
  | false => exact wpAny_nextOf_list_item it sq hx h
theorem SIt.none {b : Bool} {i l : Addr} {j : Nat} {xs : Array Value} {Q : Value → Shared → Prop} (calm : A.handled = .none) (it : SIt b s.heap i l j) (sq : SIs b s.heap l xs) (hx : xs[j]? = .none)
    (h : ∀ g e, Heap.ExtBut i s.heap g → (∃ o, g.get? e = some o ∧ o.cls = .type "StopIteration") → E (.ref e) { s with heap := g }) : wpAny (model prog w) A (Builtin.SmallTypes.nextOf (.ref i)) Q E s := by
  cases b with
  | true => exact nextOf_tuple_end calm it sq hx h
  | false => exact wpAny_nextOf_list_end calm it sq hx h
/-- what stays when a zip is asked for the next pair -/
abbrev Zst (z t i j : Addr) (h g : Heap) : Prop := ∀ c o, c ≠ z → c ≠ t → c ≠ i → c ≠ j → h.get? c = some o → g.get? c = some o
theorem zm_item {b1 b2 : Bool} {z t t' i j l m : Addr} {k n : Nat} {xs ys : Array Value} {x y u v : Value} {Q : Option Value → Shared → Prop} (D : ZipApart z t t' i j l m)
    (hz : IsZip s.heap z t t' .none) (ht : IsPair s.heap t (.ref i) (.ref j)) (ht' : IsPair s.heap t' u v) (hi : SIt b1 s.heap i l k) (hj : SIt b2 s.heap j m n) (hl : SIs b1 s.heap l xs) (hm : SIs b2 s.heap m ys)
    (hx : xs[k]? = some x) (hy : ys[n]? = some y)
    (q : ∀ g, IsZip g z t t' (rawInt s.heap.objs.size) → IsPair g t' x y → SIt b1 g i l (k + 1) → SIt b2 g j m (n + 1) → IsPair g s.heap.objs.size x y → g.objs.size = s.heap.objs.size + 1 → Zst z t' i j s.heap g → Q (some (.ref s.heap.objs.size)) { s with heap := g }) :
    wpAny (model prog w) A (pyNext (.ref z)) Q E s := by
  have ty : s.TypeIs (.ref z) "zip" := ⟨_, hz, rfl⟩
  unfold pyNext
  refine wpAny_bind (wpAny_attempt (wpAny_callSpecial?_slot (name := Str.ofString "__next__") ty PySem.F.slot_zip_next (wpAny_call_entry PySem.F.slot_zip_next ty PySem.F.entry_zip_next ?_ (PySem.F.args_zip_next_1 _))))
  show wpAny _ _ (field (.ref z) 2 >>= _) _ _ _; refine wpAny_bind (wpAny_field hz rfl (x := .bool false) rfl ?_)
  show wpAny _ _ (field (.ref z) 3 >>= _) _ _ _; refine wpAny_bind (wpAny_field hz rfl (x := .ref t) rfl ?_)
  refine wpAny_bind (wpAny_seqItems ht rfl ?_); show wpAny _ _ (Builtin.SmallTypes.ownedTupleIsFree (.ref z) >>= _) _ _ _
  refine wpAny_bind ?_; unfold Builtin.SmallTypes.ownedTupleIsFree
  refine wpAny_bind (wpAny_field hz rfl (x := .none) rfl (wpAny_pure ?_)); simp only [if_true]
  refine wpAny_bind (wpAny_rule ?_); refine wpAny_bind (wpAny_field hz rfl (x := .ref t') rfl ?_)
  refine wpAny_bind (wpAny_setField_rec hz (by simp) fun g1 z1 s1 => ?_)
  have up1 : ∀ c o, c ≠ z → s.heap.get? c = some o → g1.get? c = some o := fun c o n e => s1.extBut _ _ n e
  refine wpAny_bind ?_; simp only [List.zipIdx_cons, List.zipIdx_nil, List.forIn_cons, List.forIn_nil]
  refine wpAny_bind (wpAny_bind (wpAny_onRaise ?_)); show wpAny _ _ (Builtin.SmallTypes.nextOf (.ref i) >>= _) _ _ _
  refine wpAny_bind (SIt.one (s := { s with heap := g1 }) (hi.ext fun o e => up1 _ o D.i1z e) (hl.ext fun o e => up1 _ o D.l1z e) hx fun g2 i2 s2 => wpAny_pure ?_)
  have up2 : ∀ c o, c ≠ z → c ≠ i → s.heap.get? c = some o → g2.get? c = some o := fun c o n n' e => s2.extBut _ _ n' (up1 c o n e)
  have t2 : IsPair g2 t' u v := up2 _ _ D.TOz D.TOi1 ht'
  refine wpAny_bind (wpAny_seqItems t2 rfl ?_); refine wpAny_bind (wpAny_updateSeq_pair t2 fun g3 t3 s3 => ?_)
  replace t3 : IsPair g3 t' x v := t3
  have up3 : ∀ c o, c ≠ z → c ≠ i → c ≠ t' → s.heap.get? c = some o → g3.get? c = some o := fun c o n n' n'' e => s3.extBut _ _ n'' (up2 c o n n' e)
  refine wpAny_bind (wpAny_letGo (wpAny_pure ?_))
  refine wpAny_bind (wpAny_bind (wpAny_onRaise ?_)); show wpAny _ _ (Builtin.SmallTypes.nextOf (.ref j) >>= _) _ _ _
  refine wpAny_bind (SIt.one (s := { s with heap := g3 }) (hj.ext fun o e => up3 _ o D.i2z D.i12.symm D.TOi2.symm e) (hm.ext fun o e => up3 _ o D.l2z D.l2i1 D.l2TO e) hy fun g4 j4 s4 => wpAny_pure ?_)
  have t4 : IsPair g4 t' x v := s4.extBut _ _ D.TOi2 t3
  refine wpAny_bind (wpAny_seqItems t4 rfl ?_); refine wpAny_bind (wpAny_updateSeq_pair t4 fun g5 t5 s5 => ?_)
  replace t5 : IsPair g5 t' x y := t5
  have up5 : Zst z t' i j s.heap g5 := fun c o n1 n2 n3 n4 e => s5.extBut _ _ n2 (s4.extBut _ _ n4 (up3 c o n1 n3 n2 e))
  refine wpAny_bind (wpAny_letGo (wpAny_pure (wpAny_pure ?_)))
  refine wpAny_bind (wpAny_seqItems t5 rfl ?_); refine wpAny_bind (wpAny_newTuple ?_)
  have sz : g5.objs.size = s.heap.objs.size := by rw [s5.1, s4.1, s3.1, s2.1, s1.1]
  have z5 : IsZip g5 z t t' .ellipsis := s5.extBut _ _ D.TOz.symm (s4.extBut _ _ D.i2z.symm (s3.extBut _ _ D.TOz.symm (s2.extBut _ _ D.i1z.symm z1)))
  have i5 : SIt b1 g5 i l (k + 1) := i2.ext fun o e => s5.extBut _ _ D.TOi1.symm (s4.extBut _ _ D.i12 (s3.extBut _ _ D.TOi1.symm e))
  have j5 : SIt b2 g5 j m (n + 1) := j4.ext fun o e => s5.extBut _ _ D.TOi2.symm e
  show wpAny _ _ (Builtin.SmallTypes.ownedTupleHandOut (.ref z) (.ref g5.objs.size) >>= _) _ _ _
  refine wpAny_bind ?_; unfold Builtin.SmallTypes.ownedTupleHandOut
  have z6 : IsZip (g5.push { cls := .type "tuple", data := .seq #[x, y] }) z t t' .ellipsis := Heap.get?_push_of_some _ z5
  have zlt : z < g5.objs.size := Heap.lt_size z5
  refine wpAny_bind (wpAny_setField_rec z6 (by simp) fun g7 z7 s7 => ?_)
  replace z7 : IsZip g7 z t t' (rawInt g5.objs.size) := z7
  refine wpAny_setField_rec z7 (by simp) fun g8 z8 s8 => ?_
  replace z8 : IsZip g8 z t t' (rawInt g5.objs.size) := z8
  have up8 : ∀ c o, c ≠ z → g5.get? c = some o → g8.get? c = some o := fun c o n e => s8.extBut _ _ n (s7.extBut _ _ n (Heap.get?_push_of_some _ e))
  have p8 : IsPair g8 g5.objs.size x y := s8.extBut _ _ (Nat.ne_of_gt zlt) (s7.extBut _ _ (Nat.ne_of_gt zlt) (Heap.get?_push_size _ rfl))
  have l8 : g8.objs.size = g5.objs.size + 1 := by rw [s8.1, s7.1, Heap.size_push]
  refine wpAny_pure ⟨_, rfl, wpAny_pure ?_⟩
  rw [sz] at z8 p8 l8
  show Q (some (.ref g5.objs.size)) _
  rw [sz]
  exact q g8 z8 (up8 _ _ D.TOz t5) (i5.ext fun o e => up8 _ o D.i1z e) (j5.ext fun o e => up8 _ o D.i2z e) p8 l8 fun c o n1 n2 n3 n4 e => up8 c o n1 (up5 c o n1 n2 n3 n4 e)
theorem zm_end {b1 b2 : Bool} {z t t' i j l m : Addr} {k n : Nat} {xs ys : Array Value} {u v : Value} {Q : Option Value → Shared → Prop} (calm : A.handled = none) (D : ZipApart z t t' i j l m)
    (hz : IsZip s.heap z t t' .none) (ht : IsPair s.heap t (.ref i) (.ref j)) (ht' : IsPair s.heap t' u v) (hi : SIt b1 s.heap i l k) (hj : SIt b2 s.heap j m n) (hl : SIs b1 s.heap l xs) (hm : SIs b2 s.heap m ys)
    (no : xs[k]? = none ∨ ys[n]? = none) (q : ∀ g, Zst z t' i j s.heap g → Q none { s with heap := g }) : wpAny (model prog w) A (pyNext (.ref z)) Q E s := by
  have ty : s.TypeIs (.ref z) "zip" := ⟨_, hz, rfl⟩
  have fin : ∀ (g : Heap) (e : Addr), IsZip g z t t' .ellipsis → Zst z t' i j s.heap g → (∃ o, g.get? e = some o ∧ o.cls = .type "StopIteration") → ∀ g', Heap.SameBut z g g' → Zst z t' i j s.heap g' ∧ ∃ o, g'.get? e = some o ∧ o.cls = .type "StopIteration" := fun g e hz' k ⟨o, ho, hc⟩ g' sb => by
    have ne : e ≠ z := fun x => by
      rw [x, hz'] at ho
      rw [← Option.some.inj ho] at hc
      exact absurd (Value.type.inj hc) (by decide)
    exact ⟨fun c o n1 n2 n3 n4 x => sb.extBut _ _ n1 (k c o n1 n2 n3 n4 x), o, sb.extBut _ _ ne ho, hc⟩
  unfold pyNext
  refine wpAny_bind (wpAny_attempt (wpAny_callSpecial?_slot (name := Str.ofString "__next__") ty PySem.F.slot_zip_next (wpAny_call_entry PySem.F.slot_zip_next ty PySem.F.entry_zip_next ?_ (PySem.F.args_zip_next_1 _))))
  have out : ∀ (g : Heap) (e : Addr), Zst z t' i j s.heap g → (∃ o, g.get? e = some o ∧ o.cls = .type "StopIteration") → wpAny (model prog w) A (do if (← isInstance (.ref e) (.type "StopIteration")) then pure none else throw (.ref e)) Q E { s with heap := g } := fun g e k ⟨o, ho, hc⟩ =>
    wpAny_bind (wpAny_isInstance (T := "StopIteration") (b := true) ⟨o, ho, hc⟩ isSubtype_stop (wpAny_pure (q g k)))
  show wpAny _ _ (field (.ref z) 2 >>= _) _ _ _; refine wpAny_bind (wpAny_field hz rfl (x := .bool false) rfl ?_)
  show wpAny _ _ (field (.ref z) 3 >>= _) _ _ _; refine wpAny_bind (wpAny_field hz rfl (x := .ref t) rfl ?_)
  refine wpAny_bind (wpAny_seqItems ht rfl ?_); show wpAny _ _ (Builtin.SmallTypes.ownedTupleIsFree (.ref z) >>= _) _ _ _
  refine wpAny_bind ?_; unfold Builtin.SmallTypes.ownedTupleIsFree
  refine wpAny_bind (wpAny_field hz rfl (x := .none) rfl (wpAny_pure ?_)); simp only [if_true]
  refine wpAny_bind (wpAny_rule ?_); refine wpAny_bind (wpAny_field hz rfl (x := .ref t') rfl ?_)
  refine wpAny_bind (wpAny_setField_rec hz (by simp) fun g1 z1 s1 => ?_)
  have up1 : ∀ c o, c ≠ z → s.heap.get? c = some o → g1.get? c = some o := fun c o n e => s1.extBut _ _ n e
  refine wpAny_bind ?_; simp only [List.zipIdx_cons, List.zipIdx_nil, List.forIn_cons, List.forIn_nil]
  refine wpAny_bind (wpAny_bind (wpAny_onRaise ?_)); show wpAny _ _ (Builtin.SmallTypes.nextOf (.ref i) >>= _) _ _ _
  cases hx : xs[k]? with
  | none =>
    refine wpAny_bind (SIt.none (s := { s with heap := g1 }) calm (hi.ext fun o e => up1 _ o D.i1z e) (hl.ext fun o e => up1 _ o D.l1z e) hx fun g2 e s2 he => ?_)
    have z2 : IsZip g2 z t t' .ellipsis := s2 _ _ D.i1z.symm z1
    refine wpAny_setField_rec z2 (by simp) fun g3 _ s3 => ?_
    obtain ⟨k3, e3⟩ := fin g2 e z2 (fun c o n1 _ n3 _ x => s2 _ _ n3 (up1 c o n1 x)) he g3 s3
    exact out g3 e k3 e3
  | some x =>
    have hy : ys[n]? = none := no.elim (fun h => by rw [hx] at h; cases h) id
    refine wpAny_bind (SIt.one (s := { s with heap := g1 }) (hi.ext fun o e => up1 _ o D.i1z e) (hl.ext fun o e => up1 _ o D.l1z e) hx fun g2 i2 s2 => wpAny_pure ?_)
    have up2 : ∀ c o, c ≠ z → c ≠ i → s.heap.get? c = some o → g2.get? c = some o := fun c o n n' e => s2.extBut _ _ n' (up1 c o n e)
    have t2 : IsPair g2 t' u v := up2 _ _ D.TOz D.TOi1 ht'
    refine wpAny_bind (wpAny_seqItems t2 rfl ?_); refine wpAny_bind (wpAny_updateSeq_pair t2 fun g3 t3 s3 => ?_)
    have up3 : ∀ c o, c ≠ z → c ≠ i → c ≠ t' → s.heap.get? c = some o → g3.get? c = some o := fun c o n n' n'' e => s3.extBut _ _ n'' (up2 c o n n' e)
    have z3 : IsZip g3 z t t' .ellipsis := s3.extBut _ _ D.TOz.symm (s2.extBut _ _ D.i1z.symm z1)
    refine wpAny_bind (wpAny_letGo (wpAny_pure ?_))
    refine wpAny_bind (wpAny_bind (wpAny_onRaise ?_)); show wpAny _ _ (Builtin.SmallTypes.nextOf (.ref j) >>= _) _ _ _
    refine wpAny_bind (SIt.none (s := { s with heap := g3 }) calm (hj.ext fun o e => up3 _ o D.i2z D.i12.symm D.TOi2.symm e) (hm.ext fun o e => up3 _ o D.l2z D.l2i1 D.l2TO e) hy fun g4 e s4 he => ?_)
    have z4 : IsZip g4 z t t' .ellipsis := s4 _ _ D.i2z.symm z3
    refine wpAny_setField_rec z4 (by simp) fun g5 _ s5 => ?_
    obtain ⟨k5, e5⟩ := fin g4 e z4 (fun c o n1 n2 n3 n4 x => s4 _ _ n4 (up3 c o n1 n3 n2 x)) he g5 s5
    exact out g5 e k5 e5
end
end My
namespace My
open PySem PySem.Spec PyProof.Rows L2 RZ
/-! zip(a, b) made, and walked -/
abbrev itO (b : Bool) (l : Addr) : Obj := { cls := .type (if b then "tuple_iterator" else "list_iterator"), data := .fields #[.ref l, .int 0 0] }
theorem SIt.new {b : Bool} {h : Heap} {i l : Addr} (e : h.get? i = some (itO b l)) : SIt b h i l 0 := by
  cases b <;> exact ⟨_, e, rfl, rfl⟩
theorem SIs.push {b : Bool} {h : Heap} {l : Addr} {xs : Array Value} (x : SIs b h l xs) (o : Obj) : SIs b (h.push o) l xs := x.ext fun _ e => Heap.get?_push_of_some _ e
theorem SIs.iter {b : Bool} {prog : Program} {w : World} {A : Around} {E : Value → Shared → Prop} {s : Shared} {l : Addr} {xs : Array Value} {Q : Value → Shared → Prop} (x : SIs b s.heap l xs)
    (q : Q (.ref s.heap.objs.size) { s with heap := s.heap.push (itO b l) }) : wpAny (model prog w) A (pyIter (.ref l)) Q E s := by
  cases b with
  | true => exact wpAny_pyIter_tuple x q
  | false => exact wpAny_pyIter_list x q
abbrev zm1 (b : Bool) (h : Heap) (l : Addr) : Heap := h.push (itO b l)
abbrev zm2 (b c : Bool) (h : Heap) (l m : Addr) : Heap := (zm1 b h l).push (itO c m)
abbrev zm3 (b c : Bool) (h : Heap) (l m : Addr) : Heap := (zm2 b c h l m).push { cls := .type "tuple", data := .seq #[.ref h.objs.size, .ref (zm1 b h l).objs.size] }
abbrev zm4 (b c : Bool) (h : Heap) (l m : Addr) : Heap := (zm3 b c h l m).push { cls := .type "tuple", data := .seq #[.none, .none] }
abbrev zm5 (b c : Bool) (h : Heap) (l m : Addr) : Heap := (zm4 b c h l m).push { cls := .type "zip", data := .fields #[.none, .bool false, .bool false, .ref (zm2 b c h l m).objs.size, .ref (zm3 b c h l m).objs.size] }
theorem zm_new (b c : Bool) (l m : Addr) (xs ys : Array Value) :
    Meets (Builtin.«zip.__new__» ⟨[.type "zip", .ref l, .ref m], []⟩) (fun _ R s => SIs b s.heap l xs ∧ SIs c s.heap m ys ∧ R (.ok (.ret (.ref (zm4 b c s.heap l m).objs.size))) { s with heap := zm5 b c s.heap l m }) :=
  .of_wp fun prog w A R s h => by
    obtain ⟨hp, g, d, tk, os⟩ := s
    obtain ⟨hl, hm, h⟩ := h
    have sub := sub_zip
    have L1 : SIs b (Shared.heap ⟨hp, g, d, tk, os⟩) l xs := hl
    have L2 : SIs c (Shared.heap ⟨hp.push (itO b l), g, d, tk, os⟩) m ys := hm.push _
    wp_walk using SIs.iter L1, SIs.iter L2
    exact ⟨_, rfl, h⟩
section
variable {prog : Program} {w : World} {A : Around} {E : Value → Shared → Prop} {s : Shared}
theorem zm_call {b c : Bool} {l m : Addr} {xs ys : Array Value} {Q : Value → Shared → Prop} (hl : SIs b s.heap l xs) (hm : SIs c s.heap m ys)
    (q : ∀ g, IsZip g (s.heap.objs.size + 4) (s.heap.objs.size + 2) (s.heap.objs.size + 3) .none → IsPair g (s.heap.objs.size + 2) (.ref s.heap.objs.size) (.ref (s.heap.objs.size + 1)) → IsPair g (s.heap.objs.size + 3) .none .none →
      SIt b g s.heap.objs.size l 0 → SIt c g (s.heap.objs.size + 1) m 0 → (∀ a o, s.heap.get? a = some o → g.get? a = some o) → Q (.ref (s.heap.objs.size + 4)) { s with heap := g }) :
    wpAny (model prog w) A (call (.type "zip") [.ref l, .ref m]) Q E s := by
  refine callType_new PySem.F.called_zip (by decide) (PySem.F.typeCall_zip_2 _ _) (PySem.F.newCall_zip_2 _ _) (fun o => PySem.F.args_object_init_3 o _ _) PySem.F.entry_zip_new (zm_new b c l m xs ys) ⟨hl, hm, ?_⟩
  have n1 : (zm1 b s.heap l).objs.size = s.heap.objs.size + 1 := Heap.size_push ..
  have n2 : (zm2 b c s.heap l m).objs.size = s.heap.objs.size + 2 := by rw [Heap.size_push, n1]
  have n3 : (zm3 b c s.heap l m).objs.size = s.heap.objs.size + 3 := by rw [Heap.size_push, n2]
  have n4 : (zm4 b c s.heap l m).objs.size = s.heap.objs.size + 4 := by rw [Heap.size_push, n3]
  have up : ∀ {h : Heap} {a : Addr} {o o' : Obj}, h.get? a = some o → (h.push o').get? a = some o := fun e => Heap.get?_push_of_some _ e
  have e1 : (zm5 b c s.heap l m).get? s.heap.objs.size = some (itO b l) := up (up (up (up (Heap.get?_push_size _ (by cases b <;> rfl)))))
  have e2 : (zm5 b c s.heap l m).get? (zm1 b s.heap l).objs.size = some (itO c m) := up (up (up (Heap.get?_push_size _ (by cases c <;> rfl))))
  have e3 : (zm5 b c s.heap l m).get? (zm2 b c s.heap l m).objs.size = some _ := up (up (Heap.get?_push_size _ rfl))
  have e4 : (zm5 b c s.heap l m).get? (zm3 b c s.heap l m).objs.size = some _ := up (Heap.get?_push_size _ rfl)
  have e5 : (zm5 b c s.heap l m).get? (zm4 b c s.heap l m).objs.size = some _ := Heap.get?_push_size _ rfl
  show _ ∧ _
  rw [n1] at e2 e3
  rw [n2] at e3
  rw [n3] at e4
  rw [n2, n3, n4] at e5
  rw [n4]
  exact ⟨⟨_, e5, rfl⟩, q _ e5 e3 e4 (.new e1) (.new e2) fun a o e => up (up (up (up (up e))))⟩
end
/-- a list or a tuple, by the bit -/
def SqB (b : Bool) (K : PySem.W.Frag) (H : Hp) (a : Addr) (xs : List V) : Prop := if b then SqT K H a xs else SqL K H a xs
theorem SqB.same {b : Bool} {K : PySem.W.Frag} {H H' : Hp} {a : Addr} {xs : List V} (s : Same H H') (h : SqB b K H a xs) : SqB b K H' a xs := by
  cases b with
  | true => exact Same.tup s h
  | false => exact s.seq h
theorem SqB.get {X : Cx} {pins : List (Addr × Obj)} {σ : L2.St} {H : Hp} {s : Shared} {b : Bool} {a : Addr} {xs : List V} (I : Inv X pins σ H s) (h : SqB b X.K H a xs) : ∃ its, Vals xs its ∧ SIs b s.heap a its.toArray := by
  cases b with
  | true =>
    obtain ⟨its, rv, p, _⟩ := I.tuple h
    exact ⟨its, rv, p⟩
  | false =>
    obtain ⟨its, rv, p, _⟩ := I.list h
    exact ⟨its, rv, p.isList⟩
theorem SqB.inj {X : Cx} {pins : List (Addr × Obj)} {σ : L2.St} {H : Hp} {s : Shared} {b : Bool} {a : Addr} {xs ys : List V} (I : Inv X pins σ H s) (h : SqB b X.K H a xs) (h' : SqB b X.K H a ys) : xs = ys := by
  cases b with
  | true => exact I.tuple_inj h h'
  | false => exact I.list_inj h h'
theorem SIs.lt {b : Bool} {h : Heap} {l : Addr} {xs : Array Value} (x : SIs b h l xs) : l < h.objs.size := by
  cases b <;> exact let ⟨o, q, _⟩ := x; Heap.lt_size q
/-- the sequences at a and b as they stand at each turn, the items in new pairs -/
def ItM (p q : Bool) (K : PySem.W.Frag) (a b : Addr) : It :=
  ⟨fun i H => ∃ (xs ys : List V) (x y : V), SqB p K H a xs ∧ SqB q K H b ys ∧ xs[i]? = some x ∧ ys[i]? = some y,
    fun i H v H' => ∃ T x y, v = .ref T ∧ H T = none ∧ H' = upd H T (.tup [x, y]) ∧ (∀ xs, SqB p K H a xs → xs[i]? = some x) ∧ ∀ ys, SqB q K H b ys → ys[i]? = some y,
    fun i H => ∃ xs ys : List V, SqB p K H a xs ∧ SqB q K H b ys ∧ (xs.length ≤ i ∨ ys.length ≤ i)⟩
theorem five {α : Type} {a b c d e x : α} (h : x ∈ [a, b, c, d, e]) {C : α → Prop} (ha : C a) (hb : C b) (hc : C c) (hd : C d) (he : C e) : C x := by
  simp only [List.mem_cons, List.not_mem_nil, or_false] at h
  rcases h with h | h | h | h | h <;> rw [h] <;> assumption
theorem turnM {P : Program} {w : World} {K : PySem.W.Frag} {elts : List Expr} {kk : Nat} {tpos : Pos} {p q : Bool} {a b z t t' i j : Addr} (D : ZipApart z t t' i j a b) :
    Turn P w K (.Tuple elts kk tpos) (ItM p q K a b) [z, t, t', i, j] z (fun n h => IsZip h z t t' .none ∧ IsPair h t (.ref i) (.ref j) ∧ (∃ x y, IsPair h t' x y) ∧ SIt p h i a n ∧ SIt q h j b n) where
  mem := List.mem_cons_self
  obj := fun n h st c hc => by
    obtain ⟨hz, ht, ⟨x, y, ht'⟩, hi, hj⟩ := st
    exact five (C := fun c => ∃ o, h.get? c = some o ∧ ∀ v, o.data ≠ .cell v) hc ⟨_, hz, fun v e => nomatch e⟩ ⟨_, ht, fun v e => nomatch e⟩ ⟨_, ht', fun v e => nomatch e⟩ hi.obj hj.obj
  keep := fun n h h' st k => by
    obtain ⟨hz, ht, ⟨x, y, ht'⟩, hi, hj⟩ := st
    exact ⟨k z (by simp) _ hz, k t (by simp) _ ht, ⟨x, y, k t' (by simp) _ ht'⟩, hi.ext fun o e => k i (by simp) o e, hj.ext fun o e => k j (by simp) o e⟩
  item := by
    intro X hP hw hK hc n pins s σ H E I hf st hg
    subst hP hw hK
    obtain ⟨hz, ht, ⟨x0, y0, ht'⟩, hi, hj⟩ := st
    obtain ⟨xs, ys, x, y, qx, qy, hx, hy⟩ := hg
    obtain ⟨us, rv, p1⟩ := qx.get I
    obtain ⟨ws, rw2, p2⟩ := qy.get I
    obtain ⟨u, hu, ru⟩ := rv.get hx
    obtain ⟨v, hv, rv2⟩ := rw2.get hy
    have zl : z < s.heap.objs.size := Heap.lt_size hz
    refine zm_item D hz ht ht' hi hj p1 p2 (x := u) (y := v) (by simpa using hu) (by simpa using hv) fun g z1 t1 i1 j1 T1 l1 k1 => ⟨_, rfl, wpAny_letOwnedTupleGo_zip (s := { s with heap := g }) z1 fun g2 z2 sb => ?_⟩
    have T2 : g2.get? s.heap.objs.size = some { cls := .type "tuple", data := .seq #[u, v] } := (sb.2 _ (Nat.ne_of_gt zl)).trans T1
    have ok : ObjOk X.prog X.w (upd H s.heap.objs.size (.tup [x, y])) g2 s.heap.objs.size (.tup [x, y]) := ⟨by show 2 ≤ sizeLine; decide, [u, v], .cons ru (.cons rv2 .nil), ⟨_, T2, rfl, _, rfl⟩⟩
    have J : Inv X pins σ (upd H s.heap.objs.size (.tup [x, y])) { s with heap := g2 } := I.turnedNew (t' := s.toks) (ch := [z, t, t', i, j]) (fun c o n e => by
      simp only [List.mem_cons, List.not_mem_nil, or_false, not_or] at n
      exact (sb.2 c n.1).trans (k1 c o n.1 n.2.2.1 n.2.2.2.1 n.2.2.2.2 e)) hf (Nat.le_refl _) ok
    refine ⟨.ref s.heap.objs.size, _, J, rfl, ⟨_, x, y, rfl, I.hok.fresh (Nat.le_refl _), rfl, fun l hl => by rw [hl.inj I qx]; exact hx, fun l hl => by rw [hl.inj I qy]; exact hy⟩, ⟨z2, ?_, ⟨u, v, ?_⟩, ?_, ?_⟩, fun c hcm => ?_⟩
    · exact (sb.2 _ D.TIz).trans (k1 _ _ D.TIz D.TITO D.TIi1 D.TIi2 ht)
    · exact (sb.2 _ D.TOz).trans t1
    · exact i1.ext fun o e => (sb.2 _ D.i1z).trans e
    · exact j1.ext fun o e => (sb.2 _ D.i2z).trans e
    · have lt : c < s.heap.objs.size := five (C := fun c => c < s.heap.objs.size) hcm zl (Heap.lt_size ht) (Heap.lt_size ht') hi.lt hj.lt
      rw [upd_ne (Nat.ne_of_lt lt)]
      exact (hf c hcm).1
  done := by
    intro X hP hw hK hc n pins s σ H E I hf st hg
    subst hP hw hK
    obtain ⟨hz, ht, ⟨x0, y0, ht'⟩, hi, hj⟩ := st
    obtain ⟨xs, ys, qx, qy, no⟩ := hg
    obtain ⟨us, rv, p1⟩ := qx.get I
    obtain ⟨ws, rw2, p2⟩ := qy.get I
    have l1 := rv.length
    have l2 := rw2.length
    refine zm_end (I.ok.hd hc) D hz ht ht' hi hj p1 p2 (no.elim (fun e => .inl (by simp; omega)) fun e => .inr (by simp; omega)) fun g k => ⟨rfl, I.turnedL (t' := s.toks) (ch := [z, t, t', i, j]) (fun c o n e => ?_) hf⟩
    simp only [List.mem_cons, List.not_mem_nil, or_false, not_or] at n
    exact k c o n.1 n.2.2.1 n.2.2.2.1 n.2.2.2.2 e
  self := fun A n s Q E st h => wpAny_pyIter_zip st.1 h
def iZipM (p q : Bool) (K : PySem.W.Frag) (ta : TA) : TI := fun σ H R => ta σ H fun vs H1 => ∃ a b xs ys, vs = [.ref a, .ref b] ∧ SqB p K H1 a xs ∧ SqB q K H1 b ys ∧ R (ItM p q K a b) H1
theorem pi_zipM {X : Cx} (p q : Bool) {e e2 : Expr} {ta : TA} {np pos tpos : Pos} {elts : List Expr} {kk : Nat} (hg : Gl X "zip") (hm : X.mg "zip" = none) (ha : PA X [e, e2] ta)
    (hs : starEach [e, e2] X.env = (false, eval e X.env) :: starEach [e2] X.env := by rfl) (hpl : (backTo pos (starEach [e2] X.env)).any (·.1) = false := by rfl) :
    PI X (.Tuple elts kk tpos) (.Call (.Name "zip" np) [e, e2] [] pos) (iZipM p q X.K ta) := by
  refine ⟨fun pins s σ H R I h => Call_ (ld_blt I hg hm PyProof.Rows.boot_zip (PyProof.Rows.callWith_type1 (thn (ha.run pos pins s σ H _ I h) fun us s1 ⟨vs, H1, J, r, k⟩ => ?_) hs hpl))⟩
  obtain ⟨a, b, xs, ys, rfl, qx, qy, k⟩ := k
  obtain ⟨us, rv, p1⟩ := qx.get J
  obtain ⟨ws, rw2, p2⟩ := qy.get J
  cases r with
  | cons r rr =>
    cases rr with
    | cons r' rr =>
      cases rr
      cases r
      cases r'
      refine zm_call p1 p2 fun g z1 t1 t2 i1 j1 kp => wpAny_pyIter_zip z1 ?_
      have nw : ∀ c, s1.heap.objs.size ≤ c → FpOk X pins H1 c := fun c le => J.fpOk le (J.hok.fresh le)
      exact ⟨s1.heap.objs.size + 4, [s1.heap.objs.size + 4, s1.heap.objs.size + 2, s1.heap.objs.size + 3, s1.heap.objs.size, s1.heap.objs.size + 1], _, _, H1, rfl, J.kept (t' := s1.toks) kp, turnM (PySem.W.ktu_apart s1.heap.objs.size a b p1.lt p2.lt), ⟨z1, t1, ⟨_, _, t2⟩, i1, j1⟩,
        fun c hc => five hc (nw _ (Nat.le_add_right _ _)) (nw _ (Nat.le_add_right _ _)) (nw _ (Nat.le_add_right _ _)) (nw _ (Nat.le_refl _)) (nw _ (Nat.le_add_right _ _)), k⟩
theorem zipM {X : Cx} (p q : Bool) (K : PySem.W.Frag) (h : X.K = K) {e e2 : Expr} {ta : TA} {np pos tpos : Pos} {elts : List Expr} {kk : Nat} (hg : Gl X "zip") (hm : X.mg "zip" = none) (ha : PA X [e, e2] ta)
    (hs : starEach [e, e2] X.env = (false, eval e X.env) :: starEach [e2] X.env := by rfl) (hpl : (backTo pos (starEach [e2] X.env)).any (·.1) = false := by rfl) :
    PI X (.Tuple elts kk tpos) (.Call (.Name "zip" np) [e, e2] [] pos) (iZipM p q K ta) := by
  subst h
  exact pi_zipM p q hg hm ha hs hpl
theorem walk_zipM {p q : Bool} {K : PySem.W.Frag} {a b : Addr} {xs ys : List V} {n : Nat} (hn : n = min xs.length ys.length) : Walk (ItM p q K a b) n (fun H => SqB p K H a xs ∧ SqB q K H b ys) (YPair (fun i => xs[i]?) (fun i => ys[i]?)) := by
  subst hn
  refine ⟨fun i _ hi h => ?_, fun _ h => ⟨xs, ys, h.1, h.2, by omega⟩, fun i H v H' _ h ⟨T, x, y, e1, e2, e3, e4, e5⟩ => ⟨T, x, y, e1, e2, e3, e4 xs h.1, e5 ys h.2⟩⟩
  have h1 : i < xs.length := by omega
  have h2 : i < ys.length := by omega
  exact ⟨xs, ys, xs[i], ys[i], h.1, h.2, by simp [h1], by simp [h2]⟩
end My
namespace My
open PySem L2
/-! the writers of terms: what they share -/
theorem lits : ("(" : Str).length = 1 ∧ (")" : Str).length = 1 ∧ (": " : Str).length = 2 ∧ (", " : Str).length = 2 ∧ ("'" : Str).length = 1 ∧ ("." : Str).length = 1 ∧ ("?" : Str).length = 1 ∧ ("!" : Str).length = 1 ∧ (" as " : Str).length = 4 ∧ (" -> " : Str).length = 4 ∧ ("new " : Str).length = 4 ∧ ("look(" : Str).length = 5 ∧ ("one(" : Str).length = 4 ∧ ("ask(" : Str).length = 4 ∧ ("" : Str).length = 0 ∧ ("look" : Str).length = 4 ∧ ("ask" : Str).length = 3 :=
  ⟨rfl, rfl, rfl, rfl, rfl, rfl, rfl, rfl, rfl, rfl, rfl, rfl, rfl, rfl, rfl, rfl, rfl⟩
def sumL (zs : List Str) : Nat := (zs.map (·.length)).sum
theorem sumL_lens (zs : List Str) : lens (zs.map cl) = sumL zs := by
  unfold lens sumL
  rw [List.map_map]
  rfl
theorem sumL_mem {z : Str} : ∀ {zs : List Str}, z ∈ zs → z.length ≤ sumL zs
  | x :: r, h => by
    unfold sumL
    rw [List.map_cons, List.sum_cons]
    rcases List.mem_cons.mp h with rfl | h
    · omega
    · have := sumL_mem h
      unfold sumL at this
      omega
def spInB (K : PySem.W.Frag) : Sp := fun vs H Q _ => ∃ (l : Addr) (zs : List Str), vs = [.ref l] ∧ SqL K H l (zs.map V.str) ∧ sumL zs + 2 * zs.length ≤ 1000000 ∧ ∀ z H', cl z = cl "(" ++ glue (cl ", ") (zs.map cl) ++ cl ")" → Same H H' → Q (.str z) H'
def spArgs : Sp := fun vs H Q _ => ∃ (a g : Addr) (qs ps : List V) (ns zs : List Str), vs = [.ref a, .ref g] ∧ H a = some (.tup qs) ∧ ArgsAt H qs ns ps ∧ H g = some (.lst (zs.map V.str)) ∧ zs.length = qs.length ∧ (∀ n ∈ ns, n.length ≤ 8) ∧ sumL zs + 12 * zs.length ≤ 900000 ∧
  ∀ z H', cl z = argsL ns (zs.map cl) → Same H H' → Q (.str z) H'
def spOth (K : PySem.W.Frag) : Sp := fun vs H Q _ => ∃ (x : Str) (l : Addr) (zs : List Str), vs = [.str x, .ref l] ∧ (SqL K H l (zs.map V.str) ∨ SqT K H l (zs.map V.str)) ∧ x.length + sumL zs + 2 * zs.length ≤ 900000 ∧ ∀ z H', cl z = othL (cl x) (zs.map cl) → Same H H' → Q (.str z) H'
def Pargs (H0 : Hp) (D : Addr) (ns zs : List Str) (i : Nat) (H : Hp) : Prop := Same H0 H ∧ ∃ ys : List Str, H D = some (.lst (ys.map V.str)) ∧ ys.map cl = (List.zipWith (fun n w => cl n ++ cl ": " ++ w) ns (zs.map cl)).take i
section
variable {P : Program} {w : World} {K : PySem.W.Frag} {mg : Str → Option Value} {base : Heap} {f : Addr} {fd : FuncData}
theorem ok_in_brackets (F : Fun K "in_brackets" "in_brackets" s_in_brackets f fd) : FnOk P w K mg base CX0 1 f fd ["writings"] (spInB K) := by
  refine F.ok sc_in_brackets (fun vs H Q E h => ?_) (fun cdv A outer s H vs Q E hr h => ?_)
  · obtain ⟨l, zs, rfl, _⟩ := h
    rfl
  obtain ⟨l, zs, rfl, hl, hz, q⟩ := h
  refine ⟨_, (pss_cons (ps_set (i := 1) sc_in_brackets.nd rfl (Or.inl rfl) (pe_join pe_str (pv 0)))
    (pss_one (ps_ret (pe_joined (.cons pe_str (.cons (pe_fmt (pv 1)) (.cons pe_str .nil))))))), ?_⟩
  have lc : (", " : Str).length = 2 := rfl
  unfold sumL at hz
  refine ⟨⟨_, rfl⟩, _, rfl, _, l, zs, rfl, rfl, .inl hl, by rw [lc]; omega, ?_⟩
  have ej := txt_join ", " zs
  have el := txt_join_len ", " zs
  rw [lc] at el
  generalize Txt.join ", " zs = j at ej el ⊢
  refine ⟨_, rfl, (lineM (by first | omega | simp only [lenS_app, lenS_emp, lits] <;> omega)), _, rfl, .inl ⟨j, rfl, (lineM (by first | omega | simp only [lenS_app, lenS_emp, lits] <;> omega)), _, rfl, (lineM (by first | omega | simp only [lenS_app, lenS_emp, lits] <;> omega)), _, rfl, (lineM (by first | omega | simp only [lenS_app, lenS_emp, lits] <;> omega)), ?_⟩⟩
  refine q _ _ ?_ (Same.refl _)
  rw [cl_app, cl_app, cl_app, ej]
  rfl
theorem ok_show_others (F : Fun K "show_others" "show_others" s_show_others f fd) : FnOk P w K mg base CX0 1 f fd ["first", "others"] (spOth K) := by
  refine F.ok sc_show_others (fun vs H Q E h => ?_) (fun cdv A outer s H vs Q E hr h => ?_)
  · obtain ⟨x, l, zs, rfl, _⟩ := h
    rfl
  obtain ⟨x, l, zs, rfl, hl, hz, q⟩ := h
  refine ⟨_, (pss_cons (ps_set (i := 2) sc_show_others.nd rfl (Or.inl rfl) (pe_join pe_str (pv 1)))
    (pss_one (ps_ret (pe_ifExp (truth K rfl (pv 1)) (pe_joined (.cons (pe_fmt (pv 0)) (.cons pe_str (.cons (pe_fmt (pv 2)) .nil)))) (pv 0))))), ?_⟩
  have lc : (", " : Str).length = 2 := rfl
  unfold sumL at hz
  refine ⟨⟨_, rfl⟩, _, rfl, _, l, zs, rfl, rfl, hl, by rw [lc]; omega, ?_⟩
  have ej := txt_join ", " zs
  have el := txt_join_len ", " zs
  rw [lc] at el
  generalize Txt.join ", " zs = j at ej el ⊢
  refine ⟨_, rfl, _, hl.elim (fun h => .inl ⟨_, h, rfl⟩) (fun h => .inr (.inl ⟨_, h, rfl⟩)), ?_⟩
  cases zs with
  | nil => exact iteF ⟨_, rfl, q _ _ rfl (Same.refl _)⟩
  | cons y r =>
    refine iteT ⟨_, rfl, .inl ⟨x, rfl, (lineM (by first | omega | simp only [lenS_app, lenS_emp, lits] <;> omega)), _, rfl, (lineM (by first | omega | simp only [lenS_app, lenS_emp, lits] <;> omega)), _, rfl, (lineM (by first | omega | simp only [lenS_app, lenS_emp, lits] <;> omega)), _, rfl, .inl ⟨j, rfl, (lineM (by first | omega | simp only [lenS_app, lenS_emp, lits] <;> omega)), _, rfl, (lineM (by first | omega | simp only [lenS_app, lenS_emp, lits] <;> omega)), ?_⟩⟩⟩
    refine q _ _ ?_ (Same.refl _)
    rw [cl_app, cl_app, cl_app, ej]
    rfl
theorem ok_show_arguments (B : Bn mg) (F : Fun K "show_arguments" "show_arguments" s_show_arguments f fd) (c_in_brackets : Cal P w K mg base "in_brackets" 1 ["writings"] (spInB K)) : FnOk P w K mg base CX0 2 f fd ["arguments", "given"] spArgs := by
  refine F.ok sc_show_arguments (fun vs H Q E h => ?_) (fun cdv A outer s H vs Q E hr h => ?_)
  · obtain ⟨a, g, qs, ps, ns, zs, rfl, _⟩ := h
    rfl
  obtain ⟨a, g, qs, ps, ns, zs, rfl, ha, hq, hg, lzs, hn, hz, q⟩ := h
  refine ⟨_, (pss_one (ps_ret (pc c_in_brackets (hr.mono (by first | decide | omega)) (pa_cons (pe_lc (own := [("row", 2), ("part", 3)]) (g := (gTup K 2 (gCons (gName 2) (gCons (gName 3) gNil)))) rfl sc_show_arguments.nd (zipM true false K rfl (by rfl) B.b_zip (pa_cons (pv 0) (pa_cons (pv 1) pa_nil))) (blkOk_by (N := ["arguments", "given", "row", "part"]) (sc := defScope s_show_arguments) (by decide +kernel)) (fun _ _ _ _ _ => (pg_tup rfl (pgs_cons (pg_name (i := 2) sc_show_arguments.nd rfl (Or.inl rfl) (hf := Or.inr rfl)) (pgs_cons (pg_name (i := 3) sc_show_arguments.nd rfl (Or.inl rfl) (hf := Or.inr rfl)) pgs_nil)))) (fun _ _ _ _ _ => pts_nil) (fun _ _ _ _ _ => (pe_joined (.cons (pe_fmt (pe_ix (ixT K rfl) (pv 2) pe_int (fun _ _ => rfl))) (.cons pe_str (.cons (pe_fmt (pv 3)) .nil)))))) pa_nil)))), ?_⟩
  have lns := hq.len
  have ll : (List.zipWith (fun n w => cl n ++ cl ": " ++ w) ns (zs.map cl)).length = qs.length := by
    rw [List.length_zipWith, List.length_map]
    omega
  have sl := args_lens ns (zs.map cl) hn
  rw [sumL_lens, List.length_map] at sl
  refine ⟨_, rfl, _, rfl, a, g, qs, zs.map V.str, rfl, SqT.of ha, SqL.of hg, fun D nD => ?_⟩
  have wz : Walk (ItM true false K a g) qs.length (fun H => SqB true K H a qs ∧ SqB false K H g (zs.map V.str)) _ := walk_zipM (by rw [List.length_map]; omega)
  refine lc_it wz (te := fun σ H Q => tJs [tFmt (tOp (rIxT K) (tVar 2) (tC (V.int 0))), tC (V.str ": "), tFmt (tVar 3)] Str.empty σ H fun out H1 => Q (V.str out) H1) (Pargs H D ns zs) ?_ ?_ ?_ ?_
  · exact ⟨same_new nD _, [], upd_same, rfl⟩
  · exact fun i H1 _ p => ⟨SqT.of (p.1 _ _ ha), SqL.of (p.1 _ _ hg)⟩
  · rintro i x H1 H2 hi ⟨s1, ys, hD, e⟩ ⟨T, y, v, rfl, nT, rfl, hy, hv⟩
    have hy : qs[i]? = some y := hy
    have hv : (zs.map V.str)[i]? = some v := hv
    obtain ⟨b, x, p, rfl, hx, _, hb⟩ := hq.get i y hy
    rw [List.getElem?_map] at hv
    obtain ⟨z, hz', rfl⟩ := Option.map_eq_some_iff.mp hv
    have S2 := s1.trans (same_new nT (.tup [.ref b, .str z]))
    have hD2 : (upd H1 T (.tup [.ref b, .str z])) D = some (.lst (ys.map V.str)) := same_new nT _ _ _ hD
    have hT2 : (upd H1 T (.tup [.ref b, .str z])) T = some (.tup [.ref b, .str z]) := upd_same
    generalize upd H1 T (.tup [.ref b, .str z]) = H2 at S2 hD2 hT2 ⊢
    have x8 := hn x (List.mem_of_getElem? hx)
    have zl := sumL_mem (List.mem_of_getElem? hz')
    refine ⟨T, _, rfl, SqT.of hT2, rfl, _, _, rfl, _, _, rfl, rfl, rfl, ?_⟩
    refine ⟨_, rfl, _, _, _, _, rfl, rfl, SqT.of (S2 _ _ hb), rfl, .inl ⟨x, rfl, (lineM (by first | omega | simp only [lenS_app, lenS_emp, lits] <;> omega)), _, rfl, (lineM (by first | omega | simp only [lenS_app, lenS_emp, lits] <;> omega)), _, rfl, (lineM (by first | omega | simp only [lenS_app, lenS_emp, lits] <;> omega)), _, rfl, .inl ⟨z, rfl, (lineM (by first | omega | simp only [lenS_app, lenS_emp, lits] <;> omega)), _, rfl, (lineM (by first | omega | simp only [lenS_app, lenS_emp, lits] <;> omega)), ?_⟩⟩⟩
    have ly := congrArg List.length e
    rw [List.length_map, List.length_take, ll] at ly
    refine ⟨_, hD2, ?_, Same.atNew S2 nD, ys ++ [Str.empty ++ x ++ ": " ++ z], ?_, ?_⟩
    · rw [List.length_map]
      exact Nat.lt_of_le_of_lt (m := 100000) (by omega) (by decide)
    · rw [upd_same, List.map_append]
      rfl
    · rw [List.map_append, e]
      refine take_next ?_
      rw [List.getElem?_zipWith, hx, List.getElem?_map, hz']
      simp only [Option.map_some, List.map_cons, List.map_nil, cl_app, cl_nil, List.nil_append]
  rintro H1 ⟨s1, ys, hD, e⟩
  rw [← ll, List.take_length] at e
  have h1 := sumL_lens ys
  rw [e] at h1
  have h2 := congrArg List.length e
  rw [List.length_map, ll] at h2
  refine ⟨D, ys, rfl, SqL.of hD, by omega, fun z H2 hz s2 => q z H2 (by rw [hz, e]; rfl) (s1.trans s2)⟩
end
end My
namespace My
open PySem L2
/-! the writers of terms, one for each word -/
def spShow1 (sel : Hd → Prop) : Sp := fun vs H Q _ => ∃ (v : V) (g : Addr) (h : Hd) (ps : List V) (zs : List Str), vs = [v, .ref g] ∧ sel h ∧ NdAt H v h ps ∧ h.small ∧ H g = some (.lst (zs.map V.str)) ∧ zs.length = ps.length ∧ sumL zs + 12 * zs.length ≤ 800000 ∧
  ∀ z H', cl z = h.sh (zs.map cl) → Same H H' → Q (.str z) H'
theorem cut_rest {v : V} {xs : List V} : cutV (v :: xs) (some 1) none = xs := by
  have e : HT.sIx (v :: xs).length 0 (some 1) = 1 := by
    show (if (1 : Int) < 0 then ((1 : Int) + ((v :: xs).length : Int)).toNat else min (1 : Int).toNat (v :: xs).length) = 1
    rw [if_neg (by decide), List.length_cons]
    show min 1 (xs.length + 1) = 1
    omega
  have e2 : HT.sIx (v :: xs).length (v :: xs).length none = xs.length + 1 := by rw [HT.sIx_none, List.length_cons]
  unfold cutV
  rw [e, e2]
  show (xs.drop 0).take (xs.length + 1 - 1) = xs
  rw [List.drop_zero, Nat.add_sub_cancel, List.take_length]
theorem one_of {zs : List Str} {u : V} (h : zs.length = [u].length) : ∃ z, zs = [z] := List.length_eq_one_iff.mp h
section
variable {P : Program} {w : World} {K : PySem.W.Frag} {mg : Str → Option Value} {base : Heap} {f : Addr} {fd : FuncData}
def sel_num (h : Hd) : Prop := ∃ i, h = .num i
theorem ok_show_num (B : Bn mg) (F : Fun K "show_num" "show_num" s_show_num f fd) : FnOk P w K mg base CX0 1 f fd ["term", "given"] (spShow1 sel_num) := by
  refine F.ok sc_show_num (fun vs H Q E h => ?_) (fun cdv A outer s H vs Q E hr h => ?_)
  · obtain ⟨v, g, h, ps, zs, rfl, _⟩ := h
    rfl
  obtain ⟨v, g, h, ps, zs, rfl, hs, nd, sm, hg, lzs, hz, q⟩ := h
  refine ⟨_, (pss_one (ps_ret (pe_callTy call_str_int (by rfl) B.b_str (by decide +kernel) (pa_cons (pe_ix (ixT K rfl) (pv 0) pe_int (fun _ _ => rfl)) pa_nil)))), ?_⟩
  obtain ⟨i, rfl⟩ := hs
  cases nd with
  | num ha =>
    exact ⟨_, rfl, _, _, _, _, rfl, rfl, SqT.of ha, rfl, _, rfl, dec_log sm, q _ _ rfl (Same.refl _)⟩
def sel_text (h : Hd) : Prop := ∃ z, h = .text z
theorem ok_show_text (F : Fun K "show_text" "show_text" s_show_text f fd) : FnOk P w K mg base CX0 1 f fd ["term", "given"] (spShow1 sel_text) := by
  refine F.ok sc_show_text (fun vs H Q E h => ?_) (fun cdv A outer s H vs Q E hr h => ?_)
  · obtain ⟨v, g, h, ps, zs, rfl, _⟩ := h
    rfl
  obtain ⟨v, g, h, ps, zs, rfl, hs, nd, sm, hg, lzs, hz, q⟩ := h
  refine ⟨_, (pss_one (ps_ret (pe_joined (.cons pe_str (.cons (pe_fmt (pe_ix (ixT K rfl) (pv 0) pe_int (fun _ _ => rfl))) (.cons pe_str .nil)))))), ?_⟩
  obtain ⟨z, rfl⟩ := hs
  cases nd with
  | text ha =>
    have x8 : z.length ≤ 100 := sm
    refine ⟨_, rfl, (lineM (by first | omega | simp only [lenS_app, lenS_emp, lits] <;> omega)), _, rfl, _, _, _, _, rfl, rfl, SqT.of ha, rfl, .inl ⟨z, rfl, (lineM (by first | omega | simp only [lenS_app, lenS_emp, lits] <;> omega)), _, rfl, (lineM (by first | omega | simp only [lenS_app, lenS_emp, lits] <;> omega)), _, rfl, (lineM (by first | omega | simp only [lenS_app, lenS_emp, lits] <;> omega)), q _ _ ?_ (Same.refl _)⟩⟩
    simp only [Hd.sh, cl_app, cl_nil, List.nil_append]
def sel_call (h : Hd) : Prop := ∃ x ns, h = .call x ns
theorem ok_show_call (F : Fun K "show_call" "show_call" s_show_call f fd) (c_show_arguments : Cal P w K mg base "show_arguments" 2 ["arguments", "given"] spArgs) : FnOk P w K mg base CX0 3 f fd ["term", "given"] (spShow1 sel_call) := by
  refine F.ok sc_show_call (fun vs H Q E h => ?_) (fun cdv A outer s H vs Q E hr h => ?_)
  · obtain ⟨v, g, h, ps, zs, rfl, _⟩ := h
    rfl
  obtain ⟨v, g, h, ps, zs, rfl, hs, nd, sm, hg, lzs, hz, q⟩ := h
  refine ⟨_, (pss_one (ps_ret (pe_joined (.cons (pe_fmt (pe_ix (ixT K rfl) (pv 0) pe_int (fun _ _ => rfl))) (.cons (pe_fmt (pc c_show_arguments (hr.mono (by first | decide | omega)) (pa_cons (pe_ix (ixT K rfl) (pv 0) pe_int (fun _ _ => rfl)) (pa_cons (pv 1) pa_nil)))) .nil))))), ?_⟩
  obtain ⟨x, ns, rfl⟩ := hs
  cases nd with
  | call ha hg2 hq =>
    have x8 := sm.1
    have al := argsL_len (ws := zs.map cl) sm.2
    rw [sumL_lens, List.length_map] at al
    refine ⟨_, rfl, _, _, _, _, rfl, rfl, SqT.of ha, rfl, .inl ⟨x, rfl, (lineM (by first | omega | simp only [lenS_app, lenS_emp, lits] <;> omega)), _, rfl, (lineM (by first | omega | simp only [lenS_app, lenS_emp, lits] <;> omega)), _, rfl, _, _, _, _, rfl, rfl, SqT.of ha, rfl, _, rfl, _, _, _, _, _, _, rfl, hg2, hq, hg, by have := hq.len.1; omega, sm.2, by omega, fun y H1 hy s1 => ?_⟩⟩
    have ly : y.length ≤ 900000 := by rw [← cl_len, hy]; omega
    refine .inl ⟨y, rfl, (lineM (by first | omega | simp only [lenS_app, lenS_emp, lits] <;> omega)), _, rfl, (lineM (by first | omega | simp only [lenS_app, lenS_emp, lits] <;> omega)), q _ _ ?_ s1⟩
    simp only [Hd.sh, cl_app, cl_nil, List.nil_append, hy]
def sel_make (h : Hd) : Prop := ∃ x ns, h = .make x ns
theorem ok_show_make (F : Fun K "show_make" "show_make" s_show_make f fd) (c_show_arguments : Cal P w K mg base "show_arguments" 2 ["arguments", "given"] spArgs) : FnOk P w K mg base CX0 3 f fd ["term", "given"] (spShow1 sel_make) := by
  refine F.ok sc_show_make (fun vs H Q E h => ?_) (fun cdv A outer s H vs Q E hr h => ?_)
  · obtain ⟨v, g, h, ps, zs, rfl, _⟩ := h
    rfl
  obtain ⟨v, g, h, ps, zs, rfl, hs, nd, sm, hg, lzs, hz, q⟩ := h
  refine ⟨_, (pss_one (ps_ret (pe_joined (.cons pe_str (.cons (pe_fmt (pe_ix (ixT K rfl) (pv 0) pe_int (fun _ _ => rfl))) (.cons (pe_fmt (pc c_show_arguments (hr.mono (by first | decide | omega)) (pa_cons (pe_ix (ixT K rfl) (pv 0) pe_int (fun _ _ => rfl)) (pa_cons (pv 1) pa_nil)))) .nil)))))), ?_⟩
  obtain ⟨x, ns, rfl⟩ := hs
  cases nd with
  | make ha hg2 hq =>
    have x8 := sm.1
    have al := argsL_len (ws := zs.map cl) sm.2
    rw [sumL_lens, List.length_map] at al
    refine ⟨_, rfl, (lineM (by first | omega | simp only [lenS_app, lenS_emp, lits] <;> omega)), _, rfl, _, _, _, _, rfl, rfl, SqT.of ha, rfl, .inl ⟨x, rfl, (lineM (by first | omega | simp only [lenS_app, lenS_emp, lits] <;> omega)), _, rfl, (lineM (by first | omega | simp only [lenS_app, lenS_emp, lits] <;> omega)), _, rfl, _, _, _, _, rfl, rfl, SqT.of ha, rfl, _, rfl, _, _, _, _, _, _, rfl, hg2, hq, hg, by have := hq.len.1; omega, sm.2, by omega, fun y H1 hy s1 => ?_⟩⟩
    have ly : y.length ≤ 900000 := by rw [← cl_len, hy]; omega
    refine .inl ⟨y, rfl, (lineM (by first | omega | simp only [lenS_app, lenS_emp, lits] <;> omega)), _, rfl, (lineM (by first | omega | simp only [lenS_app, lenS_emp, lits] <;> omega)), q _ _ ?_ s1⟩
    simp only [Hd.sh, cl_app, cl_nil, List.nil_append, hy]
def sel_get (h : Hd) : Prop := ∃ x, h = .get x
theorem ok_show_get (F : Fun K "show_get" "show_get" s_show_get f fd) : FnOk P w K mg base CX0 1 f fd ["term", "given"] (spShow1 sel_get) := by
  refine F.ok sc_show_get (fun vs H Q E h => ?_) (fun cdv A outer s H vs Q E hr h => ?_)
  · obtain ⟨v, g, h, ps, zs, rfl, _⟩ := h
    rfl
  obtain ⟨v, g, h, ps, zs, rfl, hs, nd, sm, hg, lzs, hz, q⟩ := h
  refine ⟨_, (pss_one (ps_ret (pe_joined (.cons (pe_fmt (pe_ix (ixL K rfl) (pv 1) pe_int (fun _ _ => rfl))) (.cons pe_str (.cons (pe_fmt (pe_ix (ixT K rfl) (pv 0) pe_int (fun _ _ => rfl))) .nil)))))), ?_⟩
  obtain ⟨x, rfl⟩ := hs
  cases nd with
  | get ha =>
    have x8 : x.length ≤ 8 := sm
    obtain ⟨z, rfl⟩ := one_of lzs
    have zl : z.length ≤ 800000 := by have := sumL_mem (z := z) (zs := [z]) (.head _); omega
    refine ⟨_, rfl, _, _, _, _, rfl, rfl, SqL.of hg, at_of rfl rfl, .inl ⟨z, rfl, (lineM (by first | omega | simp only [lenS_app, lenS_emp, lits] <;> omega)), _, rfl, (lineM (by first | omega | simp only [lenS_app, lenS_emp, lits] <;> omega)), _, rfl, (lineM (by first | omega | simp only [lenS_app, lenS_emp, lits] <;> omega)), _, rfl, _, _, _, _, rfl, rfl, SqT.of ha, rfl, .inl ⟨x, rfl, (lineM (by first | omega | simp only [lenS_app, lenS_emp, lits] <;> omega)), _, rfl, (lineM (by first | omega | simp only [lenS_app, lenS_emp, lits] <;> omega)), q _ _ ?_ (Same.refl _)⟩⟩⟩
    simp only [Hd.sh, cl_app, cl_nil, List.nil_append, List.map_cons, List.map_nil, List.headD_cons]
def sel_case (h : Hd) : Prop := (∃ x c, h = .bare x c) ∨ ∃ x c, h = .case x c
theorem ok_show_case (F : Fun K "show_case" "show_case" s_show_case f fd) : FnOk P w K mg base CX0 1 f fd ["term", "given"] (spShow1 sel_case) := by
  refine F.ok sc_show_case (fun vs H Q E h => ?_) (fun cdv A outer s H vs Q E hr h => ?_)
  · obtain ⟨v, g, h, ps, zs, rfl, _⟩ := h
    rfl
  obtain ⟨v, g, h, ps, zs, rfl, hs, nd, sm, hg, lzs, hz, q⟩ := h
  refine ⟨_, (pss_one (ps_ret (pe_ifExp (truth K rfl (pv 1)) (pe_joined (.cons (pe_fmt (pe_ix (ixT K rfl) (pv 0) pe_int (fun _ _ => rfl))) (.cons pe_str (.cons (pe_fmt (pe_ix (ixT K rfl) (pv 0) pe_int (fun _ _ => rfl))) (.cons pe_str (.cons (pe_fmt (pe_ix (ixL K rfl) (pv 1) pe_int (fun _ _ => rfl))) (.cons pe_str .nil))))))) (pe_joined (.cons (pe_fmt (pe_ix (ixT K rfl) (pv 0) pe_int (fun _ _ => rfl))) (.cons pe_str (.cons (pe_fmt (pe_ix (ixT K rfl) (pv 0) pe_int (fun _ _ => rfl))) .nil))))))), ?_⟩
  rcases hs with ⟨x, c, rfl⟩ | ⟨x, c, rfl⟩
  · cases nd with
    | bare ha =>
      obtain rfl := List.eq_nil_of_length_eq_zero lzs
      have x8 := sm.1
      have c8 := sm.2
      refine ⟨_, rfl, _, .inl ⟨_, SqL.of hg, rfl⟩, iteF ⟨_, rfl, _, _, _, _, rfl, rfl, SqT.of ha, rfl, .inl ⟨x, rfl, (lineM (by first | omega | simp only [lenS_app, lenS_emp, lits] <;> omega)), _, rfl, (lineM (by first | omega | simp only [lenS_app, lenS_emp, lits] <;> omega)), _, rfl, (lineM (by first | omega | simp only [lenS_app, lenS_emp, lits] <;> omega)), _, rfl, _, _, _, _, rfl, rfl, SqT.of ha, rfl, .inl ⟨c, rfl, (lineM (by first | omega | simp only [lenS_app, lenS_emp, lits] <;> omega)), _, rfl, (lineM (by first | omega | simp only [lenS_app, lenS_emp, lits] <;> omega)), q _ _ ?_ (Same.refl _)⟩⟩⟩⟩
      simp only [Hd.sh, cl_app, cl_nil, List.nil_append]
  · cases nd with
    | case ha =>
      obtain ⟨z, rfl⟩ := one_of lzs
      have zl : z.length ≤ 800000 := by have := sumL_mem (z := z) (zs := [z]) (.head _); omega
      have x8 := sm.1
      have c8 := sm.2
      refine ⟨_, rfl, _, .inl ⟨_, SqL.of hg, rfl⟩, iteT ⟨_, rfl, _, _, _, _, rfl, rfl, SqT.of ha, rfl, .inl ⟨x, rfl, (lineM (by first | omega | simp only [lenS_app, lenS_emp, lits] <;> omega)), _, rfl, (lineM (by first | omega | simp only [lenS_app, lenS_emp, lits] <;> omega)), _, rfl, (lineM (by first | omega | simp only [lenS_app, lenS_emp, lits] <;> omega)), _, rfl, _, _, _, _, rfl, rfl, SqT.of ha, rfl, .inl ⟨c, rfl, (lineM (by first | omega | simp only [lenS_app, lenS_emp, lits] <;> omega)), _, rfl, (lineM (by first | omega | simp only [lenS_app, lenS_emp, lits] <;> omega)), _, rfl, (lineM (by first | omega | simp only [lenS_app, lenS_emp, lits] <;> omega)), _, rfl, _, _, _, _, rfl, rfl, SqL.of hg, at_of rfl rfl, .inl ⟨z, rfl, (lineM (by first | omega | simp only [lenS_app, lenS_emp, lits] <;> omega)), _, rfl, (lineM (by first | omega | simp only [lenS_app, lenS_emp, lits] <;> omega)), _, rfl, (lineM (by first | omega | simp only [lenS_app, lenS_emp, lits] <;> omega)), q _ _ ?_ (Same.refl _)⟩⟩⟩⟩⟩
      simp only [Hd.sh, cl_app, cl_nil, List.nil_append, List.map_cons, List.map_nil, List.headD_cons]
def sel_as (h : Hd) : Prop := ∃ x, h = .as_ x
theorem ok_show_as (F : Fun K "show_as" "show_as" s_show_as f fd) : FnOk P w K mg base CX0 1 f fd ["term", "given"] (spShow1 sel_as) := by
  refine F.ok sc_show_as (fun vs H Q E h => ?_) (fun cdv A outer s H vs Q E hr h => ?_)
  · obtain ⟨v, g, h, ps, zs, rfl, _⟩ := h
    rfl
  obtain ⟨v, g, h, ps, zs, rfl, hs, nd, sm, hg, lzs, hz, q⟩ := h
  refine ⟨_, (pss_one (ps_ret (pe_joined (.cons pe_str (.cons (pe_fmt (pe_ix (ixL K rfl) (pv 1) pe_int (fun _ _ => rfl))) (.cons pe_str (.cons (pe_fmt (pe_ix (ixT K rfl) (pv 0) pe_int (fun _ _ => rfl))) (.cons pe_str .nil)))))))), ?_⟩
  obtain ⟨x, rfl⟩ := hs
  cases nd with
  | as_ ha =>
    have x8 : x.length ≤ 8 := sm
    obtain ⟨z, rfl⟩ := one_of lzs
    have zl : z.length ≤ 800000 := by have := sumL_mem (z := z) (zs := [z]) (.head _); omega
    refine ⟨_, rfl, (lineM (by first | omega | simp only [lenS_app, lenS_emp, lits] <;> omega)), _, rfl, _, _, _, _, rfl, rfl, SqL.of hg, at_of rfl rfl, .inl ⟨z, rfl, (lineM (by first | omega | simp only [lenS_app, lenS_emp, lits] <;> omega)), _, rfl, (lineM (by first | omega | simp only [lenS_app, lenS_emp, lits] <;> omega)), _, rfl, (lineM (by first | omega | simp only [lenS_app, lenS_emp, lits] <;> omega)), _, rfl, _, _, _, _, rfl, rfl, SqT.of ha, rfl, .inl ⟨x, rfl, (lineM (by first | omega | simp only [lenS_app, lenS_emp, lits] <;> omega)), _, rfl, (lineM (by first | omega | simp only [lenS_app, lenS_emp, lits] <;> omega)), _, rfl, (lineM (by first | omega | simp only [lenS_app, lenS_emp, lits] <;> omega)), q _ _ ?_ (Same.refl _)⟩⟩⟩
    simp only [Hd.sh, cl_app, cl_nil, List.nil_append, List.map_cons, List.map_nil, List.headD_cons]
def sel_look (h : Hd) : Prop := ∃ xs, h = .look xs
theorem ok_show_look (F : Fun K "show_look" "show_look" s_show_look f fd) (c_show_others : Cal P w K mg base "show_others" 1 ["first", "others"] (spOth K)) : FnOk P w K mg base CX0 2 f fd ["term", "given"] (spShow1 sel_look) := by
  refine F.ok sc_show_look (fun vs H Q E h => ?_) (fun cdv A outer s H vs Q E hr h => ?_)
  · obtain ⟨v, g, h, ps, zs, rfl, _⟩ := h
    rfl
  obtain ⟨v, g, h, ps, zs, rfl, hs, nd, sm, hg, lzs, hz, q⟩ := h
  refine ⟨_, (pss_one (ps_ret (pe_joined (.cons pe_str (.cons (pe_fmt (pc c_show_others (hr.mono (by first | decide | omega)) (pa_cons (pe_ix (ixL K rfl) (pv 1) pe_int (fun _ _ => rfl)) (pa_cons (pe_ix (ixT K rfl) (pv 0) pe_int (fun _ _ => rfl)) pa_nil)))) (.cons pe_str .nil)))))), ?_⟩
  obtain ⟨xs, rfl⟩ := hs
  cases nd with
  | look ha hg2 =>
    have l8 := lens_names xs sm.2
    rw [sumL_lens] at l8
    have x8 := sm.1
    obtain ⟨z, rfl⟩ := one_of lzs
    have zl : z.length ≤ 800000 := by have := sumL_mem (z := z) (zs := [z]) (.head _); omega
    have ol := othL_len (cl z) (xs.map cl)
    rw [sumL_lens, List.length_map, cl_len] at ol
    refine ⟨_, rfl, (lineM (by first | omega | simp only [lenS_app, lenS_emp, lits] <;> omega)), _, rfl, _, _, _, _, rfl, rfl, SqL.of hg, at_of rfl rfl, _, rfl, _, _, _, _, rfl, rfl, SqT.of ha, rfl, _, _, _, rfl, .inr (SqT.of hg2), by omega, fun y H1 hy s1 => ?_⟩
    have ly : y.length ≤ 900000 := by rw [← cl_len, hy]; omega
    refine .inl ⟨y, rfl, (lineM (by first | omega | simp only [lenS_app, lenS_emp, lits] <;> omega)), _, rfl, (lineM (by first | omega | simp only [lenS_app, lenS_emp, lits] <;> omega)), _, rfl, (lineM (by first | omega | simp only [lenS_app, lenS_emp, lits] <;> omega)), q _ _ ?_ s1⟩
    simp only [Hd.sh, cl_app, cl_nil, List.nil_append, hy, List.map_cons, List.map_nil, List.headD_cons]
def sel_one (h : Hd) : Prop := h = .one
theorem ok_show_one (F : Fun K "show_one" "show_one" s_show_one f fd) : FnOk P w K mg base CX0 1 f fd ["term", "given"] (spShow1 sel_one) := by
  refine F.ok sc_show_one (fun vs H Q E h => ?_) (fun cdv A outer s H vs Q E hr h => ?_)
  · obtain ⟨v, g, h, ps, zs, rfl, _⟩ := h
    rfl
  obtain ⟨v, g, h, ps, zs, rfl, hs, nd, sm, hg, lzs, hz, q⟩ := h
  refine ⟨_, (pss_one (ps_ret (pe_joined (.cons pe_str (.cons (pe_fmt (pe_ix (ixL K rfl) (pv 1) pe_int (fun _ _ => rfl))) (.cons pe_str .nil)))))), ?_⟩
  obtain rfl := hs
  cases nd with
  | one ha =>
    obtain ⟨z, rfl⟩ := one_of lzs
    have zl : z.length ≤ 800000 := by have := sumL_mem (z := z) (zs := [z]) (.head _); omega
    refine ⟨_, rfl, (lineM (by first | omega | simp only [lenS_app, lenS_emp, lits] <;> omega)), _, rfl, _, _, _, _, rfl, rfl, SqL.of hg, at_of rfl rfl, .inl ⟨z, rfl, (lineM (by first | omega | simp only [lenS_app, lenS_emp, lits] <;> omega)), _, rfl, (lineM (by first | omega | simp only [lenS_app, lenS_emp, lits] <;> omega)), _, rfl, (lineM (by first | omega | simp only [lenS_app, lenS_emp, lits] <;> omega)), q _ _ ?_ (Same.refl _)⟩⟩
    simp only [Hd.sh, cl_app, cl_nil, List.nil_append, List.map_cons, List.map_nil, List.headD_cons]
def sel_answer (h : Hd) : Prop := ∃ n, h = .answer n
theorem ok_show_answer (F : Fun K "show_answer" "show_answer" s_show_answer f fd) : FnOk P w K mg base CX0 1 f fd ["term", "given"] (spShow1 sel_answer) := by
  refine F.ok sc_show_answer (fun vs H Q E h => ?_) (fun cdv A outer s H vs Q E hr h => ?_)
  · obtain ⟨v, g, h, ps, zs, rfl, _⟩ := h
    rfl
  obtain ⟨v, g, h, ps, zs, rfl, hs, nd, sm, hg, lzs, hz, q⟩ := h
  refine ⟨_, (pss_one (ps_ret (pe_joined (.cons pe_str (.cons (pe_fmt (pe_ix (ixT K rfl) (pv 0) pe_int (fun _ _ => rfl))) (.cons pe_str (.cons (pe_fmt (pe_ix (ixL K rfl) (pv 1) pe_int (fun _ _ => rfl))) (.cons pe_str .nil)))))))), ?_⟩
  obtain ⟨n, rfl⟩ := hs
  cases nd with
  | answer ha =>
    have dl : (Str.ofString (toString n)).length ≤ 63 := dec_len (i := n) sm
    obtain ⟨z, rfl⟩ := one_of lzs
    have zl : z.length ≤ 800000 := by have := sumL_mem (z := z) (zs := [z]) (.head _); omega
    refine ⟨_, rfl, (lineM (by first | omega | simp only [lenS_app, lenS_emp, lits] <;> omega)), _, rfl, _, _, _, _, rfl, rfl, SqT.of ha, rfl, .inr ⟨n, rfl, dec_log sm, _, rfl, (lineM (by first | omega | simp only [lenS_app, lenS_emp, lits] <;> omega)), _, rfl, (lineM (by first | omega | simp only [lenS_app, lenS_emp, lits] <;> omega)), _, rfl, _, _, _, _, rfl, rfl, SqL.of hg, at_of rfl rfl, .inl ⟨z, rfl, (lineM (by first | omega | simp only [lenS_app, lenS_emp, lits] <;> omega)), _, rfl, (lineM (by first | omega | simp only [lenS_app, lenS_emp, lits] <;> omega)), _, rfl, (lineM (by first | omega | simp only [lenS_app, lenS_emp, lits] <;> omega)), q _ _ ?_ (Same.refl _)⟩⟩⟩
    simp only [Hd.sh, cl_app, cl_nil, List.nil_append, List.map_cons, List.map_nil, List.headD_cons]
def sel_ask (h : Hd) : Prop := h = .ask
theorem ok_show_ask (F : Fun K "show_ask" "show_ask" s_show_ask f fd) (c_show_others : Cal P w K mg base "show_others" 1 ["first", "others"] (spOth K)) : FnOk P w K mg base CX0 2 f fd ["term", "given"] (spShow1 sel_ask) := by
  refine F.ok sc_show_ask (fun vs H Q E h => ?_) (fun cdv A outer s H vs Q E hr h => ?_)
  · obtain ⟨v, g, h, ps, zs, rfl, _⟩ := h
    rfl
  obtain ⟨v, g, h, ps, zs, rfl, hs, nd, sm, hg, lzs, hz, q⟩ := h
  refine ⟨_, (pss_one (ps_ret (pe_joined (.cons pe_str (.cons (pe_fmt (pc c_show_others (hr.mono (by first | decide | omega)) (pa_cons (pe_ix (ixL K rfl) (pv 1) pe_int (fun _ _ => rfl)) (pa_cons (pe_slice (slL K rfl) (pv 1) (po_some pe_int) po_none) pa_nil)))) (.cons pe_str .nil)))))), ?_⟩
  obtain rfl := hs
  cases nd with
  | ask ha hg2 =>
    obtain ⟨z, r, rfl⟩ : ∃ z r, zs = z :: r := by
      cases zs with
      | nil => cases lzs
      | cons z r => exact ⟨z, r, rfl⟩
    have hs : sumL (z :: r) = z.length + sumL r := by simp [sumL]
    rw [hs, List.length_cons] at hz
    have ol := othL_len (cl z) (r.map cl)
    rw [sumL_lens, List.length_map, cl_len] at ol
    refine ⟨_, rfl, (lineM (by first | omega | simp only [lenS_app, lenS_emp, lits] <;> omega)), _, rfl, _, _, _, _, rfl, rfl, SqL.of hg, at_of rfl rfl, _, rfl, _, rfl, _, _, rfl, SqL.of hg, fun l nl => ?_⟩
    rw [show (List.map V.str (z :: r)) = V.str z :: r.map V.str from rfl, cut_rest]
    have sl := same_new nl (.lst (r.map V.str))
    refine ⟨_, _, r, rfl, .inl (SqL.of upd_same), by omega, fun y H1 hy s1 => ?_⟩
    have ly : y.length ≤ 900000 := by rw [← cl_len, hy]; omega
    refine .inl ⟨y, rfl, (lineM (by first | omega | simp only [lenS_app, lenS_emp, lits] <;> omega)), _, rfl, (lineM (by first | omega | simp only [lenS_app, lenS_emp, lits] <;> omega)), _, rfl, (lineM (by first | omega | simp only [lenS_app, lenS_emp, lits] <;> omega)), q _ _ ?_ (sl.trans s1)⟩
    simp only [Hd.sh, cl_app, cl_nil, List.nil_append, hy, List.map_cons, List.headD_cons, List.tail_cons]
def sel_handed (h : Hd) : Prop := ∃ x p i ns, h = .handed x p i ns
theorem ok_show_handed (F : Fun K "show_handed" "show_handed" s_show_handed f fd) (c_show_arguments : Cal P w K mg base "show_arguments" 2 ["arguments", "given"] spArgs) : FnOk P w K mg base CX0 3 f fd ["term", "given"] (spShow1 sel_handed) := by
  refine F.ok sc_show_handed (fun vs H Q E h => ?_) (fun cdv A outer s H vs Q E hr h => ?_)
  · obtain ⟨v, g, h, ps, zs, rfl, _⟩ := h
    rfl
  obtain ⟨v, g, h, ps, zs, rfl, hs, nd, sm, hg, lzs, hz, q⟩ := h
  refine ⟨_, (pss_one (ps_ret (pe_joined (.cons (pe_fmt (pe_ix (ixT K rfl) (pv 0) pe_int (fun _ _ => rfl))) (.cons pe_str (.cons (pe_fmt (pe_ix (ixT K rfl) (pv 0) pe_int (fun _ _ => rfl))) (.cons pe_str (.cons (pe_fmt (pe_ix (ixT K rfl) (pv 0) pe_int (fun _ _ => rfl))) (.cons (pe_fmt (pc c_show_arguments (hr.mono (by first | decide | omega)) (pa_cons (pe_ix (ixT K rfl) (pv 0) pe_int (fun _ _ => rfl)) (pa_cons (pv 1) pa_nil)))) .nil))))))))), ?_⟩
  obtain ⟨x, p, i, ns, rfl⟩ := hs
  cases nd with
  | handed ha hg2 hq =>
    obtain ⟨x8, p8, i8, n8⟩ := sm
    have dl : (Str.ofString (toString i)).length ≤ 63 := dec_len i8
    have al := argsL_len (ws := zs.map cl) n8
    rw [sumL_lens, List.length_map] at al
    refine ⟨_, rfl, _, _, _, _, rfl, rfl, SqT.of ha, rfl, .inl ⟨x, rfl, (lineM (by first | omega | simp only [lenS_app, lenS_emp, lits] <;> omega)), _, rfl, (lineM (by first | omega | simp only [lenS_app, lenS_emp, lits] <;> omega)), _, rfl, (lineM (by first | omega | simp only [lenS_app, lenS_emp, lits] <;> omega)), _, rfl, _, _, _, _, rfl, rfl, SqT.of ha, rfl, .inl ⟨p, rfl, (lineM (by first | omega | simp only [lenS_app, lenS_emp, lits] <;> omega)), _, rfl, (lineM (by first | omega | simp only [lenS_app, lenS_emp, lits] <;> omega)), _, rfl, (lineM (by first | omega | simp only [lenS_app, lenS_emp, lits] <;> omega)), _, rfl, _, _, _, _, rfl, rfl, SqT.of ha, rfl, .inr ⟨i, rfl, dec_log i8, _, rfl, (lineM (by first | omega | simp only [lenS_app, lenS_emp, lits] <;> omega)), _, rfl, _, _, _, _, rfl, rfl, SqT.of ha, rfl, _, rfl, _, _, _, _, _, _, rfl, hg2, hq, hg, by have := hq.len.1; omega, n8, by omega, fun y H1 hy s1 => ?_⟩⟩⟩⟩
    have ly : y.length ≤ 900000 := by rw [← cl_len, hy]; omega
    refine .inl ⟨y, rfl, (lineM (by first | omega | simp only [lenS_app, lenS_emp, lits] <;> omega)), _, rfl, (lineM (by first | omega | simp only [lenS_app, lenS_emp, lits] <;> omega)), q _ _ ?_ s1⟩
    simp only [Hd.sh, cl_app, cl_nil, List.nil_append, hy]
end
end My
namespace My
open PySem L2
/-! the law's own writer of terms -/
def spTsh (e : Nat) : Sp := fun vs H Q _ => ∃ (v : V) (t : Tm), vs = [v] ∧ TmAt H v t ∧ t.small ∧ t.size ≤ 2600 ∧ t.depth ≤ e ∧ ∀ z H', cl z = t.sh → Same H H' → Q (.str z) H'
def spGsh (e : Nat) : Sp := fun vs H Q _ => ∃ (a : Addr) (qs ps : List V) (ns : List Str) (ts : List Tm), vs = [.ref a] ∧ H a = some (.tup qs) ∧ ArgsAt H qs ns ps ∧ TmsAt H ps ts ∧ (∀ n ∈ ns, n.length ≤ 8) ∧ Tm.smalls ts ∧ Tm.sizes ts ≤ 2600 ∧ Tm.depths ts ≤ e ∧
  ∀ z H', cl z = argsL ns (ts.map Tm.sh) → Same H H' → Q (.str z) H'
def spBsh (K : PySem.W.Frag) (e : Nat) : Sp := fun vs H Q _ => ∃ (v : V) (t : Tm) (l : Addr) (zs : List Str), vs = [v, .ref l] ∧ TmAt H v t ∧ t.small ∧ t.size ≤ 2600 ∧ t.depth ≤ e ∧ SqL K H l (zs.map V.str) ∧ sumL zs + 2 * zs.length ≤ 800000 ∧
  ∀ z H', cl z = cl "(" ++ othL t.sh (zs.map cl) ++ cl ")" → Same H H' → Q (.str z) H'
theorem sh_short {t : Tm} (s : t.small) (h : t.size ≤ 2600) {z : Str} (e : cl z = t.sh) : z.length ≤ 780000 := by
  have := Tm.sh_len t s
  rw [← cl_len, e]
  omega
def Pgsh (H0 : Hp) (D : Addr) (ns : List Str) (ws : List (List Nat)) (i : Nat) (H : Hp) : Prop := Same H0 H ∧ ∃ ys : List Str, H D = some (.lst (ys.map V.str)) ∧ ys.map cl = (List.zipWith (fun n w => cl n ++ cl ": " ++ w) ns ws).take i
def Pash (H0 : Hp) (D : Addr) (ts : List Tm) (i : Nat) (H : Hp) : Prop := Same H0 H ∧ ∃ ys : List Str, H D = some (.lst (ys.map V.str)) ∧ ys.map cl = (ts.map Tm.sh).take i
section
variable {P : Program} {w : World} {K : PySem.W.Frag} {mg : Str → Option Value} {base : Heap} {f fg fb : Addr} {fd fdg fdb : FuncData}
theorem ok_given_shown (B : Bn mg) (F : Fun K "_law_given_shown" "_law_given_shown" s__law_given_shown f fd) {j e : Nat} (c__law_term_shown : Cal P w K mg base "_law_term_shown" j ["whole"] (spTsh e)) : FnOk P w K mg base CX0 (j + 1) f fd ["given"] (spGsh e) := by
  refine F.ok sc__law_given_shown (fun vs H Q E h => ?_) (fun cdv A outer s H vs Q E hr h => ?_)
  · obtain ⟨a, qs, ps, ns, ts, rfl, _⟩ := h
    rfl
  obtain ⟨a, qs, ps, ns, ts, rfl, ha, hq, hts, hn, sm, sz, dp, q⟩ := h
  refine ⟨_, (pss_one (ps_ret (pe_op op_add_str (pe_op op_add_str pe_str (pe_join pe_str (pe_lc (own := [("name", 1), ("whole", 2)]) (g := (gTup K 2 (gCons (gName 1) (gCons (gName 2) gNil)))) rfl sc__law_given_shown.nd (piT K rfl (pv 0)) (blkOk_by (N := ["given", "name", "whole"]) (sc := defScope s__law_given_shown) (by decide +kernel)) (fun _ _ _ _ _ => (pg_tup rfl (pgs_cons (pg_name (i := 1) sc__law_given_shown.nd rfl (Or.inl rfl) (hf := Or.inr rfl)) (pgs_cons (pg_name (i := 2) sc__law_given_shown.nd rfl (Or.inl rfl) (hf := Or.inr rfl)) pgs_nil)))) (fun _ _ _ _ _ => pts_nil) (fun _ _ _ _ _ => (pe_op op_add_str (pe_op op_add_str (pv 1) pe_str) (pc c__law_term_shown (hr.mono (by first | decide | omega)) (pa_cons (pv 2) pa_nil))))))) pe_str))), ?_⟩
  have lns := hq.len
  have lts := hts.len
  have ll : (List.zipWith (fun n w => cl n ++ cl ": " ++ w) ns (ts.map Tm.sh)).length = qs.length := by
    rw [List.length_zipWith, List.length_map]
    omega
  have sl := args_lens ns (ts.map Tm.sh) hn
  have tl := Tm.shs_len ts sm
  rw [Tm.shs_map] at tl
  have lm : (ts.map Tm.sh).length = ts.length := List.length_map _
  have lq := Tm.len_sizes ts
  refine ⟨⟨_, rfl⟩, _, rfl, a, rfl, ⟨_, SqT.of ha⟩, fun D nD => lc_tup (xs := qs) (Pgsh H D ns (ts.map Tm.sh)) ?_ ?_ ?_ ?_⟩
  · exact ⟨same_new nD _, [], upd_same, rfl⟩
  · exact fun i H1 _ p => SqT.of (p.1 _ _ ha)
  · rintro i x H1 hx ⟨s1, ys, hD, ey⟩
    obtain ⟨b, nm, u, rfl, hnm, hu, hb⟩ := hq.get i x hx
    have hi : i < ps.length := (List.getElem?_eq_some_iff.mp hu).1
    obtain ⟨t, ht⟩ : ∃ t, ts[i]? = some t := ⟨_, List.getElem?_eq_getElem (by omega)⟩
    obtain ⟨u', hu', tm⟩ := hts.get i t ht
    rw [hu] at hu'
    cases hu'
    have x8 := hn nm (List.mem_of_getElem? hnm)
    have m := List.mem_of_getElem? ht
    have z1 := Tm.sizes_mem m
    have z2 := Tm.depths_mem m
    have tsm := Tm.smalls_mem sm m
    refine ⟨b, _, rfl, SqT.of (s1 _ _ hb), rfl, _, _, rfl, _, _, rfl, rfl, rfl, ?_⟩
    refine ⟨_, rfl, _, _, rfl, rfl, (lineM (by first | omega | simp only [lenS_app, lenS_emp, lits] <;> omega)), _, rfl, u, t, rfl, tm.mono (Tups.of_same s1), tsm, by omega, by omega, fun z H2 hz s2 => ?_⟩
    have zl := sh_short tsm (by omega) hz
    have ly := congrArg List.length ey
    rw [List.length_map, List.length_take, ll] at ly
    refine ⟨_, _, rfl, rfl, (lineM (by first | omega | simp only [lenS_app, lenS_emp, lits] <;> omega)), _, s2 _ _ hD, ?_, Same.atNew (s1.trans s2) nD, ys ++ [nm ++ ": " ++ z], ?_, ?_⟩
    · rw [List.length_map]
      exact Nat.lt_of_le_of_lt (m := 100000) (by omega) (by decide)
    · rw [upd_same, List.map_append]
      rfl
    · rw [List.map_append, ey]
      refine take_next ?_
      rw [List.getElem?_zipWith, hnm, List.getElem?_map, ht]
      simp only [Option.map_some, List.map_cons, List.map_nil, cl_app, hz]
  rintro H1 ⟨s1, ys, hD, ey⟩
  rw [← ll, List.take_length] at ey
  have h1 := sumL_lens ys
  rw [ey] at h1
  have h2 := congrArg List.length ey
  rw [List.length_map, ll] at h2
  unfold sumL at h1
  have lc : (", " : Str).length = 2 := rfl
  refine ⟨_, D, ys, rfl, rfl, .inl (SqL.of hD), by rw [lc]; omega, ?_⟩
  have ej := txt_join ", " ys
  have el := txt_join_len ", " ys
  rw [lc] at el
  generalize Txt.join ", " ys = j at ej el ⊢
  refine ⟨_, _, rfl, rfl, (lineM (by first | omega | simp only [lenS_app, lenS_emp, lits] <;> omega)), _, _, rfl, rfl, (lineM (by first | omega | simp only [lenS_app, lenS_emp, lits] <;> omega)), q _ _ ?_ s1⟩
  rw [cl_app, cl_app, ej, ey]
  rfl
theorem ok_behind_shown (B : Bn mg) (F : Fun K "_law_behind_shown" "_law_behind_shown" s__law_behind_shown f fd) {j e : Nat} (c__law_term_shown : Cal P w K mg base "_law_term_shown" j ["whole"] (spTsh e)) : FnOk P w K mg base CX0 (j + 1) f fd ["whole", "others"] (spBsh K e) := by
  refine F.ok sc__law_behind_shown (fun vs H Q E h => ?_) (fun cdv A outer s H vs Q E hr h => ?_)
  · obtain ⟨v, t, l, zs, rfl, _⟩ := h
    rfl
  obtain ⟨v, t, l, zs, rfl, ht, sm, sz, dp, hl, hz, q⟩ := h
  refine ⟨_, (pss_cons (ps_set (i := 2) sc__law_behind_shown.nd rfl (Or.inl rfl) (pe_op op_add_str pe_str (pc c__law_term_shown (hr.mono (by first | decide | omega)) (pa_cons (pv 0) pa_nil))))
    (pss_cons (ps_if (pt_cmpR op_gt (pe_callB (lenSeq K rfl) (by rfl) B.b_len PySem.boot_len (pa_cons (pv 1) pa_nil)) pe_int (nomark _)) (pss_one (ps_set (i := 2) sc__law_behind_shown.nd rfl (Or.inl rfl) (pe_op op_add_str (pe_op op_add_str (pv 2) pe_str) (pe_join pe_str (pv 1))))) pss_nil)
    (pss_one (ps_ret (pe_op op_add_str (pv 2) pe_str))))), ?_⟩
  have lc : (", " : Str).length = 2 := rfl
  unfold sumL at hz
  refine ⟨_, rfl, v, t, rfl, ht, sm, sz, dp, fun z H1 hz1 s1 => ?_⟩
  have zl := sh_short sm sz hz1
  refine ⟨_, _, rfl, rfl, (lineM (by first | omega | simp only [lenS_app, lenS_emp, lits] <;> omega)), ?_⟩
  have hl1 := s1.seq hl
  refine ⟨_, rfl, l, _, rfl, .inl hl1, _, _, rfl, rfl, _, rfl, ?_⟩
  cases zs with
  | nil =>
    refine ifF (by decide) ⟨_, rfl, _, _, rfl, rfl, (lineM (by first | omega | simp only [lenS_app, lenS_emp, lits] <;> omega)), q _ _ ?_ s1⟩
    rw [cl_app, cl_app, hz1]
    rfl
  | cons y r =>
    refine ifT (decide_eq_true (by rw [List.length_map, List.length_cons]; omega)) ?_
    refine ⟨_, rfl, _, _, rfl, rfl, (lineM (by first | omega | simp only [lenS_app, lenS_emp, lits] <;> omega)), ⟨_, rfl⟩, _, rfl, _, l, y :: r, rfl, rfl, .inl hl1, by rw [lc]; omega, ?_⟩
    have ej := txt_join ", " (y :: r)
    have el := txt_join_len ", " (y :: r)
    rw [lc] at el
    generalize Txt.join ", " (y :: r) = j at ej el ⊢
    refine ⟨_, _, rfl, rfl, (lineM (by first | omega | simp only [lenS_app, lenS_emp, lits] <;> omega)), _, rfl, _, _, rfl, rfl, (lineM (by first | omega | simp only [lenS_app, lenS_emp, lits] <;> omega)), q _ _ ?_ s1⟩
    rw [cl_app, cl_app, cl_app, cl_app, hz1, ej]
    rw [show othL t.sh ((y :: r).map cl) = t.sh ++ cl ": " ++ glue (cl ", ") ((y :: r).map cl) from rfl]
    simp only [List.append_assoc]
theorem ok_term_shown (B : Bn mg) (F : Fun K "_law_term_shown" "_law_term_shown" s__law_term_shown f fd) (hm : mg "_law_term_shown" = some (.ref f)) (hb : Binds K fd ["whole"] [])
    (Fg : Fun K "_law_given_shown" "_law_given_shown" s__law_given_shown fg fdg) (hmg : mg "_law_given_shown" = some (.ref fg)) (hbg : Binds K fdg ["given"] [])
    (Fb : Fun K "_law_behind_shown" "_law_behind_shown" s__law_behind_shown fb fdb) (hmb : mg "_law_behind_shown" = some (.ref fb)) (hbb : Binds K fdb ["whole", "others"] []) : ∀ e : Nat, FnOk P w K mg base CX0 (2 * e + 1) f fd ["whole"] (spTsh e)
  | 0 => by
    have no : ∀ vs H Q E, ¬ spTsh 0 vs H Q E := fun vs H Q E h => by
      obtain ⟨v, t, _, _, _, _, h, _⟩ := h
      cases t
      simp only [Tm.depth] at h
      omega
    exact ⟨fun vs H Q E h => absurd h (no vs H Q E), fun A outer s H args us vs Q E _ _ _ _ h => absurd h (no vs H Q E)⟩
  | e + 1 => by
    have c__law_term_shown : Cal P w K mg base "_law_term_shown" (2 * e + 1) ["whole"] (spTsh e) := ⟨f, fd, ok_term_shown B F hm hb Fg hmg hbg Fb hmb hbb e, hm, F.kp, hb⟩
    have c__law_given_shown : Cal P w K mg base "_law_given_shown" (2 * e + 2) ["given"] (spGsh e) := ⟨fg, fdg, ok_given_shown B Fg c__law_term_shown, hmg, Fg.kp, hbg⟩
    have c__law_behind_shown : Cal P w K mg base "_law_behind_shown" (2 * e + 2) ["whole", "others"] (spBsh K e) := ⟨fb, fdb, ok_behind_shown B Fb c__law_term_shown, hmb, Fb.kp, hbb⟩
    refine F.ok (k := 2 * e + 2) sc__law_term_shown (fun vs H Q E h => ?_) (fun cdv A outer s H vs Q E hr h => ?_)
    · obtain ⟨v, t, rfl, _⟩ := h
      rfl
    obtain ⟨v, t, rfl, ht, tsm, sz, dp, q⟩ := h
    refine ⟨_, (pss_cons (ps_set (i := 1) sc__law_term_shown.nd rfl (Or.inl rfl) (pe_ix (ixT K rfl) (pv 0) pe_int (fun _ _ => rfl)))
    (pss_cons (ps_if (pt_cmpR op_eq (pv 1) pe_str (nomark _)) (pss_one (ps_ret (pe_callTy call_str_int (by rfl) B.b_str (by decide +kernel) (pa_cons (pe_ix (ixT K rfl) (pv 0) pe_int (fun _ _ => rfl)) pa_nil)))) pss_nil)
    (pss_cons (ps_if (pt_cmpR op_eq (pv 1) pe_str (nomark _)) (pss_one (ps_ret (pe_op op_add_str (pe_op op_add_str pe_str (pe_ix (ixT K rfl) (pv 0) pe_int (fun _ _ => rfl))) pe_str))) pss_nil)
    (pss_cons (ps_if (pt_cmpR (inSeq K rfl) (pv 1) (pe_lst (pa_cons pe_str (pa_cons pe_str pa_nil))) (by rfl)) (pss_one (ps_ret (pe_op op_add_str (pe_op op_add_str (pe_ix (ixL K rfl) (pe_lst (pa_cons pe_str (pa_cons pe_str pa_nil))) (pe_callTy call_int1 (by rfl) B.b_int (by decide +kernel) (pa_cons (pe_cmpR op_eq (pv 1) pe_str (nomark _)) pa_nil)) (fun _ _ => rfl)) (pe_ix (ixT K rfl) (pv 0) pe_int (fun _ _ => rfl))) (pc c__law_given_shown (hr.mono (by first | decide | omega)) (pa_cons (pe_ix (ixT K rfl) (pv 0) pe_int (fun _ _ => rfl)) pa_nil))))) pss_nil)
    (pss_cons (ps_if (pt_cmpR op_eq (pv 1) pe_str (nomark _)) (pss_one (ps_ret (pe_op op_add_str (pe_op op_add_str (pe_op op_add_str (pe_op op_add_str (pe_op op_add_str (pe_ix (ixT K rfl) (pv 0) pe_int (fun _ _ => rfl)) pe_str) (pe_ix (ixT K rfl) (pv 0) pe_int (fun _ _ => rfl))) pe_str) (pe_callTy call_str_int (by rfl) B.b_str (by decide +kernel) (pa_cons (pe_ix (ixT K rfl) (pv 0) pe_int (fun _ _ => rfl)) pa_nil))) (pc c__law_given_shown (hr.mono (by first | decide | omega)) (pa_cons (pe_ix (ixT K rfl) (pv 0) pe_int (fun _ _ => rfl)) pa_nil))))) pss_nil)
    (pss_cons (ps_if (PW.pt (pw_and (pt_cmpR op_eq (pv 1) pe_str (nomark _)) (pw_and1 (pt_cmpR op_isN (pe_ix (ixT K rfl) (pv 0) pe_int (fun _ _ => rfl)) pe_non (nomark _))))) (pss_one (ps_ret (pe_op op_add_str (pe_op op_add_str (pe_ix (ixT K rfl) (pv 0) pe_int (fun _ _ => rfl)) pe_str) (pe_ix (ixT K rfl) (pv 0) pe_int (fun _ _ => rfl))))) pss_nil)
    (pss_cons (ps_if (pt_cmpR op_eq (pv 1) pe_str (nomark _)) (pss_one (ps_ret (pe_op op_add_str (pe_op op_add_str (pe_op op_add_str (pe_op op_add_str (pe_op op_add_str (pe_ix (ixT K rfl) (pv 0) pe_int (fun _ _ => rfl)) pe_str) (pe_ix (ixT K rfl) (pv 0) pe_int (fun _ _ => rfl))) pe_str) (pc c__law_term_shown (hr.mono (by first | decide | omega)) (pa_cons (pe_ix (ixT K rfl) (pv 0) pe_int (fun _ _ => rfl)) pa_nil))) pe_str))) pss_nil)
    (pss_cons (ps_if (pt_cmpR op_eq (pv 1) pe_str (nomark _)) (pss_one (ps_ret (pe_op op_add_str (pe_op op_add_str (pc c__law_term_shown (hr.mono (by first | decide | omega)) (pa_cons (pe_ix (ixT K rfl) (pv 0) pe_int (fun _ _ => rfl)) pa_nil)) pe_str) (pe_ix (ixT K rfl) (pv 0) pe_int (fun _ _ => rfl))))) pss_nil)
    (pss_cons (ps_if (pt_cmpR op_eq (pv 1) pe_str (nomark _)) (pss_one (ps_ret (pe_op op_add_str (pe_op op_add_str (pe_op op_add_str (pe_op op_add_str pe_str (pc c__law_term_shown (hr.mono (by first | decide | omega)) (pa_cons (pe_ix (ixT K rfl) (pv 0) pe_int (fun _ _ => rfl)) pa_nil))) pe_str) (pe_ix (ixT K rfl) (pv 0) pe_int (fun _ _ => rfl))) pe_str))) pss_nil)
    (pss_cons (ps_if (pt_cmpR op_eq (pv 1) pe_str (nomark _)) (pss_one (ps_ret (pe_op op_add_str pe_str (pc c__law_behind_shown (hr.mono (by first | decide | omega)) (pa_cons (pe_ix (ixT K rfl) (pv 0) pe_int (fun _ _ => rfl)) (pa_cons (pe_callTy (listOf K rfl) (by rfl) B.b_list (by decide +kernel) (pa_cons (pe_ix (ixT K rfl) (pv 0) pe_int (fun _ _ => rfl)) pa_nil)) pa_nil)))))) pss_nil)
    (pss_cons (ps_if (pt_cmpR op_eq (pv 1) pe_str (nomark _)) (pss_one (ps_ret (pe_op op_add_str (pe_op op_add_str pe_str (pc c__law_term_shown (hr.mono (by first | decide | omega)) (pa_cons (pe_ix (ixT K rfl) (pv 0) pe_int (fun _ _ => rfl)) pa_nil))) pe_str))) pss_nil)
    (pss_cons (ps_if (pt_cmpR op_eq (pv 1) pe_str (nomark _)) (pss_one (ps_ret (pe_op op_add_str (pe_op op_add_str (pe_op op_add_str (pe_op op_add_str pe_str (pe_callTy call_str_int (by rfl) B.b_str (by decide +kernel) (pa_cons (pe_ix (ixT K rfl) (pv 0) pe_int (fun _ _ => rfl)) pa_nil))) pe_str) (pc c__law_term_shown (hr.mono (by first | decide | omega)) (pa_cons (pe_ix (ixT K rfl) (pv 0) pe_int (fun _ _ => rfl)) pa_nil))) pe_str))) pss_nil)
    (pss_one (ps_ret (pe_op op_add_str pe_str (pc c__law_behind_shown (hr.mono (by first | decide | omega)) (pa_cons (pe_ix (ixT K rfl) (pv 0) pe_int (fun _ _ => rfl)) (pa_cons (pe_lc (own := [("one", 2)]) (g := (gName 2)) rfl sc__law_term_shown.nd (piT K rfl (pe_ix (ixT K rfl) (pv 0) pe_int (fun _ _ => rfl))) (blkOk_by (N := ["whole", "word", "one"]) (sc := defScope s__law_term_shown) (by decide +kernel)) (fun _ _ _ _ _ => (pg_name (i := 2) sc__law_term_shown.nd rfl (Or.inl rfl) (hf := Or.inr rfl))) (fun _ _ _ _ _ => pts_nil) (fun _ _ _ _ _ => (pc c__law_term_shown (hr.mono (by first | decide | omega)) (pa_cons (pv 2) pa_nil)))) pa_nil)))))))))))))))))), ?_⟩
    cases ht with
    | nd n hs =>
    rename_i h ps ts
    obtain ⟨sm, sms⟩ := tsm
    simp only [Tm.size] at sz
    simp only [Tm.depth] at dp
    have q : ∀ z H', cl z = h.sh (ts.map Tm.sh) → Same H H' → Q (.str z) H' := fun z H' hz => q z H' (by rw [hz, Tm.sh, Tm.shs_map])
    have one : ∀ {u : V}, ps = [u] → ∃ t, ts = [t] ∧ TmAt H u t ∧ t.small ∧ t.size ≤ 2600 ∧ t.depth ≤ e := fun {u} hu => by
      subst hu
      cases hs with
      | cons a b =>
        cases b
        simp only [Tm.sizes] at sz
        simp only [Tm.depths] at dp
        exact ⟨_, rfl, a, sms.1, by omega, by omega⟩
    cases n with
    | num ha =>
      refine ⟨_, rfl, _, _, _, _, rfl, rfl, SqT.of ha, rfl, ?_⟩
      refine ⟨_, rfl, rfl, _, rfl, ifT (by decide) ?_⟩
      exact ⟨_, rfl, _, _, _, _, rfl, rfl, SqT.of ha, rfl, _, rfl, dec_log sm, q _ _ rfl (Same.refl _)⟩
    | text ha =>
      refine ⟨_, rfl, _, _, _, _, rfl, rfl, SqT.of ha, rfl, ?_⟩
      refine ⟨_, rfl, rfl, _, rfl, ifF (by decide) ?_⟩
      refine ⟨_, rfl, rfl, _, rfl, ifT (by decide) ?_⟩
      have x8 : _ ≤ 100 := sm
      refine ⟨_, rfl, _, _, _, _, rfl, rfl, SqT.of ha, rfl, _, _, rfl, rfl, (lineM (by first | omega | simp only [lenS_app, lenS_emp, lits] <;> omega)), _, _, rfl, rfl, (lineM (by first | omega | simp only [lenS_app, lenS_emp, lits] <;> omega)), q _ _ ?_ (Same.refl _)⟩
      simp only [Hd.sh, cl_app]
    | hole ha =>
      exact sm.elim
    | call ha hg hq =>
      refine ⟨_, rfl, _, _, _, _, rfl, rfl, SqT.of ha, rfl, ?_⟩
      refine ⟨_, rfl, rfl, _, rfl, ifF (by decide) ?_⟩
      refine ⟨_, rfl, rfl, _, rfl, ifF (by decide) ?_⟩
      refine ⟨_, rfl, (by show 2 ≤ sizeLine; decide), fun l0 nl0 => ⟨l0, _, rfl, .inl (SqL.of upd_same), rfl, rfl, _, rfl, ifT (by rfl) ?_⟩⟩
      have S0 := same_new nl0 (.lst [V.str "call", V.str "make"])
      generalize upd H l0 (.lst [V.str "call", V.str "make"]) = H0 at S0 ⊢
      have ha := S0 _ _ ha
      refine ⟨(by show 2 ≤ sizeLine; decide), fun l1 nl1 => ?_⟩
      have S1 := same_new nl1 (.lst [V.str "", V.str "new "])
      have hl1 : (upd H0 l1 (.lst [V.str "", V.str "new "])) l1 = some (.lst [V.str "", V.str "new "]) := upd_same
      generalize upd H0 l1 (.lst [V.str "", V.str "new "]) = H1 at S1 hl1 ⊢
      have ha := S1 _ _ ha
      have S := S0.trans S1
      have T := Tups.of_same S
      have x8 := sm.1
      refine ⟨_, rfl, rfl, .inr ⟨_, rfl, _, _, _, _, rfl, rfl, SqL.of hl1, at_of (j := 0) (by decide) rfl, _, rfl, _, _, _, _, rfl, rfl, SqT.of ha, rfl, _, _, rfl, rfl, (lineM (by first | omega | simp only [lenS_app, lenS_emp, lits] <;> omega)), _, rfl, _, _, _, _, rfl, rfl, SqT.of ha, rfl, _, _, _, _, ts, rfl, S _ _ hg, hq.mono T, hs.mono T, sm.2, sms, by omega, by omega, fun z H2 hz s2 => ?_⟩⟩
      have al := argsL_len (ws := ts.map Tm.sh) sm.2
      have tl := Tm.shs_len ts sms
      rw [Tm.shs_map] at tl
      have zl : z.length ≤ 790000 := by
        rw [← cl_len, hz]
        omega
      refine ⟨_, _, rfl, rfl, (lineM (by first | omega | simp only [lenS_app, lenS_emp, lits] <;> omega)), q _ _ ?_ (S.trans s2)⟩
      simp only [Hd.sh, cl_app, hz]
      try rfl
    | make ha hg hq =>
      refine ⟨_, rfl, _, _, _, _, rfl, rfl, SqT.of ha, rfl, ?_⟩
      refine ⟨_, rfl, rfl, _, rfl, ifF (by decide) ?_⟩
      refine ⟨_, rfl, rfl, _, rfl, ifF (by decide) ?_⟩
      refine ⟨_, rfl, (by show 2 ≤ sizeLine; decide), fun l0 nl0 => ⟨l0, _, rfl, .inl (SqL.of upd_same), rfl, rfl, _, rfl, ifT (by rfl) ?_⟩⟩
      have S0 := same_new nl0 (.lst [V.str "call", V.str "make"])
      generalize upd H l0 (.lst [V.str "call", V.str "make"]) = H0 at S0 ⊢
      have ha := S0 _ _ ha
      refine ⟨(by show 2 ≤ sizeLine; decide), fun l1 nl1 => ?_⟩
      have S1 := same_new nl1 (.lst [V.str "", V.str "new "])
      have hl1 : (upd H0 l1 (.lst [V.str "", V.str "new "])) l1 = some (.lst [V.str "", V.str "new "]) := upd_same
      generalize upd H0 l1 (.lst [V.str "", V.str "new "]) = H1 at S1 hl1 ⊢
      have ha := S1 _ _ ha
      have S := S0.trans S1
      have T := Tups.of_same S
      have x8 := sm.1
      refine ⟨_, rfl, rfl, .inr ⟨_, rfl, _, _, _, _, rfl, rfl, SqL.of hl1, at_of (j := 1) (by decide) rfl, _, rfl, _, _, _, _, rfl, rfl, SqT.of ha, rfl, _, _, rfl, rfl, (lineM (by first | omega | simp only [lenS_app, lenS_emp, lits] <;> omega)), _, rfl, _, _, _, _, rfl, rfl, SqT.of ha, rfl, _, _, _, _, ts, rfl, S _ _ hg, hq.mono T, hs.mono T, sm.2, sms, by omega, by omega, fun z H2 hz s2 => ?_⟩⟩
      have al := argsL_len (ws := ts.map Tm.sh) sm.2
      have tl := Tm.shs_len ts sms
      rw [Tm.shs_map] at tl
      have zl : z.length ≤ 790000 := by
        rw [← cl_len, hz]
        omega
      refine ⟨_, _, rfl, rfl, (lineM (by first | omega | simp only [lenS_app, lenS_emp, lits] <;> omega)), q _ _ ?_ (S.trans s2)⟩
      simp only [Hd.sh, cl_app, hz]
      try rfl
    | get ha =>
      refine ⟨_, rfl, _, _, _, _, rfl, rfl, SqT.of ha, rfl, ?_⟩
      refine ⟨_, rfl, rfl, _, rfl, ifF (by decide) ?_⟩
      refine ⟨_, rfl, rfl, _, rfl, ifF (by decide) ?_⟩
      refine ⟨_, rfl, (by show 2 ≤ sizeLine; decide), fun l0 nl0 => ⟨l0, _, rfl, .inl (SqL.of upd_same), rfl, rfl, _, rfl, ifF (by rfl) ?_⟩⟩
      have S0 := same_new nl0 (.lst [V.str "call", V.str "make"])
      generalize upd H l0 (.lst [V.str "call", V.str "make"]) = H0 at S0 ⊢
      have ha0 := ha
      have ha := S0 _ _ ha
      refine ⟨_, rfl, rfl, _, rfl, ifF (by decide) ?_⟩
      refine ⟨_, rfl, rfl, _, rfl, ifF (by decide) (ifF rfl ?_)⟩
      refine ⟨_, rfl, rfl, _, rfl, ifF (by decide) ?_⟩
      refine ⟨_, rfl, rfl, _, rfl, ifT (by decide) ?_⟩
      obtain ⟨t, rfl, tm, t1, t2, t3⟩ := one rfl
      refine ⟨_, rfl, _, _, _, _, rfl, rfl, SqT.of ha, rfl, _, _, rfl, tm.mono (Tups.of_same S0), t1, t2, t3, fun z H2 hz s2 => ?_⟩
      have zl := sh_short t1 t2 hz
      have x8 : _ ≤ 8 := sm
      have ha := s2 _ _ ha
      refine ⟨_, _, rfl, rfl, (lineM (by first | omega | simp only [lenS_app, lenS_emp, lits] <;> omega)), _, rfl, _, _, _, _, rfl, rfl, SqT.of ha, rfl, _, _, rfl, rfl, (lineM (by first | omega | simp only [lenS_app, lenS_emp, lits] <;> omega)), q _ _ ?_ (S0.trans s2)⟩
      simp only [Hd.sh, cl_app, List.map_cons, List.map_nil, List.headD_cons, hz]
    | bare ha =>
      refine ⟨_, rfl, _, _, _, _, rfl, rfl, SqT.of ha, rfl, ?_⟩
      refine ⟨_, rfl, rfl, _, rfl, ifF (by decide) ?_⟩
      refine ⟨_, rfl, rfl, _, rfl, ifF (by decide) ?_⟩
      refine ⟨_, rfl, (by show 2 ≤ sizeLine; decide), fun l0 nl0 => ⟨l0, _, rfl, .inl (SqL.of upd_same), rfl, rfl, _, rfl, ifF (by rfl) ?_⟩⟩
      have S0 := same_new nl0 (.lst [V.str "call", V.str "make"])
      generalize upd H l0 (.lst [V.str "call", V.str "make"]) = H0 at S0 ⊢
      have ha0 := ha
      have ha := S0 _ _ ha
      refine ⟨_, rfl, rfl, _, rfl, ifF (by decide) ?_⟩
      refine ⟨_, rfl, rfl, _, rfl, ifT (by decide) ⟨_, rfl, _, _, _, _, rfl, rfl, SqT.of ha, rfl, rfl, _, rfl, ifT rfl ?_⟩⟩
      have x8 := sm.1
      have c8 := sm.2
      refine ⟨_, rfl, _, _, _, _, rfl, rfl, SqT.of ha, rfl, _, _, rfl, rfl, (lineM (by first | omega | simp only [lenS_app, lenS_emp, lits] <;> omega)), _, rfl, _, _, _, _, rfl, rfl, SqT.of ha, rfl, _, _, rfl, rfl, (lineM (by first | omega | simp only [lenS_app, lenS_emp, lits] <;> omega)), q _ _ ?_ S0⟩
      simp only [Hd.sh, cl_app]
    | case ha =>
      refine ⟨_, rfl, _, _, _, _, rfl, rfl, SqT.of ha, rfl, ?_⟩
      refine ⟨_, rfl, rfl, _, rfl, ifF (by decide) ?_⟩
      refine ⟨_, rfl, rfl, _, rfl, ifF (by decide) ?_⟩
      refine ⟨_, rfl, (by show 2 ≤ sizeLine; decide), fun l0 nl0 => ⟨l0, _, rfl, .inl (SqL.of upd_same), rfl, rfl, _, rfl, ifF (by rfl) ?_⟩⟩
      have S0 := same_new nl0 (.lst [V.str "call", V.str "make"])
      generalize upd H l0 (.lst [V.str "call", V.str "make"]) = H0 at S0 ⊢
      have ha0 := ha
      have ha := S0 _ _ ha
      refine ⟨_, rfl, rfl, _, rfl, ifF (by decide) ?_⟩
      refine ⟨_, rfl, rfl, _, rfl, ifT (by decide) ⟨_, rfl, _, _, _, _, rfl, rfl, SqT.of ha, rfl, rfl, _, rfl, ifF (by rfl) ?_⟩⟩
      refine ⟨_, rfl, rfl, _, rfl, ifT (by decide) ?_⟩
      obtain ⟨t, rfl, tm, t1, t2, t3⟩ := one rfl
      have x8 := sm.1
      have c8 := sm.2
      refine ⟨_, rfl, _, _, _, _, rfl, rfl, SqT.of ha, rfl, _, _, rfl, rfl, (lineM (by first | omega | simp only [lenS_app, lenS_emp, lits] <;> omega)), _, rfl, _, _, _, _, rfl, rfl, SqT.of ha, rfl, _, _, rfl, rfl, (lineM (by first | omega | simp only [lenS_app, lenS_emp, lits] <;> omega)), _, _, rfl, rfl, (lineM (by first | omega | simp only [lenS_app, lenS_emp, lits] <;> omega)), _, rfl, _, _, _, _, rfl, rfl, SqT.of ha, rfl, _, _, rfl, tm.mono (Tups.of_same S0), t1, t2, t3, fun z H2 hz s2 => ?_⟩
      have zl := sh_short t1 t2 hz
      refine ⟨_, _, rfl, rfl, (lineM (by first | omega | simp only [lenS_app, lenS_emp, lits] <;> omega)), _, _, rfl, rfl, (lineM (by first | omega | simp only [lenS_app, lenS_emp, lits] <;> omega)), q _ _ ?_ (S0.trans s2)⟩
      simp only [Hd.sh, cl_app, List.map_cons, List.map_nil, List.headD_cons, hz]
    | as_ ha =>
      refine ⟨_, rfl, _, _, _, _, rfl, rfl, SqT.of ha, rfl, ?_⟩
      refine ⟨_, rfl, rfl, _, rfl, ifF (by decide) ?_⟩
      refine ⟨_, rfl, rfl, _, rfl, ifF (by decide) ?_⟩
      refine ⟨_, rfl, (by show 2 ≤ sizeLine; decide), fun l0 nl0 => ⟨l0, _, rfl, .inl (SqL.of upd_same), rfl, rfl, _, rfl, ifF (by rfl) ?_⟩⟩
      have S0 := same_new nl0 (.lst [V.str "call", V.str "make"])
      generalize upd H l0 (.lst [V.str "call", V.str "make"]) = H0 at S0 ⊢
      have ha0 := ha
      have ha := S0 _ _ ha
      refine ⟨_, rfl, rfl, _, rfl, ifF (by decide) ?_⟩
      refine ⟨_, rfl, rfl, _, rfl, ifF (by decide) (ifF rfl ?_)⟩
      refine ⟨_, rfl, rfl, _, rfl, ifF (by decide) ?_⟩
      refine ⟨_, rfl, rfl, _, rfl, ifF (by decide) ?_⟩
      refine ⟨_, rfl, rfl, _, rfl, ifT (by decide) ?_⟩
      obtain ⟨t, rfl, tm, t1, t2, t3⟩ := one rfl
      refine ⟨_, rfl, _, _, _, _, rfl, rfl, SqT.of ha, rfl, _, _, rfl, tm.mono (Tups.of_same S0), t1, t2, t3, fun z H2 hz s2 => ?_⟩
      have zl := sh_short t1 t2 hz
      have x8 : _ ≤ 8 := sm
      have ha := s2 _ _ ha
      refine ⟨_, _, rfl, rfl, (lineM (by first | omega | simp only [lenS_app, lenS_emp, lits] <;> omega)), _, _, rfl, rfl, (lineM (by first | omega | simp only [lenS_app, lenS_emp, lits] <;> omega)), _, rfl, _, _, _, _, rfl, rfl, SqT.of ha, rfl, _, _, rfl, rfl, (lineM (by first | omega | simp only [lenS_app, lenS_emp, lits] <;> omega)), _, _, rfl, rfl, (lineM (by first | omega | simp only [lenS_app, lenS_emp, lits] <;> omega)), q _ _ ?_ (S0.trans s2)⟩
      simp only [Hd.sh, cl_app, List.map_cons, List.map_nil, List.headD_cons, hz]
    | @look a0 b0 g0 xs ha hg =>
      refine ⟨_, rfl, _, _, _, _, rfl, rfl, SqT.of ha, rfl, ?_⟩
      refine ⟨_, rfl, rfl, _, rfl, ifF (by decide) ?_⟩
      refine ⟨_, rfl, rfl, _, rfl, ifF (by decide) ?_⟩
      refine ⟨_, rfl, (by show 2 ≤ sizeLine; decide), fun l0 nl0 => ⟨l0, _, rfl, .inl (SqL.of upd_same), rfl, rfl, _, rfl, ifF (by rfl) ?_⟩⟩
      have S0 := same_new nl0 (.lst [V.str "call", V.str "make"])
      generalize upd H l0 (.lst [V.str "call", V.str "make"]) = H0 at S0 ⊢
      have ha0 := ha
      have ha := S0 _ _ ha
      refine ⟨_, rfl, rfl, _, rfl, ifF (by decide) ?_⟩
      refine ⟨_, rfl, rfl, _, rfl, ifF (by decide) (ifF rfl ?_)⟩
      refine ⟨_, rfl, rfl, _, rfl, ifF (by decide) ?_⟩
      refine ⟨_, rfl, rfl, _, rfl, ifF (by decide) ?_⟩
      refine ⟨_, rfl, rfl, _, rfl, ifF (by decide) ?_⟩
      refine ⟨_, rfl, rfl, _, rfl, ifT (by decide) ?_⟩
      obtain ⟨t, rfl, tm, t1, t2, t3⟩ := one rfl
      have l8 := lens_names xs sm.2
      rw [sumL_lens] at l8
      have x8 := sm.1
      refine ⟨_, rfl, _, _, _, _, rfl, rfl, SqT.of ha, rfl, _, rfl, _, _, _, _, rfl, rfl, SqT.of ha, rfl, _, _, rfl, .inr (SqT.of (S0 _ _ hg)), fun l1 nl1 => ?_⟩
      have S1 := S0.trans (same_new nl1 (.lst (xs.map V.str)))
      refine ⟨_, t, _, xs, rfl, tm.mono (Tups.of_same S1), t1, t2, t3, SqL.of upd_same, by omega, fun z H2 hz s2 => ?_⟩
      have ol := othL_len t.sh (xs.map cl)
      rw [sumL_lens, List.length_map] at ol
      have sl := Tm.sh_len t t1
      have zl : z.length ≤ 790000 := by
        rw [← cl_len, hz, List.length_append, List.length_append]
        show 1 + _ + 1 ≤ _
        omega
      refine ⟨_, _, rfl, rfl, (lineM (by first | omega | simp only [lenS_app, lenS_emp, lits] <;> omega)), q _ _ ?_ (S1.trans s2)⟩
      rw [cl_app, hz]
      simp only [Hd.sh, List.map_cons, List.headD_cons, ← List.append_assoc]
      rfl
    | one ha =>
      refine ⟨_, rfl, _, _, _, _, rfl, rfl, SqT.of ha, rfl, ?_⟩
      refine ⟨_, rfl, rfl, _, rfl, ifF (by decide) ?_⟩
      refine ⟨_, rfl, rfl, _, rfl, ifF (by decide) ?_⟩
      refine ⟨_, rfl, (by show 2 ≤ sizeLine; decide), fun l0 nl0 => ⟨l0, _, rfl, .inl (SqL.of upd_same), rfl, rfl, _, rfl, ifF (by rfl) ?_⟩⟩
      have S0 := same_new nl0 (.lst [V.str "call", V.str "make"])
      generalize upd H l0 (.lst [V.str "call", V.str "make"]) = H0 at S0 ⊢
      have ha0 := ha
      have ha := S0 _ _ ha
      refine ⟨_, rfl, rfl, _, rfl, ifF (by decide) ?_⟩
      refine ⟨_, rfl, rfl, _, rfl, ifF (by decide) (ifF rfl ?_)⟩
      refine ⟨_, rfl, rfl, _, rfl, ifF (by decide) ?_⟩
      refine ⟨_, rfl, rfl, _, rfl, ifF (by decide) ?_⟩
      refine ⟨_, rfl, rfl, _, rfl, ifF (by decide) ?_⟩
      refine ⟨_, rfl, rfl, _, rfl, ifF (by decide) ?_⟩
      refine ⟨_, rfl, rfl, _, rfl, ifT (by decide) ?_⟩
      obtain ⟨t, rfl, tm, t1, t2, t3⟩ := one rfl
      refine ⟨_, rfl, _, _, _, _, rfl, rfl, SqT.of ha, rfl, _, _, rfl, tm.mono (Tups.of_same S0), t1, t2, t3, fun z H2 hz s2 => ?_⟩
      have zl := sh_short t1 t2 hz
      refine ⟨_, _, rfl, rfl, (lineM (by first | omega | simp only [lenS_app, lenS_emp, lits] <;> omega)), _, _, rfl, rfl, (lineM (by first | omega | simp only [lenS_app, lenS_emp, lits] <;> omega)), q _ _ ?_ (S0.trans s2)⟩
      simp only [Hd.sh, cl_app, List.map_cons, List.map_nil, List.headD_cons, hz]
    | @answer a0 b0 n0 ha =>
      refine ⟨_, rfl, _, _, _, _, rfl, rfl, SqT.of ha, rfl, ?_⟩
      refine ⟨_, rfl, rfl, _, rfl, ifF (by decide) ?_⟩
      refine ⟨_, rfl, rfl, _, rfl, ifF (by decide) ?_⟩
      refine ⟨_, rfl, (by show 2 ≤ sizeLine; decide), fun l0 nl0 => ⟨l0, _, rfl, .inl (SqL.of upd_same), rfl, rfl, _, rfl, ifF (by rfl) ?_⟩⟩
      have S0 := same_new nl0 (.lst [V.str "call", V.str "make"])
      generalize upd H l0 (.lst [V.str "call", V.str "make"]) = H0 at S0 ⊢
      have ha0 := ha
      have ha := S0 _ _ ha
      refine ⟨_, rfl, rfl, _, rfl, ifF (by decide) ?_⟩
      refine ⟨_, rfl, rfl, _, rfl, ifF (by decide) (ifF rfl ?_)⟩
      refine ⟨_, rfl, rfl, _, rfl, ifF (by decide) ?_⟩
      refine ⟨_, rfl, rfl, _, rfl, ifF (by decide) ?_⟩
      refine ⟨_, rfl, rfl, _, rfl, ifF (by decide) ?_⟩
      refine ⟨_, rfl, rfl, _, rfl, ifF (by decide) ?_⟩
      refine ⟨_, rfl, rfl, _, rfl, ifF (by decide) ?_⟩
      refine ⟨_, rfl, rfl, _, rfl, ifT (by decide) ?_⟩
      obtain ⟨t, rfl, tm, t1, t2, t3⟩ := one rfl
      have dl : (Str.ofString (toString n0)).length ≤ 63 := dec_len (i := n0) sm
      refine ⟨_, rfl, _, _, _, _, rfl, rfl, SqT.of ha, rfl, _, rfl, dec_log sm, _, _, rfl, rfl, (lineM (by first | omega | simp only [lenS_app, lenS_emp, lits] <;> omega)), _, _, rfl, rfl, (lineM (by first | omega | simp only [lenS_app, lenS_emp, lits] <;> omega)), _, rfl, _, _, _, _, rfl, rfl, SqT.of ha, rfl, _, _, rfl, tm.mono (Tups.of_same S0), t1, t2, t3, fun z H2 hz s2 => ?_⟩
      have zl := sh_short t1 t2 hz
      refine ⟨_, _, rfl, rfl, (lineM (by first | omega | simp only [lenS_app, lenS_emp, lits] <;> omega)), _, _, rfl, rfl, (lineM (by first | omega | simp only [lenS_app, lenS_emp, lits] <;> omega)), q _ _ ?_ (S0.trans s2)⟩
      simp only [Hd.sh, cl_app, List.map_cons, List.map_nil, List.headD_cons, hz]
    | @handed a0 g0 x0 p0 i0 ns0 qs0 ps0 ha hg hq =>
      refine ⟨_, rfl, _, _, _, _, rfl, rfl, SqT.of ha, rfl, ?_⟩
      refine ⟨_, rfl, rfl, _, rfl, ifF (by decide) ?_⟩
      refine ⟨_, rfl, rfl, _, rfl, ifF (by decide) ?_⟩
      refine ⟨_, rfl, (by show 2 ≤ sizeLine; decide), fun l0 nl0 => ⟨l0, _, rfl, .inl (SqL.of upd_same), rfl, rfl, _, rfl, ifF (by rfl) ?_⟩⟩
      have S0 := same_new nl0 (.lst [V.str "call", V.str "make"])
      generalize upd H l0 (.lst [V.str "call", V.str "make"]) = H0 at S0 ⊢
      have ha0 := ha
      have ha := S0 _ _ ha
      refine ⟨_, rfl, rfl, _, rfl, ifT (by decide) ?_⟩
      obtain ⟨x8, p8, i8, n8⟩ := sm
      have dl : (Str.ofString (toString i0)).length ≤ 63 := dec_len (i := i0) i8
      have T := Tups.of_same S0
      refine ⟨_, rfl, _, _, _, _, rfl, rfl, SqT.of ha, rfl, _, _, rfl, rfl, (lineM (by first | omega | simp only [lenS_app, lenS_emp, lits] <;> omega)), _, rfl, _, _, _, _, rfl, rfl, SqT.of ha, rfl, _, _, rfl, rfl, (lineM (by first | omega | simp only [lenS_app, lenS_emp, lits] <;> omega)), _, _, rfl, rfl, (lineM (by first | omega | simp only [lenS_app, lenS_emp, lits] <;> omega)), _, rfl, _, _, _, _, rfl, rfl, SqT.of ha, rfl, _, rfl, dec_log i8, _, _, rfl, rfl, (lineM (by first | omega | simp only [lenS_app, lenS_emp, lits] <;> omega)), _, rfl, _, _, _, _, rfl, rfl, SqT.of ha, rfl, _, _, _, _, ts, rfl, S0 _ _ hg, hq.mono T, hs.mono T, n8, sms, by omega, by omega, fun z H2 hz s2 => ?_⟩
      have al := argsL_len (ws := ts.map Tm.sh) n8
      have tl := Tm.shs_len ts sms
      rw [Tm.shs_map] at tl
      have zl : z.length ≤ 790000 := by
        rw [← cl_len, hz]
        omega
      refine ⟨_, _, rfl, rfl, (lineM (by first | omega | simp only [lenS_app, lenS_emp, lits] <;> omega)), q _ _ ?_ (S0.trans s2)⟩
      simp only [Hd.sh, cl_app, hz]
    | @ask a0 g0 v1 vs1 ha hg =>
      refine ⟨_, rfl, _, _, _, _, rfl, rfl, SqT.of ha, rfl, ?_⟩
      refine ⟨_, rfl, rfl, _, rfl, ifF (by decide) ?_⟩
      refine ⟨_, rfl, rfl, _, rfl, ifF (by decide) ?_⟩
      refine ⟨_, rfl, (by show 2 ≤ sizeLine; decide), fun l0 nl0 => ⟨l0, _, rfl, .inl (SqL.of upd_same), rfl, rfl, _, rfl, ifF (by rfl) ?_⟩⟩
      have S0 := same_new nl0 (.lst [V.str "call", V.str "make"])
      generalize upd H l0 (.lst [V.str "call", V.str "make"]) = H0 at S0 ⊢
      have ha0 := ha
      have ha := S0 _ _ ha
      refine ⟨_, rfl, rfl, _, rfl, ifF (by decide) ?_⟩
      refine ⟨_, rfl, rfl, _, rfl, ifF (by decide) (ifF rfl ?_)⟩
      refine ⟨_, rfl, rfl, _, rfl, ifF (by decide) ?_⟩
      refine ⟨_, rfl, rfl, _, rfl, ifF (by decide) ?_⟩
      refine ⟨_, rfl, rfl, _, rfl, ifF (by decide) ?_⟩
      refine ⟨_, rfl, rfl, _, rfl, ifF (by decide) ?_⟩
      refine ⟨_, rfl, rfl, _, rfl, ifF (by decide) ?_⟩
      refine ⟨_, rfl, rfl, _, rfl, ifF (by decide) ?_⟩
      cases hs with
      | @cons v0 vs0 t ts hv hr' =>
      simp only [Tm.sizes] at sz
      simp only [Tm.depths] at dp
      have lts := hr'.len
      have tl := Tm.shs_len ts sms.2
      rw [Tm.shs_map, List.length_map] at tl
      have lq := Tm.len_sizes ts
      have hg0 := S0 _ _ hg
      refine ⟨_, rfl, _, _, _, _, rfl, rfl, SqT.of ha, rfl, _, rfl, _, _, _, _, rfl, rfl, SqT.of ha, rfl, _, rfl, ⟨_, SqT.of hg0⟩, fun D nD => lc_tup (xs := vs1) (Pash H0 D ts) ?_ ?_ ?_ ?_⟩
      · exact ⟨same_new nD _, [], upd_same, rfl⟩
      · exact fun i H1 _ p => SqT.of (p.1 _ _ hg0)
      · rintro i x H1 hx ⟨s1, ys, hD, ey⟩
        have hi : i < ts.length := by
          have := (List.getElem?_eq_some_iff.mp hx).1
          omega
        have ht := List.getElem?_eq_getElem hi
        obtain ⟨u', hu', tm⟩ := hr'.get i _ ht
        rw [hx] at hu'
        cases hu'
        have m := List.mem_of_getElem? ht
        have z1 := Tm.sizes_mem m
        have z2 := Tm.depths_mem m
        have tsm := Tm.smalls_mem sms.2 m
        refine ⟨rfl, _, rfl, _, _, rfl, tm.mono (Tups.of_same (S0.trans s1)), tsm, by omega, by omega, fun z H2 hz s2 => ?_⟩
        have ly := congrArg List.length ey
        rw [List.length_map, List.length_take, List.length_map] at ly
        refine ⟨_, s2 _ _ hD, ?_, Same.atNew (s1.trans s2) nD, ys ++ [z], ?_, ?_⟩
        · rw [List.length_map]
          exact Nat.lt_of_le_of_lt (m := 100000) (by omega) (by decide)
        · rw [upd_same, List.map_append]
          rfl
        · rw [List.map_append, ey]
          refine take_next ?_
          rw [List.getElem?_map, ht]
          simp only [Option.map_some, hz]
          try rfl
      rintro H1 ⟨s1, ys, hD, ey⟩
      rw [lts, ← List.length_map (f := Tm.sh), List.take_length] at ey
      have h1 := sumL_lens ys
      rw [ey] at h1
      have h2 := congrArg List.length ey
      rw [List.length_map, List.length_map] at h2
      have S1 := S0.trans s1
      refine ⟨_, t, D, ys, rfl, hv.mono (Tups.of_same S1), sms.1, by omega, by omega, SqL.of hD, by omega, fun z H2 hz s2 => ?_⟩
      have ol := othL_len t.sh (ts.map Tm.sh)
      rw [List.length_map] at ol
      have sl := Tm.sh_len t sms.1
      rw [ey] at hz
      have zl : z.length ≤ 2000000 := by
        rw [← cl_len, hz, List.length_append, List.length_append]
        show 1 + _ + 1 ≤ _
        omega
      refine ⟨_, _, rfl, rfl, (lineM (by first | omega | simp only [lenS_app, lenS_emp, lits] <;> omega)), q _ _ ?_ (S1.trans s2)⟩
      rw [cl_app, hz]
      simp only [Hd.sh, List.map_cons, List.headD_cons, List.tail_cons, ← List.append_assoc]
      rfl
end
end My
namespace My
open PySem PySem.Spec PyProof.Rows L2 NdefX LamX
/-! a call of a local name that holds a function made by a def within another def; what its cells hold is told by the frame -/
def tCallV (i : Nat) (f : Addr) (F : NF) (sp : Sp) (E : L2.St → XK) (t : TA) : TE := fun σ H Q => σ[i]? = some (some (.ref f)) ∧ H f = some (FnO f F) ∧
  t σ H fun vs H1 => H1 f = some (FnO f F) ∧ H1 F.c = some (CodeO F.c F.qual) ∧ sp vs H1 Q (E σ)
section
variable {X : Cx} {CX : CXT} {ps fr : List Str} {i k : Nat} {x : Str} {f : Addr} {F : NF} {ws : List (Option V)} {sp : List (Option V) → Sp} {ES : L2.St → XK} {t : TA} {e : Expr} {es : List Expr} {p pos : Pos}
theorem pe_callV (Fn : NOk X.prog X.w X.K X.mg X.base CX k f F ps fr sp) (hC : ∀ pins σ H s, Inv X pins σ H s → CellsAt F.cl fr ws s.heap H) (hr : Room k X.A) (hN : X.N[i]? = some x) (hv : Vis X.env.scope x) (hx : ∀ σ, PassesAt CX X σ (ES σ)) (ha : PA X (e :: es) t)
    (hd : (x == ("__debug__" : Str)) = false := by decide) (hcd : (x == ("__classdict__" : Str)) = false := by decide)
    (he : starEach (e :: es) X.env = (false, eval e X.env) :: starEach es X.env := by rfl) (hpl : (backTo pos (starEach es X.env)).any (·.1) = false := by rfl) :
    PE X (.Call (.Name x p) (e :: es) [] pos) (tCallV i f F (sp ws) ES t) := by
  refine ⟨fun pins s σ H Q I ⟨hs, hf, ht⟩ => wpAny_Call_Name_kw (thn ((pe_var (pos := p) hN hv hd hcd).run pins s σ H (fun v H1 => v = .ref f ∧ H1 = H) I ⟨.ref f, hs, rfl, rfl⟩) fun u s1 ⟨v, H1, J, r, ev, eH⟩ => ?_)⟩
  subst ev eH
  cases r
  refine PySem.W.callWith_F (first := []) (fnAt_of J hf) (thn (ha.run pos pins s1 σ _ _ J ht) fun us s2 ⟨vs, H2, J2, rv, f2, c2, q⟩ => ⟨fnAt_of J2 f2, ?_⟩) he hpl
  refine wpAny_call (codeAny_mono (Fn.run X.A X.stack s2 H2 us vs ws Q (ES σ) hr J2.env0 f2 c2 (hC pins σ H2 s2 J2) rv q) fun r s' h => ?_)
  cases r with
  | error e => exact hx σ pins H2 s2 e s' J2 h
  | ok fl =>
    cases fl with
    | ret u => exact J2.after h
    | _ => exact h.elim
end
/-- a function made within another def that doesn't raise, taken as one that may -/
theorem NOk.loud {CX : CXT} {P : Program} {w : World} {K : PySem.W.Frag} {mg : Str → Option Value} {base : Heap} {k : Nat} {f : Addr} {F : NF} {ps fr : List Str} {sp : List (Option V) → Sp} (o : NOk P w K mg base CX0 k f F ps fr sp) : NOk P w K mg base CX k f F ps fr sp :=
  ⟨o.len, fun A outer s H us vs ws Q E hr e0 hf hc C r q => codeAny_mono (o.run A outer s H us vs ws Q E hr e0 hf hc C r q) fun r s' h => by
    cases r with
    | error e => exact False.elim h
    | ok fl => cases fl <;> exact h⟩
theorem cells_none {h : Heap} {H : Hp} : CellsAt [] [] [] h H := ⟨rfl, fun _ _ e => (by cases e), fun _ _ _ e => (by cases e), fun _ _ e => (by simp at e)⟩
end My
namespace My
open PySem L2 NdefX LamX
/-! what walked keeps -/
/-- a term begun: its row (at, parts, given), by their places -/
structure Fr where
  e : Addr
  p : Addr
  g : Addr
  v : V
  t : Tm
  gs : List V
/-- what the first parts gave is right -/
def Rts (R : Hp → Tm → V → Prop) (H : Hp) (ts : List Tm) (gs : List V) : Prop := gs.length ≤ ts.length ∧ ∀ (i : Nat) (t : Tm) (v : V), gs[i]? = some v → ts[i]? = some t → R H t v
structure FrAt (R : Hp → Tm → V → Prop) (H : Hp) (f : Fr) : Prop where
  row : H f.e = some (.tup [f.v, .ref f.p, .ref f.g])
  tm : TmAt H f.v f.t
  ps : ∃ ps, H f.p = some (.lst ps) ∧ TmsAt H ps f.t.parts
  gs : H f.g = some (.lst f.gs)
  rt : Rts R H f.t.parts f.gs
/-- each term begun is the next part of the one below it, the last the root -/
def Lnk (root : Tm) : List Fr → Tm → Prop
  | [], t => t = root
  | f :: r, t => f.t.parts[f.gs.length]? = some t ∧ Lnk root r f.t
/-- the lists that are changed are apart from each other, and from the lists of parts -/
structure Apt (H0 : Hp) (b : Addr) (fs : List Fr) : Prop where
  b0 : H0 b = none
  g0 : ∀ f ∈ fs, H0 f.g = none
  bg : ∀ f ∈ fs, f.g ≠ b ∧ f.p ≠ b
  gp : ∀ f ∈ fs, ∀ f' ∈ fs, f.g ≠ f'.p
  nd : (fs.map Fr.g).Nodup
/-- the stack: the terms begun, the last first -/
structure Stk (R : Hp → Tm → V → Prop) (H : Hp) (b : Addr) (fs : List Fr) : Prop where
  lst : H b = some (.lst (fs.reverse.map fun f => .ref f.e))
  at_ : ∀ f ∈ fs, FrAt R H f
def leftB : List Fr → Nat
  | [] => 0
  | f :: r => 1 + 2 * Tm.sizes (f.t.parts.drop (f.gs.length + 1)) + leftB r
def leftT : List Fr → Nat
  | [] => 0
  | f :: r => 1 + 2 * Tm.sizes (f.t.parts.drop f.gs.length) + leftB r
theorem leftB_len : ∀ (fs : List Fr), fs.length ≤ leftB fs
  | [] => Nat.le_refl _
  | f :: r => by
    have := leftB_len r
    rw [List.length_cons, leftB]
    omega
theorem leftT_len (fs : List Fr) : fs.length ≤ leftT fs := by
  cases fs with
  | nil => exact Nat.le_refl _
  | cons f r =>
    have := leftB_len r
    rw [List.length_cons, leftT]
    omega
section
variable {R : Hp → Tm → V → Prop} (mn : ∀ H H' t v, Tups H H' → R H t v → R H' t v)
include mn
theorem Rts.mono {H H' : Hp} {ts : List Tm} {gs : List V} (T : Tups H H') (h : Rts R H ts gs) : Rts R H' ts gs := ⟨h.1, fun i t v a b => mn _ _ _ _ T (h.2 i t v a b)⟩
omit mn in
theorem Rts.snoc {H : Hp} {ts : List Tm} {gs : List V} (h : Rts R H ts gs) {t : Tm} {v : V} (e : ts[gs.length]? = some t) (r : R H t v) : Rts R H ts (gs ++ [v]) := by
  have l : gs.length < ts.length := (List.getElem?_eq_some_iff.mp e).1
  refine ⟨by rw [List.length_append]; exact l, fun i t' v' a b => ?_⟩
  by_cases c : i < gs.length
  · rw [List.getElem?_append_left c] at a
    exact h.2 i t' v' a b
  · have li : i < (gs ++ [v]).length := (List.getElem?_eq_some_iff.mp a).1
    rw [List.length_append, List.length_singleton] at li
    have ei : i = gs.length := by omega
    subst ei
    rw [List.getElem?_append_right (Nat.le_refl _), Nat.sub_self] at a
    cases a
    rw [e] at b
    cases b
    exact r
theorem FrAt.mono {H H' : Hp} {f : Fr} (T : Tups H H') (hp : ∀ xs, H f.p = some (.lst xs) → H' f.p = some (.lst xs)) (hg : ∀ xs, H f.g = some (.lst xs) → H' f.g = some (.lst xs)) (h : FrAt R H f) : FrAt R H' f := by
  obtain ⟨ps, h1, h2⟩ := h.ps
  exact ⟨T _ _ h.row, h.tm.mono T, ⟨ps, hp _ h1, h2.mono T⟩, hg _ h.gs, Rts.mono mn T h.rt⟩
theorem FrAt.same {H H' : Hp} {f : Fr} (s : Same H H') (h : FrAt R H f) : FrAt R H' f := FrAt.mono mn (Tups.of_same s) (fun _ e => s _ _ e) (fun _ e => s _ _ e) h
theorem Stk.same {H H' : Hp} {b : Addr} {fs : List Fr} (s : Same H H') (h : Stk R H b fs) : Stk R H' b fs := ⟨s _ _ h.lst, fun f hf => FrAt.same mn s (h.at_ f hf)⟩
end
theorem sizes_drop {ts : List Tm} {k : Nat} {t : Tm} (h : ts[k]? = some t) : Tm.sizes (ts.drop k) = t.size + Tm.sizes (ts.drop (k + 1)) := by
  obtain ⟨l, e⟩ := List.getElem?_eq_some_iff.mp h
  rw [List.drop_eq_getElem_cons l, e, Tm.sizes]
theorem Apt.tail {H0 : Hp} {b : Addr} {f : Fr} {fs : List Fr} (h : Apt H0 b (f :: fs)) : Apt H0 b fs :=
  ⟨h.b0, fun x hx => h.g0 x (.tail _ hx), fun x hx => h.bg x (.tail _ hx), fun x hx y hy => h.gp x (.tail _ hx) y (.tail _ hy), (List.nodup_cons.mp h.nd).2⟩
/-- the walk through a term, with a function made within another def: R what it is to be right; the function is asked at each term begun, when its parts have given -/
def spWalk (mk : Addr → NF) (sp : List (Option V) → Sp) (ws : List (Option V)) (R : Hp → Tm → V → Prop) : Sp := fun vs H Q E =>
  ∃ (v : V) (f c' : Addr) (t : Tm), vs = [v, .ref f] ∧ TmAt H v t ∧ t.size ≤ 50000 ∧ H f = some (FnO f (mk c')) ∧ H (mk c').c = some (CodeO (mk c').c (mk c').qual) ∧
    (∀ (u : V) (t' : Tm) (g b : Addr) (gs : List V) (fs : List Fr) (H' : Hp) (Q' : VK), Same H H' → TmAt H' u t' → H' g = some (.lst gs) → gs.length = t'.parts.length → Rts R H' t'.parts gs → Stk R H' b fs → Lnk t fs t' → t'.size ≤ 50000 → fs.length ≤ 100000 →
      (∀ r H'', R H'' t' r → Same H' H'' → Q' r H'') → sp ws [u, .ref g, .ref b] H' Q' E) ∧
    ∀ r H', R H' t r → Same H H' → Q r H'
/-- before each turn -/
def Wwalk (R : Hp → Tm → V → Prop) (v : V) (f b : Addr) (t : Tm) (H0 : Hp) (m : Nat) (σ : St) (H : Hp) : Prop :=
  ∃ (fs : List Fr) (u3 u4 u5 u6 u7 : Option V), σ = [some v, some (.ref f), some (.ref b), u3, u4, u5, u6, u7] ∧ Same H0 H ∧ Stk R H b fs ∧ Apt H0 b fs ∧ m = leftT fs ∧ m ≤ 2 * t.size ∧
    match fs with
    | [] => ∃ r, u3 = some r ∧ R H t r
    | x :: r => Lnk t r x.t ∧ ∀ y ∈ x :: r, y.t.size ≤ 50000
end My
namespace My
open PySem PySem.Spec PyProof.Rows L2 NdefX LamX
section
variable {P : Program} {w : World} {K : PySem.W.Frag} {mg : Str → Option Value} {base : Heap} {f0 : Addr}
/-- the body of walked, in its frame: hC tells what the function's cells hold -/
theorem walk_body (B : Bn mg) (c_parts_of : Cal P w K mg base "parts_of" 1 ["term"] spParts) {cdv : Value} {A : Around} {outer : List Env} {s : Shared} {H : Hp} {vs : List V} {Q : VK} {E : XK} {k : Nat} {mk : Addr → NF} {fr : List Str} {sp : List (Option V) → Sp} {ws : List (Option V)} {R : Hp → Tm → V → Prop}
    (mn : ∀ H H' t v, Tups H H' → R H t v → R H' t v) (hk : 1 ≤ k) (Fn : ∀ f c', NOk P w K mg base (L2.CX P w) k f (mk c') ["at", "given", "begun"] fr sp)
    (hC : ∀ c' pins σ H' s', Inv (cxOf (L2.CX P w) P w K mg base ["term", "step", "begun", "result", "at", "parts", "given", "part"] "walked" (defScope s_walked) f0 cdv A outer s H E) pins σ H' s' → CellsAt (mk c').cl fr ws s'.heap H')
    (hr : Room k (A.deeper (envOfC "walked" (defScope s_walked) s.heap.objs.size f0 cdv))) (h : spWalk mk sp ws R vs H Q E) :
    ∃ t, PSs (cxOf (L2.CX P w) P w K mg base ["term", "step", "begun", "result", "at", "parts", "given", "part"] "walked" (defScope s_walked) f0 cdv A outer s H E) (defBody s_walked) t ∧ t { nx := fun _ H' => Q .non H', rt := Q } (start ["term", "step", "begun", "result", "at", "parts", "given", "part"] vs) H := by
  obtain ⟨v, f, c', t, rfl, ht, hz, hf, hc, stp, q⟩ := h
  have Fn' := Fn f c'
  have hC' := hC c'
  generalize mk c' = F at hf hc Fn' hC'
  refine ⟨_, (pss_cons (ps_set (i := 2) sc_walked.nd rfl (Or.inl rfl) (pe_lst (pa_cons (pe_tup (pa_cons (pv 0) (pa_cons (pc c_parts_of (hr.mono (by first | decide | omega)) (pa_cons (pv 0) pa_nil)) (pa_cons (pe_lst pa_nil) pa_nil)))) pa_nil)))
    (pss_cons (ps_set (i := 3) sc_walked.nd rfl (Or.inl rfl) pe_non)
    (pss_cons (ps_while (passes_of rfl) (truth K rfl (pv 2)) (pss_cons (ps_asg (pe_ix (ixL K rfl) (pv 2) (pe_un un_neg pe_int) (fun _ _ => rfl)) (pg_tup rfl (pgs_cons (pg_name (i := 4) sc_walked.nd rfl (Or.inl rfl)) (pgs_cons (pg_name (i := 5) sc_walked.nd rfl (Or.inl rfl)) (pgs_cons (pg_name (i := 6) sc_walked.nd rfl (Or.inl rfl)) pgs_nil)))))
    (pss_cons (ps_if (pt_cmpR op_lt (pe_callB (lenSeq K rfl) (by rfl) B.b_len PySem.boot_len (pa_cons (pv 6) pa_nil)) (pe_callB (lenSeq K rfl) (by rfl) B.b_len PySem.boot_len (pa_cons (pv 5) pa_nil)) (nomark _)) (pss_cons (ps_set (i := 7) sc_walked.nd rfl (Or.inl rfl) (pe_ix (ixL K rfl) (pv 5) (pe_callB (lenSeq K rfl) (by rfl) B.b_len PySem.boot_len (pa_cons (pv 6) pa_nil)) (fun _ _ => rfl)))
    (pss_cons (ps_expr (pe_bm PySem.F.plainAttrs_list PySem.F.slot_list_append PySem.F.type_list_append mt_append (pv 2) (pa_cons (pe_tup (pa_cons (pv 7) (pa_cons (pc c_parts_of (hr.mono (by first | decide | omega)) (pa_cons (pv 7) pa_nil)) (pa_cons (pe_lst pa_nil) pa_nil)))) pa_nil)))
    (pss_one ps_continue))) pss_nil)
    (pss_cons (ps_expr (pe_bm0 PySem.F.plainAttrs_list PySem.F.slot_list_pop PySem.F.type_list_pop mt_pop (pv 2)))
    (pss_cons (ps_set (i := 3) sc_walked.nd rfl (Or.inl rfl) (pe_callV (i := 1) Fn' hC' hr rfl (by first | exact Or.inl rfl | exact Or.inr (Or.inl rfl) | exact Or.inr (Or.inr rfl)) (fun σ => passAt (takes_of rfl rfl rfl rfl) σ) (pa_cons (pv 4) (pa_cons (pv 6) (pa_cons (pv 2) pa_nil)))))
    (pss_one (ps_if (truth K rfl (pv 2)) (pss_one (ps_expr (pe_bm PySem.F.plainAttrs_list PySem.F.slot_list_append PySem.F.type_list_append mt_append (pe_ix (ixT K rfl) (pe_ix (ixL K rfl) (pv 2) (pe_un un_neg pe_int) (fun _ _ => rfl)) pe_int (fun _ _ => rfl)) (pa_cons (pv 3) pa_nil)))) pss_nil)))))))
    (pss_one (ps_ret (pv 3)))))), ?_⟩
  obtain ⟨ps, nd, hps⟩ := ht.node
  have zt := t.size_parts
  have lps := hps.len
  have l1 := Tm.len_sizes t.parts
  refine ⟨_, rfl, _, rfl, v, _, ps, rfl, nd, by omega, fun p H1 np hp s1 => ?_⟩
  refine ⟨Nat.zero_le _, fun g ng => ⟨(by show 3 ≤ sizeLine; decide), fun e ne => ⟨(by show 1 ≤ sizeLine; decide), fun b nb => ?_⟩⟩⟩
  have init : Wwalk R v f b t H (leftT [⟨e, p, g, v, t, []⟩]) [some v, some (.ref f), some (.ref b), some .non, none, none, none, none] (upd (upd (upd H1 g (.lst [])) e (.tup [v, .ref p, .ref g])) b (.lst [.ref e])) := by
    have s2 := same_new ng (.lst [])
    have s3 := same_new ne (.tup [v, .ref p, .ref g])
    have s4 := same_new nb (.lst [.ref e])
    have hgp : g ≠ p := fun z => by rw [z, hp] at ng; cases ng
    have hg2 : (upd H1 g (.lst [])) g = some (.lst []) := upd_same
    have g0 : H g = none := s1.free ng
    have b0 : H b = none := ((s1.trans s2).trans s3).free nb
    have hbg : g ≠ b := ne_of_none (s3 _ _ hg2) nb
    have hbp : p ≠ b := ne_of_none (s3 _ _ (s2 _ _ hp)) nb
    have all := ((s1.trans s2).trans s3).trans s4
    refine ⟨[⟨e, p, g, v, t, []⟩], some .non, none, none, none, none, rfl, all, ⟨upd_same, fun x hx => ?_⟩, ⟨b0, fun x hx => ?_, fun x hx => ?_, fun x hx y hy => ?_, by simp⟩, rfl, ?_, rfl, fun x hx => by rw [List.mem_singleton.mp hx]; exact hz⟩
    · rw [List.mem_singleton.mp hx]
      exact ⟨s4 _ _ upd_same, ht.mono (Tups.of_same all), ⟨ps, s4 _ _ (s3 _ _ (s2 _ _ hp)), hps.mono (Tups.of_same all)⟩, s4 _ _ (s3 _ _ hg2), ⟨Nat.zero_le _, fun i t v a => by simp at a⟩⟩
    · rw [List.mem_singleton.mp hx]
      exact g0
    · rw [List.mem_singleton.mp hx]
      exact ⟨hbg, hbp⟩
    · rw [List.mem_singleton.mp hx, List.mem_singleton.mp hy]
      exact hgp
    · simp only [leftT, leftB, List.length_nil, List.drop_zero]
      omega
  refine ⟨Wwalk R v f b t H, ⟨_, init⟩, fun m σ H2 w2 => ?_⟩
  clear init
  obtain ⟨fs, u3, u4, u5, u6, u7, rfl, S, Ks, Ap, rfl, hm, c⟩ := w2
  refine ⟨_, rfl, _, .inl ⟨_, SqL.of Ks.lst, rfl⟩, ?_⟩
  cases fs with
  | nil =>
    obtain ⟨r, rfl, hR⟩ := c
    exact iteF ⟨_, rfl, q r H2 hR S⟩
  | cons x r =>
    obtain ⟨lnk, xz⟩ := c
    have hl := Ks.lst
    rw [List.reverse_cons, List.map_append, List.map_cons, List.map_nil] at hl ⊢
    have hL : (r.reverse.map fun f => V.ref f.e).length = r.length := by rw [List.length_map, List.length_reverse]
    generalize hLL : (r.reverse.map fun f => V.ref f.e) = L at hl hL ⊢
    refine ifT (by cases L <;> rfl) ?_
    have lr := leftT_len (x :: r)
    rw [List.length_cons] at lr
    refine ⟨fun σ' H' => ∃ m', m' < leftT (x :: r) ∧ Wwalk R v f b t H m' σ' H', fun _ _ h => h, ?_⟩
    have hx := Ks.at_ x (.head _)
    obtain ⟨xs, hxp, hxs⟩ := hx.ps
    have lxs := hxs.len
    have lgs := hx.rt.1
    have zx := x.t.size_parts
    have l2 := Tm.len_sizes x.t.parts
    refine ⟨_, rfl, _, rfl, _, _, _, _, rfl, rfl, SqL.of hl, atI_last _ _, x.e, _, rfl, SqT.of hx.row, rfl, _, _, rfl, _, _, rfl, _, _, rfl, rfl, ?_⟩
    refine ⟨_, rfl, x.g, _, rfl, .inl (SqL.of hx.gs), _, rfl, x.p, xs, rfl, .inl (SqL.of hxp), _, _, rfl, rfl, _, rfl, ?_⟩
    by_cases hlt : x.gs.length < xs.length
    · -- the next part is begun
      refine ifT (decide_eq_true (by omega)) ?_
      obtain ⟨tp, htp⟩ : ∃ tp, x.t.parts[x.gs.length]? = some tp := ⟨_, List.getElem?_eq_getElem (by omega)⟩
      obtain ⟨pv, hpv, tmp⟩ := hxs.get _ _ htp
      obtain ⟨pps, pnd, hpps⟩ := tmp.node
      have zm := Tm.sizes_mem (List.mem_of_getElem? htp)
      have zp := tp.size_parts
      have lp := hpps.len
      have l3 := Tm.len_sizes tp.parts
      have xz := xz x (.head _)
      refine ⟨_, rfl, _, rfl, x.g, _, rfl, .inl (SqL.of hx.gs), _, _, _, _, rfl, rfl, SqL.of hxp, atI_nat hpv, ?_⟩
      refine ⟨_, rfl, tyL hl, _, rfl, _, rfl, pv, _, pps, rfl, pnd, by omega, fun p' H3 np' hp' s3 => ⟨Nat.zero_le _, fun g' ng' => ⟨(by show 3 ≤ sizeLine; decide), fun e' ne' => ?_⟩⟩⟩
      have s4 := same_new ng' (.lst [])
      have hg4 : (upd H3 g' (.lst [])) g' = some (.lst []) := upd_same
      generalize hG4 : upd H3 g' (.lst []) = H4 at ne' s4 hg4 ⊢
      have s5 := same_new ne' (.tup [pv, .ref p', .ref g'])
      have he5 : (upd H4 e' (.tup [pv, .ref p', .ref g'])) e' = some (.tup [pv, .ref p', .ref g']) := upd_same
      generalize hG5 : upd H4 e' (.tup [pv, .ref p', .ref g']) = H5 at s5 he5 ⊢
      have s25 := (s3.trans s4).trans s5
      have hl5 := s25 _ _ hl
      refine ⟨b, _, .ref e', rfl, rfl, hl5, ?_, ?_⟩
      · rw [List.length_append, List.length_singleton, hL]
        exact line5 (by omega)
      have T6 : Tups H5 (upd H5 b (.lst ((L ++ [.ref x.e]) ++ [.ref e']))) := Tups.upd hl5
      have S6 : Same H (upd H5 b (.lst ((L ++ [.ref x.e]) ++ [.ref e']))) := Same.atNew (S.trans s25) Ap.b0
      have hb6 : (upd H5 b (.lst ((L ++ [.ref x.e]) ++ [.ref e']))) b = some (.lst ((L ++ [.ref x.e]) ++ [.ref e'])) := upd_same
      have k6 : ∀ a o, a ≠ b → H5 a = some o → (upd H5 b (.lst ((L ++ [.ref x.e]) ++ [.ref e']))) a = some o := fun a o n e => by rw [upd_ne n]; exact e
      generalize upd H5 b (.lst ((L ++ [.ref x.e]) ++ [.ref e'])) = H6 at T6 S6 hb6 k6 ⊢
      have T : Tups H2 H6 := (Tups.of_same s25).trans T6
      have ng'b : g' ≠ b := (ne_of_none (s3 _ _ hl) ng').symm
      have np'b : p' ≠ b := (ne_of_none hl np').symm
      have np'g' : g' ≠ p' := (ne_of_none hp' ng').symm
      refine ⟨_, ?_, ⟨e', p', g', pv, tp, []⟩ :: x :: r, u3, some x.v, some (.ref x.p), some (.ref x.g), some pv, rfl, S6, ⟨?_, fun y hy => ?_⟩, ⟨Ap.b0, fun y hy => ?_, fun y hy => ?_, fun y hy z hz => ?_, ?_⟩, rfl, ?_, ⟨htp, lnk⟩, fun y hy => ?_⟩
      · simp only [leftT, leftB, List.length_nil, List.drop_zero]
        have := sizes_drop htp
        omega
      · rw [hb6, List.reverse_cons, List.map_append, List.reverse_cons, List.map_append, hLL]
        rfl
      · rcases List.mem_cons.mp hy with rfl | hy
        · exact ⟨T6 _ _ he5, tmp.mono T, ⟨pps, k6 _ _ np'b (s5 _ _ (s4 _ _ hp')), hpps.mono T⟩, k6 _ _ ng'b (s5 _ _ hg4), ⟨Nat.zero_le _, fun i t v a => by simp at a⟩⟩
        · exact FrAt.mono mn T (fun _ e => k6 _ _ (Ap.bg y hy).2 (s25 _ _ e)) (fun _ e => k6 _ _ (Ap.bg y hy).1 (s25 _ _ e)) (Ks.at_ y hy)
      · rcases List.mem_cons.mp hy with rfl | hy
        · exact (S.trans s3).free ng'
        · exact Ap.g0 y hy
      · rcases List.mem_cons.mp hy with rfl | hy
        · exact ⟨ng'b, np'b⟩
        · exact Ap.bg y hy
      · rcases List.mem_cons.mp hy with rfl | hy <;> rcases List.mem_cons.mp hz with rfl | hz
        · exact np'g'
        · obtain ⟨zs, h1, _⟩ := (Ks.at_ z hz).ps
          exact (ne_of_none (s3 _ _ h1) ng').symm
        · exact ne_of_none (Ks.at_ y hy).gs np'
        · exact Ap.gp y hy z hz
      · refine List.nodup_cons.mpr ⟨fun h => ?_, Ap.nd⟩
        obtain ⟨y, hy, ey⟩ := List.mem_map.mp h
        exact ne_of_none (s3 _ _ (Ks.at_ y hy).gs) ng' ey
      · simp only [leftT, leftB, List.length_nil, List.drop_zero] at hm ⊢
        have := sizes_drop htp
        omega
      · rcases List.mem_cons.mp hy with rfl | hy
        · show tp.size ≤ 50000
          omega
        · exact (by assumption : ∀ y ∈ x :: r, y.t.size ≤ 50000) y hy
    · -- all its parts have given
      refine ifF (decide_eq_false (by omega)) ?_
      refine ⟨_, rfl, tyL hl, b, _, .ref x.e, rfl, rfl, hl, by simp, ?_⟩
      rw [List.dropLast_concat]
      have T3 : Tups H2 (upd H2 b (.lst L)) := Tups.upd hl
      have S3 : Same H (upd H2 b (.lst L)) := Same.atNew S Ap.b0
      have hb3 : (upd H2 b (.lst L)) b = some (.lst L) := upd_same
      have k3 : ∀ a o, a ≠ b → H2 a = some o → (upd H2 b (.lst L)) a = some o := fun a o n e => by rw [upd_ne n]; exact e
      generalize upd H2 b (.lst L) = H3 at T3 S3 hb3 k3 ⊢
      have stk3 : Stk R H3 b r := ⟨by rw [hb3, hLL], fun y hy => FrAt.mono mn T3 (fun _ e => k3 _ _ (Ap.bg y (.tail _ hy)).2 e) (fun _ e => k3 _ _ (Ap.bg y (.tail _ hy)).1 e) (Ks.at_ y (.tail _ hy))⟩
      refine ⟨rfl, S3 _ _ hf, _, rfl, _, rfl, _, rfl, S3 _ _ hf, S3 _ _ hc, stp x.v x.t x.g b x.gs r H3 _ S3 (hx.tm.mono T3) (k3 _ _ (Ap.bg x (.head _)).1 hx.gs) (by omega) (Rts.mono mn T3 hx.rt) stk3 lnk (xz x (.head _)) (by omega) fun rv H4 hR s4 => ?_⟩
      have hb4 := s4 _ _ hb3
      have stk4 := Stk.same mn s4 stk3
      have S4 := S3.trans s4
      refine ⟨_, rfl, _, .inl ⟨L, SqL.of hb4, rfl⟩, ?_⟩
      cases r with
      | nil =>
        cases hLL
        refine iteF ⟨0, (by simp only [leftT]; omega), [], some rv, some x.v, some (.ref x.p), some (.ref x.g), u7, rfl, S4, ⟨hb4, fun y hy => (nomatch hy)⟩, ⟨Ap.b0, fun y hy => (nomatch hy), fun y hy => (nomatch hy), fun y hy => (nomatch hy), List.nodup_nil⟩, rfl, Nat.zero_le _, rv, rfl, ?_⟩
        have e : x.t = t := lnk
        rw [← e]
        exact hR
      | cons y r =>
        rw [List.reverse_cons, List.map_append] at hLL
        obtain ⟨M, rfl⟩ : ∃ M, L = M ++ [V.ref y.e] := ⟨_, hLL.symm⟩
        refine ifT (by cases M <;> rfl) ?_
        have hy := stk4.at_ y (.head _)
        have ay := Ap.tail
        refine ⟨_, rfl, _, rfl, _, _, _, _, rfl, rfl, SqL.of hb4, atI_last _ _, _, _, _, _, rfl, rfl, SqT.of hy.row, rfl, tyL hy.gs, _, rfl, y.g, y.gs, rv, rfl, rfl, hy.gs, ?_, ?_⟩
        · have := hy.rt.1
          have := Tm.len_sizes y.t.parts
          have := y.t.size_parts
          have := xz y (.tail _ (.head _))
          exact line5 (by omega)
        have T5 : Tups H4 (upd H4 y.g (.lst (y.gs ++ [rv]))) := Tups.upd hy.gs
        have S5 : Same H (upd H4 y.g (.lst (y.gs ++ [rv]))) := Same.atNew S4 (ay.g0 y (.head _))
        have hg5 : (upd H4 y.g (.lst (y.gs ++ [rv]))) y.g = some (.lst (y.gs ++ [rv])) := upd_same
        have k5 : ∀ a o, a ≠ y.g → H4 a = some o → (upd H4 y.g (.lst (y.gs ++ [rv]))) a = some o := fun a o n e => by rw [upd_ne n]; exact e
        generalize upd H4 y.g (.lst (y.gs ++ [rv])) = H5 at T5 S5 hg5 k5 ⊢
        obtain ⟨yps, hyp, hyps⟩ := hy.ps
        have nd := List.nodup_cons.mp ay.nd
        refine ⟨_, ?_, ⟨y.e, y.p, y.g, y.v, y.t, y.gs ++ [rv]⟩ :: r, some rv, some x.v, some (.ref x.p), some (.ref x.g), u7, rfl, S5, ⟨?_, fun z hz => ?_⟩, ⟨Ap.b0, fun z hz => ?_, fun z hz => ?_, fun z hz z' hz' => ?_, ay.nd⟩, rfl, ?_, lnk.2, fun z hz => ?_⟩
        · simp only [leftT, leftB, List.length_append, List.length_singleton]
          omega
        · rw [k5 _ _ (ay.bg y (.head _)).1.symm hb4, ← hLL, List.reverse_cons, List.map_append]
          rfl
        · rcases List.mem_cons.mp hz with rfl | hz
          · exact ⟨T5 _ _ hy.row, hy.tm.mono T5, ⟨yps, k5 _ _ (ay.gp y (.head _) y (.head _)).symm hyp, hyps.mono T5⟩, hg5, Rts.snoc (Rts.mono mn T5 hy.rt) lnk.1 (mn _ _ _ _ T5 hR)⟩
          · exact FrAt.mono mn T5 (fun _ e => k5 _ _ (ay.gp y (.head _) z (.tail _ hz)).symm e) (fun _ e => k5 _ _ (fun q => nd.1 (q ▸ List.mem_map_of_mem hz)) e) (stk4.at_ z (.tail _ hz))
        · rcases List.mem_cons.mp hz with rfl | hz
          · exact ay.g0 y (.head _)
          · exact ay.g0 z (.tail _ hz)
        · rcases List.mem_cons.mp hz with rfl | hz
          · exact ay.bg y (.head _)
          · exact ay.bg z (.tail _ hz)
        · rcases List.mem_cons.mp hz with rfl | hz <;> rcases List.mem_cons.mp hz' with rfl | hz'
          · exact ay.gp y (.head _) y (.head _)
          · exact ay.gp y (.head _) z' (.tail _ hz')
          · exact ay.gp z (.tail _ hz) y (.head _)
          · exact ay.gp z (.tail _ hz) z' (.tail _ hz')
        · simp only [leftT, leftB, List.length_append, List.length_singleton] at hm ⊢
          omega
        · rcases List.mem_cons.mp hz with rfl | hz
          · exact xz y (.tail _ (.head _))
          · exact xz z (.tail _ (.tail _ hz))
/-- walked with a function that captures nothing -/
theorem ok_walked0 {fd : FuncData} (B : Bn mg) (c_parts_of : Cal P w K mg base "parts_of" 1 ["term"] spParts) (F0 : Fun K "walked" "walked" s_walked f0 fd) {k : Nat} {mk : Addr → NF} {sp : List (Option V) → Sp} {R : Hp → Tm → V → Prop}
    (mn : ∀ H H' t v, Tups H H' → R H t v → R H' t v) (hk : 1 ≤ k) (cl0 : ∀ c', (mk c').cl = []) (Fn : ∀ f c', NOk P w K mg base (L2.CX P w) k f (mk c') ["at", "given", "begun"] [] sp) :
    FnOk P w K mg base (L2.CX P w) (k + 1) f0 fd ["term", "step"] (spWalk mk sp [] R) := by
  refine F0.okX sc_walked (fun vs H Q E h => ?_) (fun cdv A outer s H vs Q E hr h => ?_)
  · obtain ⟨v, f, c', t, rfl, _⟩ := h
    rfl
  exact walk_body B c_parts_of mn hk Fn (fun c' pins σ H' s' _ => by rw [cl0 c']; exact cells_none) hr h
end
end My
namespace My
open PySem PySem.Spec PyProof.Rows L2 NdefX LamX
/-! a call of a local name that holds one of several defs -/
def tCallG (i : Nat) (G : Addr → Sp → Prop) (E : L2.St → XK) (t : TA) : TE := fun σ H Q => ∃ f sp, σ[i]? = some (some (.ref f)) ∧ G f sp ∧ t σ H fun vs H1 => sp vs H1 Q (E σ)
structure HeldG (CX : CXT) (P : Program) (w : World) (K : PySem.W.Frag) (mg : Str → Option Value) (base : Heap) (k : Nat) (f : Addr) (sp : Sp) : Prop where
  ex : ∃ (fd : FuncData) (ps : List Str), FnOk P w K mg base CX k f fd ps sp ∧ PySem.W.keepIn K (.ref f) = true ∧ Binds K fd ps []
section
variable {X : Cx} {CX : CXT} {k i : Nat} {ES : L2.St → XK} {x : Str} {p pos : Pos} {e : Expr} {es : List Expr} {t : TA}
theorem pe_callG {G : Addr → Sp → Prop} (A : ∀ f sp, G f sp → HeldG CX X.prog X.w X.K X.mg X.base k f sp) (hr : Room k X.A) (hN : X.N[i]? = some x) (hv : Vis X.env.scope x) (hx : ∀ σ, PassesAt CX X σ (ES σ)) (ha : PA X (e :: es) t)
    (hdb : (x == ("__debug__" : Str)) = false := by decide) (hcd : (x == ("__classdict__" : Str)) = false := by decide)
    (he : starEach (e :: es) X.env = (false, eval e X.env) :: starEach es X.env := by rfl) (hpl : (backTo pos (starEach es X.env)).any (·.1) = false := by rfl) : PE X (.Call (.Name x p) (e :: es) [] pos) (tCallG i G ES t) := by
  refine ⟨fun pins s σ H Q I h => ?_⟩
  obtain ⟨f, sp, hs, hG, ht⟩ := h
  obtain ⟨fd, ps, F, hk, hb⟩ := (A f sp hG).ex
  refine wpAny_Call_Name_kw (thn ((pe_var (pos := p) hN hv hdb hcd).run pins s σ H (fun v H1 => v = .ref f ∧ H1 = H) I ⟨.ref f, hs, rfl, rfl⟩) fun u s1 ⟨v, H1, I1, r1, q1⟩ => ?_)
  obtain ⟨rfl, rfl⟩ := q1
  cases r1
  refine PySem.W.callWith_K (h₀ := X.base) I.ok.mod.kin hk (thn (ha.run pos pins s1 σ _ _ I1 ht) fun us s2 ⟨vs, H2, I2, r, q⟩ => ⟨I2.kIn, ?_⟩) he hpl
  exact run_fnS F hr hb (hx σ) I2 r q
end
/-- a def that may raise, called where it doesn't, as one that doesn't -/
theorem FnOk.hush {P : Program} {w : World} {K : PySem.W.Frag} {mg : Str → Option Value} {base : Heap} {k : Nat} {f : Addr} {fd : FuncData} {ps : List Str} {sp : Sp} (F : FnOk P w K mg base (L2.CX P w) k f fd ps sp) :
    FnOk P w K mg base CX0 k f fd ps (fun vs H Q _ => sp vs H Q E0) :=
  ⟨fun vs H Q E q => F.len vs H Q E0 q, fun A outer s H args us vs Q E hr he hb hv hs => codeAny_mono (F.run A outer s H args us vs Q E0 hr he hb hv hs) fun r s' hq => by
    cases r with
    | error e =>
      obtain ⟨_, _, _, _, _, _, _, _, _, _, _, _, z⟩ := hq
      exact z.elim
    | ok fl => cases fl <;> exact hq⟩
theorem FnOk.loud {CX : CXT} {P : Program} {w : World} {K : PySem.W.Frag} {mg : Str → Option Value} {base : Heap} {k : Nat} {f : Addr} {fd : FuncData} {ps : List Str} {sp : Sp} (F : FnOk P w K mg base CX0 k f fd ps sp) : FnOk P w K mg base CX k f fd ps sp :=
  ⟨F.len, fun A outer s H args us vs Q E hr he hb hv hs => codeAny_mono (F.run A outer s H args us vs Q E hr he hb hv hs) fun r s' hq => by
    cases r with
    | error e => exact False.elim hq
    | ok fl => cases fl <;> exact hq⟩
/-! a def whose code object is told -/
structure FunC (K : PySem.W.Frag) (x qual : Str) (st : Stmt) (f : Addr) (fd : FuncData) (c : Addr) : Prop where
  ex : ∃ (oc : Value) (od : Option Addr) (kV doc pm : Value) (an : Option Addr) (ct : Value) (osl : Array (Option Value)),
    fd = PySem.W.fnOf x qual (defArgs st) (defBody st) (defScope st) .none kV doc pm an (.ref c) ct ∧ K.lookup f = some ⟨oc, od, .func fd, osl⟩ ∧ PySem.W.codeIn K (.ref c) qual = true
section
variable {P : Program} {w : World} {K : PySem.W.Frag} {mg : Str → Option Value} {base : Heap}
theorem FunC.ok {x qual : Str} {st : Stmt} {f : Addr} {fd : FuncData} {c : Addr} {N ps : List Str} {k : Nat} {sp : Sp} (F : FunC K x qual st f fd c) (S : FnScope N ps (defScope st)) (len : ∀ vs H Q E, sp vs H Q E → vs.length = ps.length)
    (hbody : ∀ (A : Around) (outer : List Env) (s : Shared) (H : Hp) (vs : List V) (Q : VK) (E : XK), Room k (A.deeper (envOfC qual (defScope st) s.heap.objs.size f (.ref c))) → sp vs H Q E →
      ∃ t, PSs (cxOf CX0 P w K mg base N qual (defScope st) f (.ref c) A outer s H E).nox (defBody st) t ∧ t { nx := fun _ H' => Q .non H', rt := Q } (start N vs) H) : FnOk P w K mg base CX0 (k + 1) f fd ps sp := by
  obtain ⟨oc, od, kV, doc, pm, an, ct, osl, rfl, lk, hcd⟩ := F.ex
  refine fn_of lk hcd S len fun A outer s H vs Q E hr hsp => ?_
  obtain ⟨t, h, q⟩ := hbody A outer s H vs Q E hr hsp
  exact ⟨t, h.nox, q⟩
end
theorem FunC.toFun {K : PySem.W.Frag} {x qual : Str} {st : Stmt} {f : Addr} {fd : FuncData} {c : Addr} (F : FunC K x qual st f fd c) (k : PySem.W.keepIn K (.ref f) = true) : Fun K x qual st f fd := by
  obtain ⟨oc, od, kV, doc, pm, an, ct, osl, e, lk, hcd⟩ := F.ex
  exact ⟨⟨oc, od, kV, doc, pm, an, .ref c, ct, osl, e, lk, hcd⟩, k⟩
/-! show_term -/
abbrev s_shows_step : Stmt := (defBody s_show_term).getD 0 (.Pass ⟨0, 0, 0, 0⟩)
abbrev q_shows_step : Str := "show_term.<locals>.step"
def mkShows (c : Addr) : NF := NF.of s_shows_step "step" q_shows_step [] c
theorem nsc_shows : NScope ["at", "given", "begun", "show"] ["at", "given", "begun"] [] (C8.fnScope s_shows_step) := nscope_by (by decide +kernel)
def shG (fs : Str → Addr) (f : Addr) (sp : Sp) : Prop := (f = fs "num" ∧ sp = spShow1 sel_num) ∨ (f = fs "text" ∧ sp = spShow1 sel_text) ∨ (f = fs "call" ∧ sp = spShow1 sel_call) ∨ (f = fs "make" ∧ sp = spShow1 sel_make) ∨ (f = fs "get" ∧ sp = spShow1 sel_get) ∨
  (f = fs "case" ∧ sp = spShow1 sel_case) ∨ (f = fs "as" ∧ sp = spShow1 sel_as) ∨ (f = fs "look" ∧ sp = spShow1 sel_look) ∨ (f = fs "one" ∧ sp = spShow1 sel_one) ∨ (f = fs "answer" ∧ sp = spShow1 sel_answer) ∨ (f = fs "ask" ∧ sp = spShow1 sel_ask) ∨ (f = fs "handed" ∧ sp = spShow1 sel_handed)
/-- the written dict of the writers -/
structure ShwC (K : PySem.W.Frag) (w : World) (mg : Str → Option Value) (aS : Addr) (fs : Str → Addr) : Prop where
  m : mg "SHOWS" = some (.ref aS)
  d : ∀ x ∈ (["num", "text", "call", "make", "get", "case", "as", "look", "one", "answer", "ask", "handed"] : List Str), KDct K w aS x (.ref (fs x))
def spStepS : Sp := fun vs H Q _ => ∃ (u : V) (g b : Addr) (h : Hd) (ps : List V) (zs : List Str), vs = [u, .ref g, .ref b] ∧ NdAt H u h ps ∧ h.small ∧ H g = some (.lst (zs.map V.str)) ∧ zs.length = ps.length ∧ sumL zs + 12 * zs.length ≤ 800000 ∧
  ∀ z H', cl z = h.sh (zs.map cl) → Same H H' → Q (.str z) H'
def Hd.word : Hd → Str
  | .num _ => "num" | .text _ => "text" | .hole _ => "hole" | .call _ _ => "call" | .make _ _ => "make" | .get _ => "get" | .bare _ _ => "case" | .case _ _ => "case"
  | .as_ _ => "as" | .look _ => "look" | .one => "one" | .answer _ => "answer" | .ask => "ask" | .handed _ _ _ _ => "handed"
theorem NdAt.word {H : Hp} {u : V} {h : Hd} {ps : List V} (n : NdAt H u h ps) : ∃ a r, u = .ref a ∧ H a = some (.tup (.str h.word :: r)) := by
  cases n <;> exact ⟨_, _, rfl, ‹_›⟩
theorem Hd.shown {h : Hd} (s : h.small) (fs : Str → Addr) : h.word ∈ (["num", "text", "call", "make", "get", "case", "as", "look", "one", "answer", "ask", "handed"] : List Str) ∧ ∃ sel, shG fs (fs h.word) (spShow1 sel) ∧ sel h := by
  cases h with
  | num i => exact ⟨by simp [Hd.word], _, .inl ⟨rfl, rfl⟩, _, rfl⟩
  | text z => exact ⟨by simp [Hd.word], _, .inr (.inl ⟨rfl, rfl⟩), _, rfl⟩
  | hole x => exact s.elim
  | call x ns => exact ⟨by simp [Hd.word], _, .inr (.inr (.inl ⟨rfl, rfl⟩)), _, _, rfl⟩
  | make x ns => exact ⟨by simp [Hd.word], _, .inr (.inr (.inr (.inl ⟨rfl, rfl⟩))), _, _, rfl⟩
  | get x => exact ⟨by simp [Hd.word], _, .inr (.inr (.inr (.inr (.inl ⟨rfl, rfl⟩)))), _, rfl⟩
  | bare x c => exact ⟨by simp [Hd.word], _, .inr (.inr (.inr (.inr (.inr (.inl ⟨rfl, rfl⟩))))), .inl ⟨_, _, rfl⟩⟩
  | case x c => exact ⟨by simp [Hd.word], _, .inr (.inr (.inr (.inr (.inr (.inl ⟨rfl, rfl⟩))))), .inr ⟨_, _, rfl⟩⟩
  | as_ x => exact ⟨by simp [Hd.word], _, .inr (.inr (.inr (.inr (.inr (.inr (.inl ⟨rfl, rfl⟩)))))), _, rfl⟩
  | look xs => exact ⟨by simp [Hd.word], _, .inr (.inr (.inr (.inr (.inr (.inr (.inr (.inl ⟨rfl, rfl⟩))))))), _, rfl⟩
  | one => exact ⟨by simp [Hd.word], _, .inr (.inr (.inr (.inr (.inr (.inr (.inr (.inr (.inl ⟨rfl, rfl⟩)))))))), rfl⟩
  | answer n => exact ⟨by simp [Hd.word], _, .inr (.inr (.inr (.inr (.inr (.inr (.inr (.inr (.inr (.inl ⟨rfl, rfl⟩))))))))), _, rfl⟩
  | ask => exact ⟨by simp [Hd.word], _, .inr (.inr (.inr (.inr (.inr (.inr (.inr (.inr (.inr (.inr (.inl ⟨rfl, rfl⟩)))))))))), rfl⟩
  | handed x p i ns => exact ⟨by simp [Hd.word], _, .inr (.inr (.inr (.inr (.inr (.inr (.inr (.inr (.inr (.inr (.inr ⟨rfl, rfl⟩)))))))))), _, _, _, _, rfl⟩
/-- what the walk that writes is to give -/
def shR (_ : Hp) (t : Tm) (v : V) : Prop := ∃ z, v = .str z ∧ cl z = t.sh
theorem lnk_ok {root : Tm} (s : root.small) : ∀ {fs : List Fr} {t : Tm}, Lnk root fs t → t.small ∧ t.size ≤ root.size
  | [], t, h => by
    rw [show t = root from h]
    exact ⟨s, Nat.le_refl _⟩
  | f :: r, t, h => by
    obtain ⟨h1, h2⟩ := lnk_ok s h.2
    have m := List.mem_of_getElem? h.1
    have a := Tm.sizes_mem m
    have b := f.t.size_parts
    exact ⟨Tm.small_parts h1 t m, by omega⟩
theorem strs_of : ∀ {ts : List Tm} {gs : List V}, gs.length = ts.length → (∀ (i : Nat) (t : Tm) (v : V), gs[i]? = some v → ts[i]? = some t → ∃ z, v = .str z ∧ cl z = t.sh) → ∃ zs : List Str, gs = zs.map V.str ∧ zs.map cl = ts.map Tm.sh
  | [], [], _, _ => ⟨[], rfl, rfl⟩
  | t :: ts, v :: gs, l, h => by
    obtain ⟨z, rfl, e⟩ := h 0 t v rfl rfl
    obtain ⟨zs, rfl, e2⟩ := strs_of (ts := ts) (gs := gs) (by simpa using l) fun i t v a b => h (i + 1) t v a b
    exact ⟨z :: zs, rfl, by rw [List.map_cons, List.map_cons, e, e2]⟩
def tabS (Pt : Addr) : List NTab := [(Pt, fun _ _ => q_shows_step)]
def spShowT (Pt : Addr) : Sp := fun vs H Q _ => ∃ (v : V) (t : Tm), vs = [v] ∧ TmAt H v t ∧ t.size ≤ 2600 ∧ t.small ∧ TabsN (tabS Pt) H ∧ ∀ z H', cl z = t.sh → ExtN H H' → TabsN (tabS Pt) H' → Q (.str z) H'
section
variable {P : Program} {w : World} {K : PySem.W.Frag} {mg : Str → Option Value} {base : Heap} {fs : Str → Addr} {aS : Addr}
theorem ok_shows_step (sw : ShwC K w mg aS fs) (A_show : ∀ f' sp', shG fs f' sp' → HeldG (L2.CX P w) P w K mg base 3 f' sp') (f c : Addr) : NOk P w K mg base (L2.CX P w) 4 f (mkShows c) ["at", "given", "begun"] [] (fun _ => spStepS) := by
  refine nok_of nsc_shows (fun doc pm ctv us hl => match us, hl with | [_, _, _], _ => rfl) (fun ws vs H Q E h => ?_) (fun A outer s H vs ws Q E hr hf hc hw h => ?_)
  · obtain ⟨u, g, b, h, ps, zs, rfl, _⟩ := h
    rfl
  obtain ⟨u, g, b, h, ps, zs, rfl, nd, sm, hg, lzs, hz, q⟩ := h
  have m_SHOWS := sw.m
  refine ⟨_, (pss_cons (ps_set (i := 3) nsc_shows.nd rfl (Or.inl rfl) (pe_ix ix_kdict (pgT m_SHOWS) (pe_ix (ixT K rfl) (pv 0) pe_int (fun _ _ => rfl)) (fun _ _ => rfl)))
    (pss_one (ps_ret (pe_callG (i := 3) A_show hr rfl (Or.inl rfl) (fun σ => passAt (takes_of rfl rfl rfl rfl) σ) (pa_cons (pv 0) (pa_cons (pv 1) pa_nil)))))), ?_⟩
  obtain ⟨a, r, rfl, ha⟩ := nd.word
  obtain ⟨mem, sel, G, hs⟩ := Hd.shown sm fs
  obtain rfl := List.eq_nil_of_length_eq_zero hw
  refine ⟨_, rfl, _, _, _, _, rfl, rfl, SqT.of ha, at_of rfl rfl, _, _, _, rfl, rfl, sw.d _ mem, ?_⟩
  exact ⟨_, _, rfl, G, _, rfl, _, rfl, _, _, _, _, zs, rfl, hs, nd, sm, hg, lzs, hz, q⟩
theorem ok_show_term {f0 c0 Pt : Addr} {fd : FuncData} (F : FunC K "show_term" "show_term" s_show_term f0 fd c0) (TB : TabB base mg c0 Pt) (c_walked : Cal P w K mg base "walked" 5 ["term", "step"] (fun vs H Q _ => spWalk mkShows (fun _ => spStepS) [] shR vs H Q E0)) :
    FnOk P w K mg base CX0 6 f0 fd ["term"] (spShowT Pt) := by
  refine F.ok sc_show_term (fun vs H Q E h => ?_) (fun A outer s H vs Q E hr h => ?_)
  · obtain ⟨v, t, rfl, _⟩ := h
    rfl
  obtain ⟨v, t, rfl, ht, hz, sm, hT, q⟩ := h
  refine ⟨_, (pss_cons (ps_ndefMS (T := tabS Pt) (nm := fun _ _ => q_shows_step) (i := 1) (name := "step") rfl TB rfl (List.mem_singleton.mpr rfl) rfl (fun p hp _ => by rw [List.mem_singleton.mp hp]) (ndef_free (show ndefB (defScope s_show_term) (C8.fnScope s_shows_step) [] = true by decide +kernel)) rfl rfl rfl sc_show_term.nd rfl (Or.inl rfl) (Or.inr rfl))
    (pss_one (ps_ret (pc c_walked (hr.mono (by first | decide | omega)) (pa_cons (pv 0) (pa_cons (pv 1) pa_nil)))))), ?_⟩
  refine ⟨hT, fun f c' H1 eN nn T1 fn f1 c1 => ?_⟩
  have tu : Tups H H1 := fun a xs h => eN a _ h (fun ps z => by cases z)
  refine ⟨_, rfl, _, rfl, v, f, c', t, rfl, ht.mono tu, by omega, f1, c1, fun u t' g b gs fs' H' Q' s2 tm hg hl rts stk lnk _ _ k => ?_, fun r H' hR s2 => ?_⟩
  · obtain ⟨zs, rfl, e⟩ := strs_of hl rts.2
    obtain ⟨ps, nd, hps⟩ := tm.node
    obtain ⟨sm', le⟩ := lnk_ok sm lnk
    have lps := hps.len
    rw [List.length_map] at hl
    have b1 := Tm.shs_len t'.parts (Tm.smalls_of (Tm.small_parts sm'))
    rw [Tm.shs_map, ← e, sumL_lens, List.length_map] at b1
    have b2 := t'.size_parts
    exact ⟨u, g, b, t'.hd, ps, zs, rfl, nd, Tm.small_hd sm', hg, by omega, by omega, fun z H'' hz' s3 => k (.str z) H'' ⟨z, rfl, by rw [hz', e, ← Tm.sh_eq]⟩ s3⟩
  · obtain ⟨z, rfl, e⟩ := hR
    exact q z H' e (eN.trans (ExtN.of s2)) (T1.ext s2)
end
end My
namespace My
open PySem L2
/-! _law_alike -/
theorem call_len_seqB {X : Cx} : CallR X (.builtin "len") (fun xs H Q => ∃ p ys, xs = [.ref p] ∧ (SqL X.K H p ys ∨ SqT X.K H p ys) ∧ (ys.length ≤ sizeLine → Q (.int ys.length) H)) := by
  intro pins s σ H xs us Q I r h
  obtain ⟨p, ys, rfl, hs, q⟩ := h
  have hb : ys.length ≤ sizeLine := by
    rcases hs with hs | hs
    · obtain ⟨its, rv, _, hl⟩ := I.list hs
      exact hl
    · obtain ⟨its, rv, _, hl⟩ := I.tuple hs
      exact hl
  exact call_len_seq pins s σ H _ us Q I r ⟨p, ys, rfl, hs, q hb⟩
theorem lenSeqB {X : Cx} (K : PySem.W.Frag) (h : X.K = K) : CallR X (.builtin "len") (fun xs H Q => ∃ p ys, xs = [.ref p] ∧ (SqL K H p ys ∨ SqT K H p ys) ∧ (ys.length ≤ sizeLine → Q (.int ys.length) H)) := by
  subst h
  exact call_len_seqB
theorem ix_or {X : Cx} {r1 r2 : R2} (h1 : IxR X r1) (h2 : IxR X r2) : IxR X (fun x y H Q => r1 x y H Q ∨ r2 x y H Q) := by
  intro e sl pins s σ H x y v u Q I rx ry h hs
  rcases h with h | h
  · exact h1 e sl pins s σ H x y v u Q I rx ry h hs
  · exact h2 e sl pins s σ H x y v u Q I rx ry h hs
def tyName : PyData → String
  | .none => "NoneType"
  | .bool _ => "bool"
  | .int _ => "int"
  | .str _ => "str"
  | .list _ => "list"
  | .tuple _ => "tuple"
  | _ => "?"
theorem Dp.ty {K : PySem.W.Frag} {H : Hp} {v : V} {d : PyData} (h : Dp K H v d) : TyX K H v (.type (tyName d)) := by
  cases h with
  | non => exact .base .non
  | bl b => exact .base (.bl b)
  | int i => exact .base (.int i)
  | str x => exact .base (.str x)
  | lst h _ =>
    rcases h with (h | ⟨o, h⟩) | ⟨o, its, n, h, c, _⟩
    · exact .base (.lst h)
    · exact .base (.frz h)
    · exact .kList h c
  | tup h _ =>
    rcases h with (h | ⟨o, h⟩) | ⟨o, its, n, h, c, _⟩
    · exact .base (.tup h)
    · exact .fTuple h
    · exact .kTuple h c
theorem DpAll.get {K : PySem.W.Frag} {H : Hp} : ∀ {ds : List PyData} {vs : List V}, DpAll K H vs ds → ∀ (i : Nat) (v : V), vs[i]? = some v → ∃ d, ds[i]? = some d ∧ Dp K H v d
  | _, _, .nil, i, v, h => by simp at h
  | _, _, .cons a r, 0, v, h => by
    have e := Option.some.inj h
    subst e
    exact ⟨_, rfl, a⟩
  | _, _, .cons a r, i + 1, v, h => DpAll.get r i v h
theorem DpAll.len {K : PySem.W.Frag} {H : Hp} : ∀ {ds : List PyData} {vs : List V}, DpAll K H vs ds → vs.length = ds.length
  | _, _, .nil => rfl
  | _, _, .cons _ r => by rw [List.length_cons, DpAll.len r, List.length_cons]
theorem rdSame2 {K : PySem.W.Frag} {H H' : Hp} {a : Addr} {xs : List V} (s : Same H H') (h : SqT K H a xs) : SqT K H' a xs := by
  rcases h with (h | ⟨o, h⟩) | h
  · exact .inl (.inl (s _ _ h))
  · exact .inl (.inr ⟨o, s _ _ h⟩)
  · exact .inr h
mutual
theorem Dp.same {K : PySem.W.Frag} {H H' : Hp} (s : Same H H') : ∀ {d : PyData} {v : V}, Dp K H v d → Dp K H' v d
  | .none, _, .non => .non
  | .bool _, _, .bl b => .bl b
  | .int _, _, .int i => .int i
  | .str _, _, .str x => .str x
  | .list _, _, .lst h t => .lst (s.seq h) (DpAll.same s t)
  | .tuple _, _, .tup h t => .tup (rdSame2 s h) (DpAll.same s t)
theorem DpAll.same {K : PySem.W.Frag} {H H' : Hp} (s : Same H H') : ∀ {ds : List PyData} {vs : List V}, DpAll K H vs ds → DpAll K H' vs ds
  | [], _, .nil => .nil
  | _ :: _, _, .cons h t => .cons (Dp.same s h) (DpAll.same s t)
end
theorem depth_mem {d : PyData} : ∀ {ds : List PyData}, d ∈ ds → PyData.depth d ≤ PyData.depthAll ds
  | x :: r, h => by
    rw [PyData.depthAll]
    rcases List.mem_cons.mp h with rfl | h
    · omega
    · have := depth_mem h
      omega
def spAlike (K : PySem.W.Frag) (e : Nat) : Sp := fun vs H Q _ => ∃ (x y : V) (d : PyData), vs = [x, y] ∧ Dp K H x d ∧ Dp K H y d ∧ PyData.depth d < e ∧ ∀ H', Same H H' → Q (.bl true) H'
def Palk (a b : Addr) (H0 : Hp) (_i : Nat) (σ : St) (H : Hp) : Prop := ∃ u, σ = [some (.ref a), some (.ref b), u] ∧ Same H0 H
section
variable {P : Program} {w : World} {K : PySem.W.Frag} {mg : Str → Option Value} {base : Heap} {f : Addr} {fd : FuncData}
set_option maxHeartbeats 8000000 in
theorem ok_alike (B : Bn mg) (F : Fun K "_law_alike" "_law_alike" s__law_alike f fd) (hm : mg "_law_alike" = some (.ref f)) (hb : Binds K fd ["found", "due"] []) : ∀ e : Nat, FnOk P w K mg base CX0 (e + 1) f fd ["found", "due"] (spAlike K e)
  | 0 => by
    have no : ∀ vs H Q E, ¬ spAlike K 0 vs H Q E := fun vs H Q E h => by
      obtain ⟨x, y, d, _, _, _, h, _⟩ := h
      omega
    exact ⟨fun vs H Q E h => absurd h (no vs H Q E), fun A outer s H args us vs Q E _ _ _ _ h => absurd h (no vs H Q E)⟩
  | e + 1 => by
    have c__law_alike : Cal P w K mg base "_law_alike" (e + 1) ["found", "due"] (spAlike K e) := ⟨f, fd, ok_alike B F hm hb e, hm, F.kp, hb⟩
    refine F.ok sc__law_alike (fun vs H Q E h => ?_) (fun cdv A outer s H vs Q E hr h => ?_)
    · obtain ⟨x, y, d, rfl, _⟩ := h
      rfl
    obtain ⟨x, y, d, rfl, hx, hy, hd, q⟩ := h
    refine ⟨_, (pss_cons (ps_if (pt_cmpR op_isN (pv 1) pe_non (nomark _)) (pss_one (ps_ret (pe_cmpR op_isN (pv 0) pe_non (nomark _)))) pss_nil)
    (pss_cons (ps_if (pt_val (pe_callB (isInst K rfl) (by rfl) B.b_isinstance (by decide +kernel) (pa_cons (pv 1) (pa_cons (pe_bltn (v := .ty "bool") (by rfl) B.b_bool (by decide +kernel) rfl) pa_nil)))) (pss_one (ps_ret (pe_and (pe_callB (isInst K rfl) (by rfl) B.b_isinstance (by decide +kernel) (pa_cons (pv 0) (pa_cons (pe_bltn (v := .ty "bool") (by rfl) B.b_bool (by decide +kernel) rfl) pa_nil))) (pe_one (pe_cmpR op_eq (pv 0) (pv 1) (nomark _)))))) pss_nil)
    (pss_cons (ps_if (pt_val (pe_callB (isInst K rfl) (by rfl) B.b_isinstance (by decide +kernel) (pa_cons (pv 1) (pa_cons (pe_bltn (v := .ty "int") (by rfl) B.b_int (by decide +kernel) rfl) pa_nil)))) (pss_one (ps_ret (pe_and (pe_callB (isInst K rfl) (by rfl) B.b_isinstance (by decide +kernel) (pa_cons (pv 0) (pa_cons (pe_bltn (v := .ty "int") (by rfl) B.b_int (by decide +kernel) rfl) pa_nil))) (pe_and (pe_not (pe_callB (isInst K rfl) (by rfl) B.b_isinstance (by decide +kernel) (pa_cons (pv 0) (pa_cons (pe_bltn (v := .ty "bool") (by rfl) B.b_bool (by decide +kernel) rfl) pa_nil)))) (pe_one (pe_cmpR op_eq (pv 0) (pv 1) (nomark _))))))) pss_nil)
    (pss_cons (ps_if (pt_val (pe_callB (isInst K rfl) (by rfl) B.b_isinstance (by decide +kernel) (pa_cons (pv 1) (pa_cons (pe_bltn (v := .ty "str") (by rfl) B.b_str (by decide +kernel) rfl) pa_nil)))) (pss_one (ps_ret (pe_and (pe_callB (isInst K rfl) (by rfl) B.b_isinstance (by decide +kernel) (pa_cons (pv 0) (pa_cons (pe_bltn (v := .ty "str") (by rfl) B.b_str (by decide +kernel) rfl) pa_nil))) (pe_one (pe_cmpR op_eq (pv 0) (pv 1) (nomark _)))))) pss_nil)
    (pss_cons (ps_if (PW.pt (pw_or (pt_cmpR op_ne (pe_callB (isInst K rfl) (by rfl) B.b_isinstance (by decide +kernel) (pa_cons (pv 0) (pa_cons (pe_bltn (v := .ty "list") (by rfl) B.b_list (by decide +kernel) rfl) pa_nil))) (pe_callB (isInst K rfl) (by rfl) B.b_isinstance (by decide +kernel) (pa_cons (pv 1) (pa_cons (pe_bltn (v := .ty "list") (by rfl) B.b_list (by decide +kernel) rfl) pa_nil))) (nomark _)) (pw_or1 (pt_cmpR op_ne (pe_callB (isInst K rfl) (by rfl) B.b_isinstance (by decide +kernel) (pa_cons (pv 0) (pa_cons (pe_bltn (v := .ty "tuple") (by rfl) B.b_tuple (by decide +kernel) rfl) pa_nil))) (pe_callB (isInst K rfl) (by rfl) B.b_isinstance (by decide +kernel) (pa_cons (pv 1) (pa_cons (pe_bltn (v := .ty "tuple") (by rfl) B.b_tuple (by decide +kernel) rfl) pa_nil))) (nomark _))))) (pss_one (ps_ret pe_bl)) pss_nil)
    (pss_cons (ps_if (pt_cmpR op_ne (pe_callB (lenSeq K rfl) (by rfl) B.b_len PySem.boot_len (pa_cons (pv 0) pa_nil)) (pe_callB (lenSeqB K rfl) (by rfl) B.b_len PySem.boot_len (pa_cons (pv 1) pa_nil)) (nomark _)) (pss_one (ps_ret pe_bl)) pss_nil)
    (pss_cons (ps_for PassesOwn.never rfl (pi_range1 rfl B.b_range (pa_cons (pe_callB (lenSeqB K rfl) (by rfl) B.b_len PySem.boot_len (pa_cons (pv 1) pa_nil)) pa_nil)) (pg_name (i := 2) sc__law_alike.nd rfl (Or.inl rfl)) (pss_one (ps_if (pt_not (pt_val (pc c__law_alike (hr.mono (by first | decide | omega)) (pa_cons (pe_ix (ix_or (ixL K rfl) (ixT K rfl)) (pv 0) (pv 2) (fun _ _ => rfl)) (pa_cons (pe_ix (ix_or (ixL K rfl) (ixT K rfl)) (pv 1) (pv 2) (fun _ _ => rfl)) pa_nil))))) (pss_one (ps_ret pe_bl)) pss_nil)))
    (pss_one (ps_ret pe_bl))))))))), ?_⟩
    have tx := Dp.ty hx
    have ty := Dp.ty hy
    cases d with
    | none =>
      cases hx
      cases hy
      exact ⟨_, rfl, rfl, _, rfl, iteT ⟨_, rfl, rfl, q H (Same.refl _)⟩⟩
    | bool b =>
      cases hx
      cases hy
      have tx : TyX K H (.bl b) (.type "bool") := tx
      have ty : TyX K H (.bl b) (.type "bool") := ty
      refine ⟨_, rfl, rfl, _, rfl, iteF ?_⟩
      refine ⟨_, rfl, _, _, _, _, _, rfl, .ty "bool", ty, kit_ty (r := true) (by decide +kernel), _, rfl, iteT ?_⟩
      refine ⟨_, rfl, _, _, _, _, _, rfl, .ty "bool", tx, kit_ty (r := true) (by decide +kernel), _, rfl, iteT ⟨_, rfl, _, rfl, rfl, ?_⟩⟩
      have z := q H (Same.refl _)
      rw [← decide_eq_true (p := V.bl b = V.bl b) rfl] at z
      exact z
    | int i =>
      cases hx
      cases hy
      have tx : TyX K H (.int i) (.type "int") := tx
      have ty : TyX K H (.int i) (.type "int") := ty
      refine ⟨_, rfl, rfl, _, rfl, iteF ?_⟩
      refine ⟨_, rfl, _, _, _, _, _, rfl, .ty "bool", ty, kit_ty (r := false) (by decide +kernel), _, rfl, iteF ?_⟩
      refine ⟨_, rfl, _, _, _, _, _, rfl, .ty "int", ty, kit_ty (r := true) (by decide +kernel), _, rfl, iteT ?_⟩
      refine ⟨_, rfl, _, _, _, _, _, rfl, .ty "int", tx, kit_ty (r := true) (by decide +kernel), _, rfl, iteT ?_⟩
      refine ⟨_, rfl, _, _, _, _, _, rfl, .ty "bool", tx, kit_ty (r := false) (by decide +kernel), _, rfl, _, rfl, iteT ⟨_, rfl, _, rfl, rfl, ?_⟩⟩
      have z := q H (Same.refl _)
      rw [← decide_eq_true (p := V.int i = V.int i) rfl] at z
      exact z
    | str z =>
      cases hx
      cases hy
      have tx : TyX K H (.str z) (.type "str") := tx
      have ty : TyX K H (.str z) (.type "str") := ty
      refine ⟨_, rfl, rfl, _, rfl, iteF ?_⟩
      refine ⟨_, rfl, _, _, _, _, _, rfl, .ty "bool", ty, kit_ty (r := false) (by decide +kernel), _, rfl, iteF ?_⟩
      refine ⟨_, rfl, _, _, _, _, _, rfl, .ty "int", ty, kit_ty (r := false) (by decide +kernel), _, rfl, iteF ?_⟩
      refine ⟨_, rfl, _, _, _, _, _, rfl, .ty "str", ty, kit_ty (r := true) (by decide +kernel), _, rfl, iteT ?_⟩
      refine ⟨_, rfl, _, _, _, _, _, rfl, .ty "str", tx, kit_ty (r := true) (by decide +kernel), _, rfl, iteT ⟨_, rfl, _, rfl, rfl, ?_⟩⟩
      have w := q H (Same.refl _)
      rw [← decide_eq_true (p := V.str z = V.str z) rfl] at w
      exact w
    | list ds =>
      have tx : TyX K H x (.type "list") := tx
      have ty : TyX K H y (.type "list") := ty
      cases hx with
      | @lst a xs _ sa da =>
      cases hy with
      | @lst b ys _ sb db =>
      have la := DpAll.len da
      have lb := DpAll.len db
      refine ⟨_, rfl, rfl, _, rfl, iteF ?_⟩
      refine ⟨_, rfl, _, _, _, _, _, rfl, .ty "bool", ty, kit_ty (r := false) (by decide +kernel), _, rfl, iteF ?_⟩
      refine ⟨_, rfl, _, _, _, _, _, rfl, .ty "int", ty, kit_ty (r := false) (by decide +kernel), _, rfl, iteF ?_⟩
      refine ⟨_, rfl, _, _, _, _, _, rfl, .ty "str", ty, kit_ty (r := false) (by decide +kernel), _, rfl, iteF ?_⟩
      refine ⟨_, rfl, _, _, _, _, _, rfl, .ty "list", tx, kit_ty (r := true) (by decide +kernel), _, rfl, _, _, _, _, _, rfl, .ty "list", ty, kit_ty (r := true) (by decide +kernel), rfl, _, rfl, iteNS rfl ?_⟩
      refine ⟨_, rfl, _, _, _, _, _, rfl, .ty "tuple", tx, kit_ty (r := false) (by decide +kernel), _, rfl, _, _, _, _, _, rfl, .ty "tuple", ty, kit_ty (r := false) (by decide +kernel), rfl, _, rfl, iteNS rfl ?_⟩
      refine ⟨_, rfl, a, xs, rfl, .inl sa, _, rfl, b, ys, rfl, .inl sb, fun bb => ⟨rfl, _, rfl, iteNS (by rw [la, lb]) ?_⟩⟩
      refine ⟨_, rfl, b, ys, rfl, .inl sb, fun bb => ?_⟩
      rw [sizeLine_eq] at bb
      refine ⟨_, rfl, by omega, by omega, for_range (lo := 0) (n := ((ys.length : Nat) : Int).toNat) (Palk a b H) ?_ ?_ ?_⟩
      · exact ⟨none, rfl, Same.refl _⟩
      · rintro i σ H1 hi ⟨u, rfl, s1⟩
        have hi2 : i < ds.length := by omega
        have hxi : xs[i]? = some (xs[i]'(by omega)) := List.getElem?_eq_getElem (by omega)
        have hyi : ys[i]? = some (ys[i]'(by omega)) := List.getElem?_eq_getElem (by omega)
        obtain ⟨dx, hdx, px⟩ := DpAll.get da i _ hxi
        obtain ⟨dy, hdy, py⟩ := DpAll.get db i _ hyi
        rw [hdx] at hdy
        have ed := Option.some.inj hdy
        subst ed
        have hdl := depth_mem (List.mem_of_getElem? hdx)
        rw [PyData.depth] at hd
        refine ⟨_, rfl, _, rfl, .inl ⟨a, xs, _, _, rfl, rfl, s1.seq sa, at_of (j := i) (by omega) hxi, _, rfl, _, rfl, .inl ⟨b, ys, _, _, rfl, rfl, s1.seq sb, at_of (j := i) (by omega) hyi, ?_⟩⟩⟩
        exact ⟨_, _, dx, rfl, Dp.same s1 px, Dp.same s1 py, by omega, fun H2 s2 => ⟨_, rfl, iteF ⟨_, rfl, s1.trans s2⟩⟩⟩
      · rintro σ H1 ⟨u, rfl, s1⟩
        exact q H1 s1
    | tuple ds =>
      have tx : TyX K H x (.type "tuple") := tx
      have ty : TyX K H y (.type "tuple") := ty
      cases hx with
      | @tup a xs _ sa da =>
      cases hy with
      | @tup b ys _ sb db =>
      have la := DpAll.len da
      have lb := DpAll.len db
      refine ⟨_, rfl, rfl, _, rfl, iteF ?_⟩
      refine ⟨_, rfl, _, _, _, _, _, rfl, .ty "bool", ty, kit_ty (r := false) (by decide +kernel), _, rfl, iteF ?_⟩
      refine ⟨_, rfl, _, _, _, _, _, rfl, .ty "int", ty, kit_ty (r := false) (by decide +kernel), _, rfl, iteF ?_⟩
      refine ⟨_, rfl, _, _, _, _, _, rfl, .ty "str", ty, kit_ty (r := false) (by decide +kernel), _, rfl, iteF ?_⟩
      refine ⟨_, rfl, _, _, _, _, _, rfl, .ty "list", tx, kit_ty (r := false) (by decide +kernel), _, rfl, _, _, _, _, _, rfl, .ty "list", ty, kit_ty (r := false) (by decide +kernel), rfl, _, rfl, iteNS rfl ?_⟩
      refine ⟨_, rfl, _, _, _, _, _, rfl, .ty "tuple", tx, kit_ty (r := true) (by decide +kernel), _, rfl, _, _, _, _, _, rfl, .ty "tuple", ty, kit_ty (r := true) (by decide +kernel), rfl, _, rfl, iteNS rfl ?_⟩
      refine ⟨_, rfl, a, xs, rfl, .inr sa, _, rfl, b, ys, rfl, .inr sb, fun bb => ⟨rfl, _, rfl, iteNS (by rw [la, lb]) ?_⟩⟩
      refine ⟨_, rfl, b, ys, rfl, .inr sb, fun bb => ?_⟩
      rw [sizeLine_eq] at bb
      refine ⟨_, rfl, by omega, by omega, for_range (lo := 0) (n := ((ys.length : Nat) : Int).toNat) (Palk a b H) ?_ ?_ ?_⟩
      · exact ⟨none, rfl, Same.refl _⟩
      · rintro i σ H1 hi ⟨u, rfl, s1⟩
        have hi2 : i < ds.length := by omega
        have hxi : xs[i]? = some (xs[i]'(by omega)) := List.getElem?_eq_getElem (by omega)
        have hyi : ys[i]? = some (ys[i]'(by omega)) := List.getElem?_eq_getElem (by omega)
        obtain ⟨dx, hdx, px⟩ := DpAll.get da i _ hxi
        obtain ⟨dy, hdy, py⟩ := DpAll.get db i _ hyi
        rw [hdx] at hdy
        have ed := Option.some.inj hdy
        subst ed
        have hdl := depth_mem (List.mem_of_getElem? hdx)
        rw [PyData.depth] at hd
        refine ⟨_, rfl, _, rfl, .inr ⟨a, xs, _, _, rfl, rfl, rdSame2 s1 sa, at_of (j := i) (by omega) hxi, _, rfl, _, rfl, .inr ⟨b, ys, _, _, rfl, rfl, rdSame2 s1 sb, at_of (j := i) (by omega) hyi, ?_⟩⟩⟩
        exact ⟨_, _, dx, rfl, Dp.same s1 px, Dp.same s1 py, by omega, fun H2 s2 => ⟨_, rfl, iteF ⟨_, rfl, s1.trans s2⟩⟩⟩
      · rintro σ H1 ⟨u, rfl, s1⟩
        exact q H1 s1
    | _ => cases hx
end
end My
namespace My
open PySem L2 NdefX LamX
def spLaw (K : PySem.W.Frag) (Pt : Addr) : Sp := fun vs H Q _ => ∃ (a : Addr) (ns : List Int), vs = [.ref a] ∧ SqL K H a (ns.map V.int) ∧ ns.length ≤ 63 ∧ TabsN (tabS Pt) H ∧ ∀ H', Q (.bl true) H'
theorem law_sp {K : PySem.W.Frag} {Pt a : Addr} {H : Hp} {ns : List Int} (hP : H Pt = some (.tbl #[])) (hS : SqL K H a (ns.map V.int)) (hl : ns.length ≤ 63) : spLaw K Pt [.ref a] H (fun v _ => v = .bl true) fun _ _ _ => False :=
  ⟨a, ns, rfl, hS, hl, fun p hp => by rw [List.mem_singleton.mp hp]; exact .nil hP, fun _ => rfl⟩
theorem codeO_lst {c : Addr} {q : Str} {xs : List V} : CodeO c q ≠ .lst xs := fun z => by
  unfold CodeO at z
  cases z
theorem tabs_but {T : List NTab} {H H' : Hp} {d g : Addr} {n : Int} (D : Tray H d g n) (b : But d g H H') (t : TabsN T H) : TabsN T H' := fun p hp => by
  obtain ⟨ps, h1, h2, h3⟩ := t p hp
  obtain ⟨ns, cur, fold, k, D⟩ := D
  have nd : ∀ {x : Addr} {o : HO}, H x = some o → (∀ xs, o ≠ .lst xs) → x ≠ d := fun e z q => by
    rw [q, D.d] at e
    exact z _ (Option.some.inj e).symm
  have ng : ∀ {x : Addr} {o : HO}, H x = some o → (∀ xs, o ≠ .lst xs) → x ≠ g := fun e z q => by
    rw [q, D.g] at e
    exact z _ (Option.some.inj e).symm
  refine ⟨ps, b _ _ (nd h1 fun xs z => by cases z) (ng h1 fun xs z => by cases z) h1, h2, fun pos cv hc => ?_⟩
  obtain ⟨c, e1, e2⟩ := h3 pos cv hc
  exact ⟨c, e1, b _ _ (nd e2 fun xs => codeO_lst) (ng e2 fun xs => codeO_lst) e2⟩
theorem tray_ext {H H' : Hp} {d g : Addr} {n : Int} (D : Tray H d g n) (e : ExtN H H') : Tray H' d g n := by
  obtain ⟨ns, cur, fold, k, D⟩ := D
  have hd := e _ _ D.d fun ps z => by cases z
  have hg := e _ _ D.g fun ps z => by cases z
  exact ⟨ns, cur, fold, k, { D with d := hd, g := hg }⟩
theorem NmsAt.ext {H H' : Hp} {d g nl : Addr} {nms : List Str} (n : NmsAt H d g nl nms) (e : ExtN H H') : NmsAt H' d g nl nms := ⟨n.nd, n.ng, e _ _ n.at_ (fun ps z => by cases z), n.pos, n.le, n.sh⟩
theorem tups_ext {H H' : Hp} (e : ExtN H H') : Tups H H' := fun a xs h => e a _ h (fun ps z => by cases z)
def Plaw (Pt a d g nl : Addr) (n : Int) (nms : List Str) (i : Nat) (σ : St) (H : Hp) : Prop :=
  ∃ u3 u4 u5, σ = [some (.ref a), some (.ref d), some (.ref nl), u3, u4, u5] ∧ Tray H d g (n + 32000 * (i : Int)) ∧ NmsAt H d g nl nms ∧ TabsN (tabS Pt) H
def Mid (Pt a d g nl : Addr) (n : Int) (nms : List Str) (σ : St) (H : Hp) : Prop :=
  ∃ (u3 u5 : Option V) (v : V) (t : Tm), σ = [some (.ref a), some (.ref d), some (.ref nl), u3, some v, u5] ∧ TmAt H v t ∧ t.small ∧ t.size ≤ 1024 ∧ t.depth ≤ 40 ∧ Tray H d g n ∧ NmsAt H d g nl nms ∧ TabsN (tabS Pt) H
section
variable {P : Program} {w : World} {K : PySem.W.Frag} {mg : Str → Option Value} {base : Heap} {f : Addr} {fd : FuncData} {Pt : Addr}
theorem cut_ten (xs : List V) : (cutV xs none (some 10)).length ≤ 10 := by
  unfold cutV
  rw [List.length_take]
  have e : HT.sIx xs.length xs.length (some 10) ≤ 10 := by
    show (if (10 : Int) < 0 then ((10 : Int) + (xs.length : Int)).toNat else min (10 : Int).toNat xs.length) ≤ 10
    rw [if_neg (by decide)]
    exact Nat.min_le_left _ _
  omega
theorem ok_law (B : Bn mg) (F : Fun K "law" "law" s_law f fd) (c__law_tray : Cal P w K mg base "_law_tray" 1 ["script"] (spTray K)) (c__law_draw : Cal P w K mg base "_law_draw" 1 ["tray", "many"] spDraw)
    (c__law_names : Cal P w K mg base "_law_names" 3 ["tray", "many", "used"] spNames) (c__law_term : Cal P w K mg base "_law_term" 15 ["tray", "deep", "names"] (spTm 5)) (c__law_chain : Cal P w K mg base "_law_chain" 10 ["tray", "names"] spChain)
    (c__law_term_shown : Cal P w K mg base "_law_term_shown" 81 ["whole"] (spTsh 40)) (c__law_alike : Cal P w K mg base "_law_alike" 16 ["found", "due"] (spAlike K 15))
    (c_show_term : Cal P w K mg base "show_term" 6 ["term"] (spShowT Pt)) (kb_show_term : CalK P w K mg base "show_term" 6 "term" (spShowT Pt)) : FnOk P w K mg base CX0 82 f fd ["script"] (spLaw K Pt) := by
  refine F.ok (k := 81) sc_law (fun vs H Q E h => ?_) (fun cdv A outer s H vs Q E hr h => ?_)
  · obtain ⟨a, ns, rfl, _⟩ := h
    rfl
  obtain ⟨a, ns, rfl, hS, h63, hT, q⟩ := h
  refine ⟨_, (pss_cons (ps_set (i := 1) sc_law.nd rfl (Or.inl rfl) (pc c__law_tray (hr.mono (by first | decide | omega)) (pa_cons (pv 0) pa_nil)))
    (pss_cons (ps_set (i := 2) sc_law.nd rfl (Or.inl rfl) (pc c__law_names (hr.mono (by first | decide | omega)) (pa_cons (pv 1) (pa_cons pe_int (pa_cons (pe_lst pa_nil) pa_nil)))))
    (pss_cons (ps_for PassesOwn.never rfl (pi_range1 rfl B.b_range (pa_cons (pe_op op_add pe_int (pe_callB (lenSeq K rfl) (by rfl) B.b_len PySem.boot_len (pa_cons (pe_slice (slL K rfl) (pv 0) po_none (po_some pe_int)) pa_nil))) pa_nil)) (pg_name (i := 3) sc_law.nd rfl (Or.inl rfl)) (pss_cons (ps_set (i := 4) sc_law.nd rfl (Or.inl rfl) (pc c__law_term (hr.mono (by first | decide | omega)) (pa_cons (pv 1) (pa_cons pe_int (pa_cons (pv 2) pa_nil)))))
    (pss_cons (ps_if (pt_cmpR op_eq (pc c__law_draw (hr.mono (by first | decide | omega)) (pa_cons (pv 1) (pa_cons pe_int pa_nil))) pe_int (nomark _)) (pss_one (ps_set (i := 4) sc_law.nd rfl (Or.inl rfl) (pc c__law_chain (hr.mono (by first | decide | omega)) (pa_cons (pv 1) (pa_cons (pv 2) pa_nil))))) pss_nil)
    (pss_cons (ps_set (i := 5) sc_law.nd rfl (Or.inl rfl) (pc c__law_term_shown (hr.mono (by first | decide | omega)) (pa_cons (pv 4) pa_nil)))
    (pss_one (ps_if (PW.pt (pw_or (pt_not (pt_val (pc c__law_alike (hr.mono (by first | decide | omega)) (pa_cons (pc c_show_term (hr.mono (by first | decide | omega)) (pa_cons (pv 4) pa_nil)) (pa_cons (pv 5) pa_nil))))) (pw_or1 (pt_not (pt_val (pc c__law_alike (hr.mono (by first | decide | omega)) (pa_cons (pck0 kb_show_term (hr.mono (by first | decide | omega)) (pk_cons (pv 4) pk_nil)) (pa_cons (pv 5) pa_nil)))))))) (pss_one (ps_ret pe_bl)) pss_nil))))))
    (pss_one (ps_ret pe_bl))))), ?_⟩
  refine ⟨_, rfl, a, ns, rfl, hS, h63, fun d g H1 nd ng D1 s1 => ?_⟩
  have T1 : TabsN (tabS Pt) H1 := hT.ext fun b o e => s1 b o e
  refine ⟨_, rfl, Nat.zero_le _, fun u nu => ?_⟩
  have neu := D1.ne nu
  refine ⟨d, g, u, 0, 4, [], rfl, D1.new nu, by decide, neu.1, neu.2, upd_same, by decide, fun x hx => by simp at hx, fun nl zs H3 nnl hnl lz' az ndz D3 B3 => ?_⟩
  have sBut : ∀ {Hx : Hp}, But d g H1 Hx → Same H Hx := fun b x o e => b x o (ne_of_none e nd) (ne_of_none e ng) (s1 x o e)
  have T3 : TabsN (tabS Pt) H3 := tabs_but (D1.new nu) B3 (T1.ext fun b o e => same_new nu _ b o e)
  have B13 : But d g H1 H3 := ((But.refl d g H1).new nu).trans B3
  have hn8 : nl ≠ d ∧ nl ≠ g := (D1.new nu).ne nnl
  have N3 : NmsAt H3 d g nl zs := ⟨hn8.1, hn8.2, hnl, by omega, by omega, fun x hx => (az x hx).1.1.1⟩
  refine ⟨_, rfl, _, rfl, a, _, rfl, (sBut B13).seq hS, fun p np => ?_⟩
  obtain ⟨ns', ecut, _⟩ := cut_ints ns none (some 10)
  have lcut := cut_ten (ns.map V.int)
  rw [ecut, List.length_map] at lcut
  rw [ecut]
  refine ⟨p, _, rfl, .inl (SqL.of upd_same), _, _, rfl, rfl, _, rfl, by rw [List.length_map]; omega, by rw [List.length_map]; omega, ?_⟩
  have lt : (2 + (((ns'.map V.int).length : Nat) : Int)).toNat ≤ 12 := by rw [List.length_map]; omega
  generalize (2 + (((ns'.map V.int).length : Nat) : Int)).toNat = turns at lt ⊢
  have sp := same_new np (.lst (ns'.map V.int))
  have D4 := D3.same sp
  have N4 := N3.but (But.of_same sp)
  have T4 := T3.ext fun b o e => sp b o e
  generalize upd H3 p (.lst (ns'.map V.int)) = H4 at D4 N4 T4 ⊢
  clear sp np D3 N3 T3 B13 B3 hnl
  refine for_range (lo := 0) (n := turns) (Plaw Pt a d g nl 200 zs) ?_ ?_ ?_
  · exact ⟨none, none, none, rfl, D4.le (by simp), N4, T4⟩
  · rintro i σ H5 hi ⟨u3, u4, u5, rfl, D5, N5, T5⟩
    have i12 : i < 12 := by omega
    have cs : cst 5 = 30720 := by decide
    dsimp only [gName]
    refine seq_set ?_
    refine ⟨_, rfl, _, rfl, d, g, nl, _, 5, zs, rfl, by decide, by decide, D5, by omega, N5, fun v t H6 hd D6 B6 => ?_⟩
    dsimp only
    have N6 := N5.but B6
    have T6 := tabs_but D5 B6 T5
    refine seq_abs (Mid Pt a d g nl (200 + 32000 * (i : Int) + 31800) zs) ?_ ?_
    rotate_left
    · intro nx hnx
      refine ⟨_, rfl, d, g, 8, _, rfl, D6, by decide, by decide, by omega, fun r H7 r0 r1 D7 B7 => ⟨rfl, _, rfl, ite2 (fun _ => ?_) (fun _ => ?_)⟩⟩
      · refine ⟨_, rfl, _, rfl, d, g, nl, _, zs, rfl, D7, by omega, N6.but B7, fun v' t' H8 h1 h2 h3 h4 D8 B8 => ?_⟩
        exact hnx _ _ ⟨_, _, v', t', rfl, h1, h2, by omega, h4, D8.le (by omega), (N6.but B7).but B8, tabs_but D7 B8 (tabs_but D6 B7 T6)⟩
      · exact hnx _ _ ⟨_, _, v, t, rfl, hd.at_.mono (D6.tups B7), hd.small, hd.size, Nat.le_trans hd.depth (by decide), D7.le (by omega), N6.but B7, tabs_but D6 B7 T6⟩
    rintro σ' H7 ⟨w3, w5, v, t, rfl, ht, sm, sz, dp, D7, N7, T7⟩
    refine ⟨_, rfl, v, t, rfl, ht, sm, by omega, dp, fun due H8 hdue s8 => ?_⟩
    have ht8 := ht.mono (Tups.of_same s8)
    refine ⟨_, rfl, v, t, rfl, ht8, by omega, sm, T7.ext (fun b o e => s8 b o e), fun z H9 hz e9 T9 => ?_⟩
    have ez : z = due := str_ext (by rw [hz, hdue])
    subst ez
    refine ⟨_, rfl, .str z, .str z, .str z, rfl, .str z, .str z, (by show 0 < 15; decide), fun H10 s10 => ⟨_, rfl, iteF ?_⟩⟩
    have T10 := T9.ext fun b o e => s10 b o e
    have ht10 := (ht8.mono (tups_ext e9)).mono (Tups.of_same s10)
    refine ⟨_, rfl, v, t, rfl, ht10, by omega, sm, T10, fun z2 H11 hz2 e11 T11 => ?_⟩
    have ez2 : z2 = z := str_ext (by rw [hz2, hdue])
    subst ez2
    refine ⟨_, rfl, .str z2, .str z2, .str z2, rfl, .str z2, .str z2, (by show 0 < 15; decide), fun H12 s12 => ⟨_, rfl, iteF ?_⟩⟩
    refine ⟨_, _, _, rfl, ?_, ?_, T11.ext fun b o e => s12 b o e⟩
    · exact ((tray_ext ((tray_ext (D7.same s8) e9).same s10) e11).same s12).le (by omega)
    · exact (((((N7.but (But.of_same s8)).ext e9).but (But.of_same s10)).ext e11).but (But.of_same s12))
  · rintro σ H5 ⟨u3, u4, u5, rfl, D5, N5, T5⟩
    exact q H5
end
end My
namespace My
open PySem L2
/-! the written dict of the writers of terms -/
def fsOf (f0 f1 f2 f3 f4 f5 f6 f7 f8 f9 f10 f11 : Addr) (x : Str) : Addr := if x = "num" then f0 else if x = "text" then f1 else if x = "call" then f2 else if x = "make" then f3 else if x = "get" then f4 else if x = "case" then f5 else if x = "as" then f6 else if x = "look" then f7 else if x = "one" then f8 else if x = "answer" then f9 else if x = "ask" then f10 else if x = "handed" then f11 else  0
theorem shwC_of {K : PySem.W.Frag} {w : World} {mg : Str → Option Value} {aS f0 f1 f2 f3 f4 f5 f6 f7 f8 f9 f10 f11 : Addr} {t0 t1 t2 t3 t4 t5 t6 t7 t8 t9 t10 t11 : Tok} {n : Nat} (hm : mg "SHOWS" = some (.ref aS))
    (hl : K.lookup aS = some ⟨.type "dict", none, .dict #[⟨PyData.keyHash w.params "num", .str "num" t0, .ref f0⟩, ⟨PyData.keyHash w.params "text", .str "text" t1, .ref f1⟩, ⟨PyData.keyHash w.params "call", .str "call" t2, .ref f2⟩, ⟨PyData.keyHash w.params "make", .str "make" t3, .ref f3⟩, ⟨PyData.keyHash w.params "get", .str "get" t4, .ref f4⟩, ⟨PyData.keyHash w.params "case", .str "case" t5, .ref f5⟩, ⟨PyData.keyHash w.params "as", .str "as" t6, .ref f6⟩, ⟨PyData.keyHash w.params "look", .str "look" t7, .ref f7⟩, ⟨PyData.keyHash w.params "one", .str "one" t8, .ref f8⟩, ⟨PyData.keyHash w.params "answer", .str "answer" t9, .ref f9⟩, ⟨PyData.keyHash w.params "ask", .str "ask" t10, .ref f10⟩, ⟨PyData.keyHash w.params "handed", .str "handed" t11, .ref f11⟩] n, #[]⟩) : ShwC K w mg aS (fsOf f0 f1 f2 f3 f4 f5 f6 f7 f8 f9 f10 f11) := by
  have lit : PySem.W.KeysLit w.params (#[(⟨PyData.keyHash w.params "num", .str "num" t0, .ref f0⟩ : DictEntry), (⟨PyData.keyHash w.params "text", .str "text" t1, .ref f1⟩ : DictEntry), (⟨PyData.keyHash w.params "call", .str "call" t2, .ref f2⟩ : DictEntry), (⟨PyData.keyHash w.params "make", .str "make" t3, .ref f3⟩ : DictEntry), (⟨PyData.keyHash w.params "get", .str "get" t4, .ref f4⟩ : DictEntry), (⟨PyData.keyHash w.params "case", .str "case" t5, .ref f5⟩ : DictEntry), (⟨PyData.keyHash w.params "as", .str "as" t6, .ref f6⟩ : DictEntry), (⟨PyData.keyHash w.params "look", .str "look" t7, .ref f7⟩ : DictEntry), (⟨PyData.keyHash w.params "one", .str "one" t8, .ref f8⟩ : DictEntry), (⟨PyData.keyHash w.params "answer", .str "answer" t9, .ref f9⟩ : DictEntry), (⟨PyData.keyHash w.params "ask", .str "ask" t10, .ref f10⟩ : DictEntry), (⟨PyData.keyHash w.params "handed", .str "handed" t11, .ref f11⟩ : DictEntry)] : Array DictEntry).toList := ⟨⟨_, _, rfl, rfl⟩, ⟨_, _, rfl, rfl⟩, ⟨_, _, rfl, rfl⟩, ⟨_, _, rfl, rfl⟩, ⟨_, _, rfl, rfl⟩, ⟨_, _, rfl, rfl⟩, ⟨_, _, rfl, rfl⟩, ⟨_, _, rfl, rfl⟩, ⟨_, _, rfl, rfl⟩, ⟨_, _, rfl, rfl⟩, ⟨_, _, rfl, rfl⟩, ⟨_, _, rfl, rfl⟩, trivial⟩
  refine ⟨hm, fun x hx => ?_⟩
  simp only [List.mem_cons, List.not_mem_nil, or_false] at hx
  rcases hx with rfl | rfl | rfl | rfl | rfl | rfl | rfl | rfl | rfl | rfl | rfl | rfl
  · have h : PySem.W.nsIn K aS "num" = some (some (.ref f0)) := by
      unfold PySem.W.nsIn
      rw [hl]
      rfl
    exact ⟨_, _, _, hl, lit, h, rfl⟩
  · have h : PySem.W.nsIn K aS "text" = some (some (.ref f1)) := by
      unfold PySem.W.nsIn
      rw [hl]
      rfl
    exact ⟨_, _, _, hl, lit, h, rfl⟩
  · have h : PySem.W.nsIn K aS "call" = some (some (.ref f2)) := by
      unfold PySem.W.nsIn
      rw [hl]
      rfl
    exact ⟨_, _, _, hl, lit, h, rfl⟩
  · have h : PySem.W.nsIn K aS "make" = some (some (.ref f3)) := by
      unfold PySem.W.nsIn
      rw [hl]
      rfl
    exact ⟨_, _, _, hl, lit, h, rfl⟩
  · have h : PySem.W.nsIn K aS "get" = some (some (.ref f4)) := by
      unfold PySem.W.nsIn
      rw [hl]
      rfl
    exact ⟨_, _, _, hl, lit, h, rfl⟩
  · have h : PySem.W.nsIn K aS "case" = some (some (.ref f5)) := by
      unfold PySem.W.nsIn
      rw [hl]
      rfl
    exact ⟨_, _, _, hl, lit, h, rfl⟩
  · have h : PySem.W.nsIn K aS "as" = some (some (.ref f6)) := by
      unfold PySem.W.nsIn
      rw [hl]
      rfl
    exact ⟨_, _, _, hl, lit, h, rfl⟩
  · have h : PySem.W.nsIn K aS "look" = some (some (.ref f7)) := by
      unfold PySem.W.nsIn
      rw [hl]
      rfl
    exact ⟨_, _, _, hl, lit, h, rfl⟩
  · have h : PySem.W.nsIn K aS "one" = some (some (.ref f8)) := by
      unfold PySem.W.nsIn
      rw [hl]
      rfl
    exact ⟨_, _, _, hl, lit, h, rfl⟩
  · have h : PySem.W.nsIn K aS "answer" = some (some (.ref f9)) := by
      unfold PySem.W.nsIn
      rw [hl]
      rfl
    exact ⟨_, _, _, hl, lit, h, rfl⟩
  · have h : PySem.W.nsIn K aS "ask" = some (some (.ref f10)) := by
      unfold PySem.W.nsIn
      rw [hl]
      rfl
    exact ⟨_, _, _, hl, lit, h, rfl⟩
  · have h : PySem.W.nsIn K aS "handed" = some (some (.ref f11)) := by
      unfold PySem.W.nsIn
      rw [hl]
      rfl
    exact ⟨_, _, _, hl, lit, h, rfl⟩
end My
namespace My
open PySem L2
set_option maxHeartbeats 0 in
theorem all_mk {l : PySem.W.OpenLaw} {w : World} {K : PySem.W.Frag} {h : Heap} {mg : Str → Option Value} {fa : Addr} (X : K.In h) (G : h.Ns mainGlobals mg) (hfa : mg "law" = some (.ref fa))
    {f0 : Addr} {od0 an0 : Option Addr} {sl0 : Array (Option Value)} {oc0 kV0 dc0 pm0 cd0 ct0 : Value}
    (a0 : PySem.W.nsIn K mainGlobals "parts_of" = some (some (.ref f0)))
    (l0 : K.lookup f0 = some ⟨oc0, od0, .func (PySem.W.fnOf "parts_of" "parts_of" (defArgs s_parts_of) (defBody s_parts_of) (defScope s_parts_of) .none kV0 dc0 pm0 an0 cd0 ct0), sl0⟩)
    (c0 : PySem.W.codeIn K cd0 "parts_of" = true)
    (k0 : PySem.W.keepIn K (.ref f0) = true)
    {f1 : Addr} {od1 an1 : Option Addr} {sl1 : Array (Option Value)} {oc1 kV1 dc1 pm1 cd1 ct1 : Value}
    (a1 : PySem.W.nsIn K mainGlobals "walked" = some (some (.ref f1)))
    (l1 : K.lookup f1 = some ⟨oc1, od1, .func (PySem.W.fnOf "walked" "walked" (defArgs s_walked) (defBody s_walked) (defScope s_walked) .none kV1 dc1 pm1 an1 cd1 ct1), sl1⟩)
    (c1 : PySem.W.codeIn K cd1 "walked" = true)
    (k1 : PySem.W.keepIn K (.ref f1) = true)
    {f2 : Addr} {od2 an2 : Option Addr} {sl2 : Array (Option Value)} {oc2 kV2 dc2 pm2 cd2 ct2 : Value}
    (a2 : PySem.W.nsIn K mainGlobals "in_brackets" = some (some (.ref f2)))
    (l2 : K.lookup f2 = some ⟨oc2, od2, .func (PySem.W.fnOf "in_brackets" "in_brackets" (defArgs s_in_brackets) (defBody s_in_brackets) (defScope s_in_brackets) .none kV2 dc2 pm2 an2 cd2 ct2), sl2⟩)
    (c2 : PySem.W.codeIn K cd2 "in_brackets" = true)
    (k2 : PySem.W.keepIn K (.ref f2) = true)
    {f3 : Addr} {od3 an3 : Option Addr} {sl3 : Array (Option Value)} {oc3 kV3 dc3 pm3 cd3 ct3 : Value}
    (a3 : PySem.W.nsIn K mainGlobals "show_arguments" = some (some (.ref f3)))
    (l3 : K.lookup f3 = some ⟨oc3, od3, .func (PySem.W.fnOf "show_arguments" "show_arguments" (defArgs s_show_arguments) (defBody s_show_arguments) (defScope s_show_arguments) .none kV3 dc3 pm3 an3 cd3 ct3), sl3⟩)
    (c3 : PySem.W.codeIn K cd3 "show_arguments" = true)
    (k3 : PySem.W.keepIn K (.ref f3) = true)
    {f4 : Addr} {od4 an4 : Option Addr} {sl4 : Array (Option Value)} {oc4 kV4 dc4 pm4 cd4 ct4 : Value}
    (a4 : PySem.W.nsIn K mainGlobals "show_others" = some (some (.ref f4)))
    (l4 : K.lookup f4 = some ⟨oc4, od4, .func (PySem.W.fnOf "show_others" "show_others" (defArgs s_show_others) (defBody s_show_others) (defScope s_show_others) .none kV4 dc4 pm4 an4 cd4 ct4), sl4⟩)
    (c4 : PySem.W.codeIn K cd4 "show_others" = true)
    (k4 : PySem.W.keepIn K (.ref f4) = true)
    {f5 : Addr} {od5 an5 : Option Addr} {sl5 : Array (Option Value)} {oc5 kV5 dc5 pm5 cd5 ct5 : Value}
    (a5 : PySem.W.nsIn K mainGlobals "show_num" = some (some (.ref f5)))
    (l5 : K.lookup f5 = some ⟨oc5, od5, .func (PySem.W.fnOf "show_num" "show_num" (defArgs s_show_num) (defBody s_show_num) (defScope s_show_num) .none kV5 dc5 pm5 an5 cd5 ct5), sl5⟩)
    (c5 : PySem.W.codeIn K cd5 "show_num" = true)
    (k5 : PySem.W.keepIn K (.ref f5) = true)
    {f6 : Addr} {od6 an6 : Option Addr} {sl6 : Array (Option Value)} {oc6 kV6 dc6 pm6 cd6 ct6 : Value}
    (a6 : PySem.W.nsIn K mainGlobals "show_text" = some (some (.ref f6)))
    (l6 : K.lookup f6 = some ⟨oc6, od6, .func (PySem.W.fnOf "show_text" "show_text" (defArgs s_show_text) (defBody s_show_text) (defScope s_show_text) .none kV6 dc6 pm6 an6 cd6 ct6), sl6⟩)
    (c6 : PySem.W.codeIn K cd6 "show_text" = true)
    (k6 : PySem.W.keepIn K (.ref f6) = true)
    {f7 : Addr} {od7 an7 : Option Addr} {sl7 : Array (Option Value)} {oc7 kV7 dc7 pm7 cd7 ct7 : Value}
    (a7 : PySem.W.nsIn K mainGlobals "show_call" = some (some (.ref f7)))
    (l7 : K.lookup f7 = some ⟨oc7, od7, .func (PySem.W.fnOf "show_call" "show_call" (defArgs s_show_call) (defBody s_show_call) (defScope s_show_call) .none kV7 dc7 pm7 an7 cd7 ct7), sl7⟩)
    (c7 : PySem.W.codeIn K cd7 "show_call" = true)
    (k7 : PySem.W.keepIn K (.ref f7) = true)
    {f8 : Addr} {od8 an8 : Option Addr} {sl8 : Array (Option Value)} {oc8 kV8 dc8 pm8 cd8 ct8 : Value}
    (a8 : PySem.W.nsIn K mainGlobals "show_make" = some (some (.ref f8)))
    (l8 : K.lookup f8 = some ⟨oc8, od8, .func (PySem.W.fnOf "show_make" "show_make" (defArgs s_show_make) (defBody s_show_make) (defScope s_show_make) .none kV8 dc8 pm8 an8 cd8 ct8), sl8⟩)
    (c8 : PySem.W.codeIn K cd8 "show_make" = true)
    (k8 : PySem.W.keepIn K (.ref f8) = true)
    {f9 : Addr} {od9 an9 : Option Addr} {sl9 : Array (Option Value)} {oc9 kV9 dc9 pm9 cd9 ct9 : Value}
    (a9 : PySem.W.nsIn K mainGlobals "show_get" = some (some (.ref f9)))
    (l9 : K.lookup f9 = some ⟨oc9, od9, .func (PySem.W.fnOf "show_get" "show_get" (defArgs s_show_get) (defBody s_show_get) (defScope s_show_get) .none kV9 dc9 pm9 an9 cd9 ct9), sl9⟩)
    (c9 : PySem.W.codeIn K cd9 "show_get" = true)
    (k9 : PySem.W.keepIn K (.ref f9) = true)
    {f10 : Addr} {od10 an10 : Option Addr} {sl10 : Array (Option Value)} {oc10 kV10 dc10 pm10 cd10 ct10 : Value}
    (a10 : PySem.W.nsIn K mainGlobals "show_case" = some (some (.ref f10)))
    (l10 : K.lookup f10 = some ⟨oc10, od10, .func (PySem.W.fnOf "show_case" "show_case" (defArgs s_show_case) (defBody s_show_case) (defScope s_show_case) .none kV10 dc10 pm10 an10 cd10 ct10), sl10⟩)
    (c10 : PySem.W.codeIn K cd10 "show_case" = true)
    (k10 : PySem.W.keepIn K (.ref f10) = true)
    {f11 : Addr} {od11 an11 : Option Addr} {sl11 : Array (Option Value)} {oc11 kV11 dc11 pm11 cd11 ct11 : Value}
    (a11 : PySem.W.nsIn K mainGlobals "show_as" = some (some (.ref f11)))
    (l11 : K.lookup f11 = some ⟨oc11, od11, .func (PySem.W.fnOf "show_as" "show_as" (defArgs s_show_as) (defBody s_show_as) (defScope s_show_as) .none kV11 dc11 pm11 an11 cd11 ct11), sl11⟩)
    (c11 : PySem.W.codeIn K cd11 "show_as" = true)
    (k11 : PySem.W.keepIn K (.ref f11) = true)
    {f12 : Addr} {od12 an12 : Option Addr} {sl12 : Array (Option Value)} {oc12 kV12 dc12 pm12 cd12 ct12 : Value}
    (a12 : PySem.W.nsIn K mainGlobals "show_look" = some (some (.ref f12)))
    (l12 : K.lookup f12 = some ⟨oc12, od12, .func (PySem.W.fnOf "show_look" "show_look" (defArgs s_show_look) (defBody s_show_look) (defScope s_show_look) .none kV12 dc12 pm12 an12 cd12 ct12), sl12⟩)
    (c12 : PySem.W.codeIn K cd12 "show_look" = true)
    (k12 : PySem.W.keepIn K (.ref f12) = true)
    {f13 : Addr} {od13 an13 : Option Addr} {sl13 : Array (Option Value)} {oc13 kV13 dc13 pm13 cd13 ct13 : Value}
    (a13 : PySem.W.nsIn K mainGlobals "show_one" = some (some (.ref f13)))
    (l13 : K.lookup f13 = some ⟨oc13, od13, .func (PySem.W.fnOf "show_one" "show_one" (defArgs s_show_one) (defBody s_show_one) (defScope s_show_one) .none kV13 dc13 pm13 an13 cd13 ct13), sl13⟩)
    (c13 : PySem.W.codeIn K cd13 "show_one" = true)
    (k13 : PySem.W.keepIn K (.ref f13) = true)
    {f14 : Addr} {od14 an14 : Option Addr} {sl14 : Array (Option Value)} {oc14 kV14 dc14 pm14 cd14 ct14 : Value}
    (a14 : PySem.W.nsIn K mainGlobals "show_answer" = some (some (.ref f14)))
    (l14 : K.lookup f14 = some ⟨oc14, od14, .func (PySem.W.fnOf "show_answer" "show_answer" (defArgs s_show_answer) (defBody s_show_answer) (defScope s_show_answer) .none kV14 dc14 pm14 an14 cd14 ct14), sl14⟩)
    (c14 : PySem.W.codeIn K cd14 "show_answer" = true)
    (k14 : PySem.W.keepIn K (.ref f14) = true)
    {f15 : Addr} {od15 an15 : Option Addr} {sl15 : Array (Option Value)} {oc15 kV15 dc15 pm15 cd15 ct15 : Value}
    (a15 : PySem.W.nsIn K mainGlobals "show_ask" = some (some (.ref f15)))
    (l15 : K.lookup f15 = some ⟨oc15, od15, .func (PySem.W.fnOf "show_ask" "show_ask" (defArgs s_show_ask) (defBody s_show_ask) (defScope s_show_ask) .none kV15 dc15 pm15 an15 cd15 ct15), sl15⟩)
    (c15 : PySem.W.codeIn K cd15 "show_ask" = true)
    (k15 : PySem.W.keepIn K (.ref f15) = true)
    {f16 : Addr} {od16 an16 : Option Addr} {sl16 : Array (Option Value)} {oc16 kV16 dc16 pm16 cd16 ct16 : Value}
    (a16 : PySem.W.nsIn K mainGlobals "show_handed" = some (some (.ref f16)))
    (l16 : K.lookup f16 = some ⟨oc16, od16, .func (PySem.W.fnOf "show_handed" "show_handed" (defArgs s_show_handed) (defBody s_show_handed) (defScope s_show_handed) .none kV16 dc16 pm16 an16 cd16 ct16), sl16⟩)
    (c16 : PySem.W.codeIn K cd16 "show_handed" = true)
    (k16 : PySem.W.keepIn K (.ref f16) = true)
    {f17 : Addr} {od17 an17 : Option Addr} {sl17 : Array (Option Value)} {oc17 kV17 dc17 pm17 ct17 : Value} {cT17 pT17 : Addr} {vT17 : Array Value} {xT17 : Value} {yT17 : Option Addr} {zT17 : Array (Option Value)}
    (a17 : PySem.W.nsIn K mainGlobals "show_term" = some (some (.ref f17)))
    (l17 : K.lookup f17 = some ⟨oc17, od17, .func (PySem.W.fnOf "show_term" "show_term" (defArgs s_show_term) (defBody s_show_term) (defScope s_show_term) .none kV17 dc17 pm17 an17 (.ref cT17) ct17), sl17⟩)
    (c17 : PySem.W.codeIn K (.ref cT17) "show_term" = true)
    (k17 : PySem.W.keepIn K (.ref f17) = true)
    (lcT17 : K.lookup cT17 = some (⟨xT17, yT17, .fields vT17, zT17⟩ : Obj))
    (vP17 : vT17[11]? = some (.ref pT17))
    (hdT17 : PySem.W.codeHdIn K cT17 pT17 = true)
    (ouT17 : K.lookup pT17 = none)
    (emT17 : h.get? pT17 = some { cls := .none, data := .fields #[] })
    {f18 : Addr} {od18 an18 : Option Addr} {sl18 : Array (Option Value)} {oc18 kV18 dc18 pm18 cd18 ct18 : Value}
    (a18 : PySem.W.nsIn K mainGlobals "_law_tray" = some (some (.ref f18)))
    (l18 : K.lookup f18 = some ⟨oc18, od18, .func (PySem.W.fnOf "_law_tray" "_law_tray" (defArgs s__law_tray) (defBody s__law_tray) (defScope s__law_tray) .none kV18 dc18 pm18 an18 cd18 ct18), sl18⟩)
    (c18 : PySem.W.codeIn K cd18 "_law_tray" = true)
    (k18 : PySem.W.keepIn K (.ref f18) = true)
    {f19 : Addr} {od19 an19 : Option Addr} {sl19 : Array (Option Value)} {oc19 kV19 dc19 pm19 cd19 ct19 : Value}
    (a19 : PySem.W.nsIn K mainGlobals "_law_draw" = some (some (.ref f19)))
    (l19 : K.lookup f19 = some ⟨oc19, od19, .func (PySem.W.fnOf "_law_draw" "_law_draw" (defArgs s__law_draw) (defBody s__law_draw) (defScope s__law_draw) .none kV19 dc19 pm19 an19 cd19 ct19), sl19⟩)
    (c19 : PySem.W.codeIn K cd19 "_law_draw" = true)
    (k19 : PySem.W.keepIn K (.ref f19) = true)
    {f20 : Addr} {od20 an20 : Option Addr} {sl20 : Array (Option Value)} {oc20 kV20 dc20 pm20 cd20 ct20 : Value}
    (a20 : PySem.W.nsIn K mainGlobals "_law_great" = some (some (.ref f20)))
    (l20 : K.lookup f20 = some ⟨oc20, od20, .func (PySem.W.fnOf "_law_great" "_law_great" (defArgs s__law_great) (defBody s__law_great) (defScope s__law_great) .none kV20 dc20 pm20 an20 cd20 ct20), sl20⟩)
    (c20 : PySem.W.codeIn K cd20 "_law_great" = true)
    (k20 : PySem.W.keepIn K (.ref f20) = true)
    {f21 : Addr} {od21 an21 : Option Addr} {sl21 : Array (Option Value)} {oc21 kV21 dc21 pm21 cd21 ct21 : Value}
    (a21 : PySem.W.nsIn K mainGlobals "_law_alike" = some (some (.ref f21)))
    (l21 : K.lookup f21 = some ⟨oc21, od21, .func (PySem.W.fnOf "_law_alike" "_law_alike" (defArgs s__law_alike) (defBody s__law_alike) (defScope s__law_alike) .none kV21 dc21 pm21 an21 cd21 ct21), sl21⟩)
    (c21 : PySem.W.codeIn K cd21 "_law_alike" = true)
    (k21 : PySem.W.keepIn K (.ref f21) = true)
    {f22 : Addr} {od22 an22 : Option Addr} {sl22 : Array (Option Value)} {oc22 kV22 dc22 pm22 cd22 ct22 : Value}
    (a22 : PySem.W.nsIn K mainGlobals "_law_name" = some (some (.ref f22)))
    (l22 : K.lookup f22 = some ⟨oc22, od22, .func (PySem.W.fnOf "_law_name" "_law_name" (defArgs s__law_name) (defBody s__law_name) (defScope s__law_name) .none kV22 dc22 pm22 an22 cd22 ct22), sl22⟩)
    (c22 : PySem.W.codeIn K cd22 "_law_name" = true)
    (k22 : PySem.W.keepIn K (.ref f22) = true)
    {f23 : Addr} {od23 an23 : Option Addr} {sl23 : Array (Option Value)} {oc23 kV23 dc23 pm23 cd23 ct23 : Value}
    (a23 : PySem.W.nsIn K mainGlobals "_law_names" = some (some (.ref f23)))
    (l23 : K.lookup f23 = some ⟨oc23, od23, .func (PySem.W.fnOf "_law_names" "_law_names" (defArgs s__law_names) (defBody s__law_names) (defScope s__law_names) .none kV23 dc23 pm23 an23 cd23 ct23), sl23⟩)
    (c23 : PySem.W.codeIn K cd23 "_law_names" = true)
    (k23 : PySem.W.keepIn K (.ref f23) = true)
    {f24 : Addr} {od24 an24 : Option Addr} {sl24 : Array (Option Value)} {oc24 kV24 dc24 pm24 cd24 ct24 : Value}
    (a24 : PySem.W.nsIn K mainGlobals "_law_given" = some (some (.ref f24)))
    (l24 : K.lookup f24 = some ⟨oc24, od24, .func (PySem.W.fnOf "_law_given" "_law_given" (defArgs s__law_given) (defBody s__law_given) (defScope s__law_given) .none kV24 dc24 pm24 an24 cd24 ct24), sl24⟩)
    (c24 : PySem.W.codeIn K cd24 "_law_given" = true)
    (k24 : PySem.W.keepIn K (.ref f24) = true)
    {f25 : Addr} {od25 an25 : Option Addr} {sl25 : Array (Option Value)} {oc25 kV25 dc25 pm25 cd25 ct25 : Value}
    (a25 : PySem.W.nsIn K mainGlobals "_law_plain_term" = some (some (.ref f25)))
    (l25 : K.lookup f25 = some ⟨oc25, od25, .func (PySem.W.fnOf "_law_plain_term" "_law_plain_term" (defArgs s__law_plain_term) (defBody s__law_plain_term) (defScope s__law_plain_term) .none kV25 dc25 pm25 an25 cd25 ct25), sl25⟩)
    (c25 : PySem.W.codeIn K cd25 "_law_plain_term" = true)
    (k25 : PySem.W.keepIn K (.ref f25) = true)
    {f26 : Addr} {od26 an26 : Option Addr} {sl26 : Array (Option Value)} {oc26 kV26 dc26 pm26 cd26 ct26 : Value}
    (a26 : PySem.W.nsIn K mainGlobals "_law_term" = some (some (.ref f26)))
    (l26 : K.lookup f26 = some ⟨oc26, od26, .func (PySem.W.fnOf "_law_term" "_law_term" (defArgs s__law_term) (defBody s__law_term) (defScope s__law_term) .none kV26 dc26 pm26 an26 cd26 ct26), sl26⟩)
    (c26 : PySem.W.codeIn K cd26 "_law_term" = true)
    (k26 : PySem.W.keepIn K (.ref f26) = true)
    {f27 : Addr} {od27 an27 : Option Addr} {sl27 : Array (Option Value)} {oc27 kV27 dc27 pm27 cd27 ct27 : Value}
    (a27 : PySem.W.nsIn K mainGlobals "_law_given_shown" = some (some (.ref f27)))
    (l27 : K.lookup f27 = some ⟨oc27, od27, .func (PySem.W.fnOf "_law_given_shown" "_law_given_shown" (defArgs s__law_given_shown) (defBody s__law_given_shown) (defScope s__law_given_shown) .none kV27 dc27 pm27 an27 cd27 ct27), sl27⟩)
    (c27 : PySem.W.codeIn K cd27 "_law_given_shown" = true)
    (k27 : PySem.W.keepIn K (.ref f27) = true)
    {f28 : Addr} {od28 an28 : Option Addr} {sl28 : Array (Option Value)} {oc28 kV28 dc28 pm28 cd28 ct28 : Value}
    (a28 : PySem.W.nsIn K mainGlobals "_law_behind_shown" = some (some (.ref f28)))
    (l28 : K.lookup f28 = some ⟨oc28, od28, .func (PySem.W.fnOf "_law_behind_shown" "_law_behind_shown" (defArgs s__law_behind_shown) (defBody s__law_behind_shown) (defScope s__law_behind_shown) .none kV28 dc28 pm28 an28 cd28 ct28), sl28⟩)
    (c28 : PySem.W.codeIn K cd28 "_law_behind_shown" = true)
    (k28 : PySem.W.keepIn K (.ref f28) = true)
    {f29 : Addr} {od29 an29 : Option Addr} {sl29 : Array (Option Value)} {oc29 kV29 dc29 pm29 cd29 ct29 : Value}
    (a29 : PySem.W.nsIn K mainGlobals "_law_term_shown" = some (some (.ref f29)))
    (l29 : K.lookup f29 = some ⟨oc29, od29, .func (PySem.W.fnOf "_law_term_shown" "_law_term_shown" (defArgs s__law_term_shown) (defBody s__law_term_shown) (defScope s__law_term_shown) .none kV29 dc29 pm29 an29 cd29 ct29), sl29⟩)
    (c29 : PySem.W.codeIn K cd29 "_law_term_shown" = true)
    (k29 : PySem.W.keepIn K (.ref f29) = true)
    {f30 : Addr} {od30 an30 : Option Addr} {sl30 : Array (Option Value)} {oc30 kV30 dc30 pm30 cd30 ct30 : Value}
    (a30 : PySem.W.nsIn K mainGlobals "_law_chain" = some (some (.ref f30)))
    (l30 : K.lookup f30 = some ⟨oc30, od30, .func (PySem.W.fnOf "_law_chain" "_law_chain" (defArgs s__law_chain) (defBody s__law_chain) (defScope s__law_chain) .none kV30 dc30 pm30 an30 cd30 ct30), sl30⟩)
    (c30 : PySem.W.codeIn K cd30 "_law_chain" = true)
    (k30 : PySem.W.keepIn K (.ref f30) = true)
    {f31 : Addr} {od31 an31 : Option Addr} {sl31 : Array (Option Value)} {oc31 kV31 dc31 pm31 cd31 ct31 : Value}
    (a31 : PySem.W.nsIn K mainGlobals "law" = some (some (.ref f31)))
    (l31 : K.lookup f31 = some ⟨oc31, od31, .func (PySem.W.fnOf "law" "law" (defArgs s_law) (defBody s_law) (defScope s_law) .none kV31 dc31 pm31 an31 cd31 ct31), sl31⟩)
    (c31 : PySem.W.codeIn K cd31 "law" = true)
    (k31 : PySem.W.keepIn K (.ref f31) = true)
    {aS nS : Addr} {tSa tSb tSc tSd tSe tSf tSg tSh tSi tSj tSk tSl : Tok}
    (aSh : PySem.W.nsIn K mainGlobals "SHOWS" = some (some (.ref aS)))
    (qSh : K.lookup aS = some ⟨.type "dict", none, .dict #[⟨PyData.keyHash w.params "num", .str "num" tSa, .ref f5⟩, ⟨PyData.keyHash w.params "text", .str "text" tSb, .ref f6⟩, ⟨PyData.keyHash w.params "call", .str "call" tSc, .ref f7⟩, ⟨PyData.keyHash w.params "make", .str "make" tSd, .ref f8⟩, ⟨PyData.keyHash w.params "get", .str "get" tSe, .ref f9⟩, ⟨PyData.keyHash w.params "case", .str "case" tSf, .ref f10⟩, ⟨PyData.keyHash w.params "as", .str "as" tSg, .ref f11⟩, ⟨PyData.keyHash w.params "look", .str "look" tSh, .ref f12⟩, ⟨PyData.keyHash w.params "one", .str "one" tSi, .ref f13⟩, ⟨PyData.keyHash w.params "answer", .str "answer" tSj, .ref f14⟩, ⟨PyData.keyHash w.params "ask", .str "ask" tSk, .ref f15⟩, ⟨PyData.keyHash w.params "handed", .str "handed" tSl, .ref f16⟩] nS, #[]⟩)
    (z0 : PySem.W.nsIn K mainGlobals "abs" = some none)
    (z1 : PySem.W.nsIn K mainGlobals "all" = some none)
    (z2 : PySem.W.nsIn K mainGlobals "any" = some none)
    (z3 : PySem.W.nsIn K mainGlobals "bool" = some none)
    (z4 : PySem.W.nsIn K mainGlobals "int" = some none)
    (z5 : PySem.W.nsIn K mainGlobals "isinstance" = some none)
    (z6 : PySem.W.nsIn K mainGlobals "len" = some none)
    (z7 : PySem.W.nsIn K mainGlobals "list" = some none)
    (z8 : PySem.W.nsIn K mainGlobals "max" = some none)
    (z9 : PySem.W.nsIn K mainGlobals "range" = some none)
    (z10 : PySem.W.nsIn K mainGlobals "set" = some none)
    (z11 : PySem.W.nsIn K mainGlobals "sorted" = some none)
    (z12 : PySem.W.nsIn K mainGlobals "str" = some none)
    (z13 : PySem.W.nsIn K mainGlobals "tuple" = some none)
    (z14 : PySem.W.nsIn K mainGlobals "zip" = some none)
    : LamX.LawAtS l w K CX0 82 63 "script" mg fa h := by
  have e := hfa.symm.trans (PySem.W.mg_of X G a31)
  cases e
  have F_parts_of := fun_mk (st := s_parts_of) l0 c0 k0
  have b_parts_of := F_parts_of.binds (ps := ["term"]) fun _ _ _ _ _ _ us hl => match us, hl with | [_], _ => rfl
  have m_parts_of := PySem.W.mg_of X G a0
  have k_parts_of := k0
  have F_walked := fun_mk (st := s_walked) l1 c1 k1
  have b_walked := F_walked.binds (ps := ["term", "step"]) fun _ _ _ _ _ _ us hl => match us, hl with | [_, _], _ => rfl
  have m_walked := PySem.W.mg_of X G a1
  have k_walked := k1
  have F_in_brackets := fun_mk (st := s_in_brackets) l2 c2 k2
  have b_in_brackets := F_in_brackets.binds (ps := ["writings"]) fun _ _ _ _ _ _ us hl => match us, hl with | [_], _ => rfl
  have m_in_brackets := PySem.W.mg_of X G a2
  have k_in_brackets := k2
  have F_show_arguments := fun_mk (st := s_show_arguments) l3 c3 k3
  have b_show_arguments := F_show_arguments.binds (ps := ["arguments", "given"]) fun _ _ _ _ _ _ us hl => match us, hl with | [_, _], _ => rfl
  have m_show_arguments := PySem.W.mg_of X G a3
  have k_show_arguments := k3
  have F_show_others := fun_mk (st := s_show_others) l4 c4 k4
  have b_show_others := F_show_others.binds (ps := ["first", "others"]) fun _ _ _ _ _ _ us hl => match us, hl with | [_, _], _ => rfl
  have m_show_others := PySem.W.mg_of X G a4
  have k_show_others := k4
  have F_show_num := fun_mk (st := s_show_num) l5 c5 k5
  have b_show_num := F_show_num.binds (ps := ["term", "given"]) fun _ _ _ _ _ _ us hl => match us, hl with | [_, _], _ => rfl
  have m_show_num := PySem.W.mg_of X G a5
  have k_show_num := k5
  have F_show_text := fun_mk (st := s_show_text) l6 c6 k6
  have b_show_text := F_show_text.binds (ps := ["term", "given"]) fun _ _ _ _ _ _ us hl => match us, hl with | [_, _], _ => rfl
  have m_show_text := PySem.W.mg_of X G a6
  have k_show_text := k6
  have F_show_call := fun_mk (st := s_show_call) l7 c7 k7
  have b_show_call := F_show_call.binds (ps := ["term", "given"]) fun _ _ _ _ _ _ us hl => match us, hl with | [_, _], _ => rfl
  have m_show_call := PySem.W.mg_of X G a7
  have k_show_call := k7
  have F_show_make := fun_mk (st := s_show_make) l8 c8 k8
  have b_show_make := F_show_make.binds (ps := ["term", "given"]) fun _ _ _ _ _ _ us hl => match us, hl with | [_, _], _ => rfl
  have m_show_make := PySem.W.mg_of X G a8
  have k_show_make := k8
  have F_show_get := fun_mk (st := s_show_get) l9 c9 k9
  have b_show_get := F_show_get.binds (ps := ["term", "given"]) fun _ _ _ _ _ _ us hl => match us, hl with | [_, _], _ => rfl
  have m_show_get := PySem.W.mg_of X G a9
  have k_show_get := k9
  have F_show_case := fun_mk (st := s_show_case) l10 c10 k10
  have b_show_case := F_show_case.binds (ps := ["term", "given"]) fun _ _ _ _ _ _ us hl => match us, hl with | [_, _], _ => rfl
  have m_show_case := PySem.W.mg_of X G a10
  have k_show_case := k10
  have F_show_as := fun_mk (st := s_show_as) l11 c11 k11
  have b_show_as := F_show_as.binds (ps := ["term", "given"]) fun _ _ _ _ _ _ us hl => match us, hl with | [_, _], _ => rfl
  have m_show_as := PySem.W.mg_of X G a11
  have k_show_as := k11
  have F_show_look := fun_mk (st := s_show_look) l12 c12 k12
  have b_show_look := F_show_look.binds (ps := ["term", "given"]) fun _ _ _ _ _ _ us hl => match us, hl with | [_, _], _ => rfl
  have m_show_look := PySem.W.mg_of X G a12
  have k_show_look := k12
  have F_show_one := fun_mk (st := s_show_one) l13 c13 k13
  have b_show_one := F_show_one.binds (ps := ["term", "given"]) fun _ _ _ _ _ _ us hl => match us, hl with | [_, _], _ => rfl
  have m_show_one := PySem.W.mg_of X G a13
  have k_show_one := k13
  have F_show_answer := fun_mk (st := s_show_answer) l14 c14 k14
  have b_show_answer := F_show_answer.binds (ps := ["term", "given"]) fun _ _ _ _ _ _ us hl => match us, hl with | [_, _], _ => rfl
  have m_show_answer := PySem.W.mg_of X G a14
  have k_show_answer := k14
  have F_show_ask := fun_mk (st := s_show_ask) l15 c15 k15
  have b_show_ask := F_show_ask.binds (ps := ["term", "given"]) fun _ _ _ _ _ _ us hl => match us, hl with | [_, _], _ => rfl
  have m_show_ask := PySem.W.mg_of X G a15
  have k_show_ask := k15
  have F_show_handed := fun_mk (st := s_show_handed) l16 c16 k16
  have b_show_handed := F_show_handed.binds (ps := ["term", "given"]) fun _ _ _ _ _ _ us hl => match us, hl with | [_, _], _ => rfl
  have m_show_handed := PySem.W.mg_of X G a16
  have k_show_handed := k16
  have C_show_term : FunC K "show_term" "show_term" s_show_term f17 _ cT17 := ⟨⟨_, _, _, _, _, _, _, _, rfl, l17, c17⟩⟩
  have F_show_term := C_show_term.toFun k17
  have b_show_term := F_show_term.binds (ps := ["term"]) fun _ _ _ _ _ _ us hl => match us, hl with | [_], _ => rfl
  have m_show_term := PySem.W.mg_of X G a17
  have k_show_term := k17
  have F__law_tray := fun_mk (st := s__law_tray) l18 c18 k18
  have b__law_tray := F__law_tray.binds (ps := ["script"]) fun _ _ _ _ _ _ us hl => match us, hl with | [_], _ => rfl
  have m__law_tray := PySem.W.mg_of X G a18
  have k__law_tray := k18
  have F__law_draw := fun_mk (st := s__law_draw) l19 c19 k19
  have b__law_draw := F__law_draw.binds (ps := ["tray", "many"]) fun _ _ _ _ _ _ us hl => match us, hl with | [_, _], _ => rfl
  have m__law_draw := PySem.W.mg_of X G a19
  have k__law_draw := k19
  have F__law_great := fun_mk (st := s__law_great) l20 c20 k20
  have b__law_great := F__law_great.binds (ps := ["tray"]) fun _ _ _ _ _ _ us hl => match us, hl with | [_], _ => rfl
  have m__law_great := PySem.W.mg_of X G a20
  have k__law_great := k20
  have F__law_alike := fun_mk (st := s__law_alike) l21 c21 k21
  have b__law_alike := F__law_alike.binds (ps := ["found", "due"]) fun _ _ _ _ _ _ us hl => match us, hl with | [_, _], _ => rfl
  have m__law_alike := PySem.W.mg_of X G a21
  have k__law_alike := k21
  have F__law_name := fun_mk (st := s__law_name) l22 c22 k22
  have b__law_name := F__law_name.binds (ps := ["tray", "used"]) fun _ _ _ _ _ _ us hl => match us, hl with | [_, _], _ => rfl
  have m__law_name := PySem.W.mg_of X G a22
  have k__law_name := k22
  have F__law_names := fun_mk (st := s__law_names) l23 c23 k23
  have b__law_names := F__law_names.binds (ps := ["tray", "many", "used"]) fun _ _ _ _ _ _ us hl => match us, hl with | [_, _, _], _ => rfl
  have m__law_names := PySem.W.mg_of X G a23
  have k__law_names := k23
  have F__law_given := fun_mk (st := s__law_given) l24 c24 k24
  have b__law_given := F__law_given.binds (ps := ["tray", "deep", "names"]) fun _ _ _ _ _ _ us hl => match us, hl with | [_, _, _], _ => rfl
  have m__law_given := PySem.W.mg_of X G a24
  have k__law_given := k24
  have F__law_plain_term := fun_mk (st := s__law_plain_term) l25 c25 k25
  have b__law_plain_term := F__law_plain_term.binds (ps := ["tray"]) fun _ _ _ _ _ _ us hl => match us, hl with | [_], _ => rfl
  have m__law_plain_term := PySem.W.mg_of X G a25
  have k__law_plain_term := k25
  have F__law_term := fun_mk (st := s__law_term) l26 c26 k26
  have b__law_term := F__law_term.binds (ps := ["tray", "deep", "names"]) fun _ _ _ _ _ _ us hl => match us, hl with | [_, _, _], _ => rfl
  have m__law_term := PySem.W.mg_of X G a26
  have k__law_term := k26
  have F__law_given_shown := fun_mk (st := s__law_given_shown) l27 c27 k27
  have b__law_given_shown := F__law_given_shown.binds (ps := ["given"]) fun _ _ _ _ _ _ us hl => match us, hl with | [_], _ => rfl
  have m__law_given_shown := PySem.W.mg_of X G a27
  have k__law_given_shown := k27
  have F__law_behind_shown := fun_mk (st := s__law_behind_shown) l28 c28 k28
  have b__law_behind_shown := F__law_behind_shown.binds (ps := ["whole", "others"]) fun _ _ _ _ _ _ us hl => match us, hl with | [_, _], _ => rfl
  have m__law_behind_shown := PySem.W.mg_of X G a28
  have k__law_behind_shown := k28
  have F__law_term_shown := fun_mk (st := s__law_term_shown) l29 c29 k29
  have b__law_term_shown := F__law_term_shown.binds (ps := ["whole"]) fun _ _ _ _ _ _ us hl => match us, hl with | [_], _ => rfl
  have m__law_term_shown := PySem.W.mg_of X G a29
  have k__law_term_shown := k29
  have F__law_chain := fun_mk (st := s__law_chain) l30 c30 k30
  have b__law_chain := F__law_chain.binds (ps := ["tray", "names"]) fun _ _ _ _ _ _ us hl => match us, hl with | [_, _], _ => rfl
  have m__law_chain := PySem.W.mg_of X G a30
  have k__law_chain := k30
  have F_law := fun_mk (st := s_law) l31 c31 k31
  have B : Bn mg := ⟨PySem.W.mg_none_of X G z0, PySem.W.mg_none_of X G z1, PySem.W.mg_none_of X G z2, PySem.W.mg_none_of X G z3, PySem.W.mg_none_of X G z4, PySem.W.mg_none_of X G z5, PySem.W.mg_none_of X G z6, PySem.W.mg_none_of X G z7, PySem.W.mg_none_of X G z8, PySem.W.mg_none_of X G z9, PySem.W.mg_none_of X G z10, PySem.W.mg_none_of X G z11, PySem.W.mg_none_of X G z12, PySem.W.mg_none_of X G z13, PySem.W.mg_none_of X G z14⟩
  refine ⟨PySem.W.fnOf "law" "law" (defArgs s_law) (defBody s_law) (defScope s_law) .none kV31 dc31 pm31 an31 cd31 ct31, [(cT17, pT17)], spLaw K pT17, ?_, ?_, ?_, fun s v => .of_eq rfl, ?_, fun base _ _ TB => ?_⟩
  · exact List.forall_mem_cons.mpr ⟨emT17, fun _ h => nomatch h⟩
  · exact List.forall_mem_cons.mpr ⟨ouT17, fun _ h => nomatch h⟩
  · exact List.forall_mem_cons.mpr ⟨PySem.W.codeHd_of_K X hdT17, fun _ h => nomatch h⟩
  · intro H a ns hl _ hH hS
    exact law_sp (hH _ (List.mem_cons_self)) hS hl
  have TB_show_term := TB (cT17, pT17) (List.mem_cons_self)
  have c_parts_of : Cal l.prog w K mg base "parts_of" 1 ["term"] spParts := ⟨_, _, ok_parts F_parts_of, m_parts_of, k_parts_of, b_parts_of⟩
  have c_in_brackets : Cal l.prog w K mg base "in_brackets" 1 ["writings"] (spInB K) := ⟨_, _, ok_in_brackets F_in_brackets, m_in_brackets, k_in_brackets, b_in_brackets⟩
  have c_show_arguments : Cal l.prog w K mg base "show_arguments" 2 ["arguments", "given"] spArgs := ⟨_, _, ok_show_arguments B F_show_arguments c_in_brackets, m_show_arguments, k_show_arguments, b_show_arguments⟩
  have c_show_others : Cal l.prog w K mg base "show_others" 1 ["first", "others"] (spOth K) := ⟨_, _, ok_show_others F_show_others, m_show_others, k_show_others, b_show_others⟩
  have sw := shwC_of (w := w) (PySem.W.mg_of X G aSh) qSh
  have A_show : ∀ f' sp', shG (fsOf f5 f6 f7 f8 f9 f10 f11 f12 f13 f14 f15 f16) f' sp' → HeldG (L2.CX l.prog w) l.prog w K mg base 3 f' sp' := fun f' sp' e => by
    rcases e with ⟨rfl, rfl⟩ | ⟨rfl, rfl⟩ | ⟨rfl, rfl⟩ | ⟨rfl, rfl⟩ | ⟨rfl, rfl⟩ | ⟨rfl, rfl⟩ | ⟨rfl, rfl⟩ | ⟨rfl, rfl⟩ | ⟨rfl, rfl⟩ | ⟨rfl, rfl⟩ | ⟨rfl, rfl⟩ | ⟨rfl, rfl⟩
    · exact ⟨_, _, FnOk.loud ((ok_show_num B F_show_num).mono (show 1 ≤ 3 by decide)), k_show_num, b_show_num⟩
    · exact ⟨_, _, FnOk.loud ((ok_show_text F_show_text).mono (show 1 ≤ 3 by decide)), k_show_text, b_show_text⟩
    · exact ⟨_, _, FnOk.loud ((ok_show_call F_show_call c_show_arguments).mono (show 3 ≤ 3 by decide)), k_show_call, b_show_call⟩
    · exact ⟨_, _, FnOk.loud ((ok_show_make F_show_make c_show_arguments).mono (show 3 ≤ 3 by decide)), k_show_make, b_show_make⟩
    · exact ⟨_, _, FnOk.loud ((ok_show_get F_show_get).mono (show 1 ≤ 3 by decide)), k_show_get, b_show_get⟩
    · exact ⟨_, _, FnOk.loud ((ok_show_case F_show_case).mono (show 1 ≤ 3 by decide)), k_show_case, b_show_case⟩
    · exact ⟨_, _, FnOk.loud ((ok_show_as F_show_as).mono (show 1 ≤ 3 by decide)), k_show_as, b_show_as⟩
    · exact ⟨_, _, FnOk.loud ((ok_show_look F_show_look c_show_others).mono (show 2 ≤ 3 by decide)), k_show_look, b_show_look⟩
    · exact ⟨_, _, FnOk.loud ((ok_show_one F_show_one).mono (show 1 ≤ 3 by decide)), k_show_one, b_show_one⟩
    · exact ⟨_, _, FnOk.loud ((ok_show_answer F_show_answer).mono (show 1 ≤ 3 by decide)), k_show_answer, b_show_answer⟩
    · exact ⟨_, _, FnOk.loud ((ok_show_ask F_show_ask c_show_others).mono (show 2 ≤ 3 by decide)), k_show_ask, b_show_ask⟩
    · exact ⟨_, _, FnOk.loud ((ok_show_handed F_show_handed c_show_arguments).mono (show 3 ≤ 3 by decide)), k_show_handed, b_show_handed⟩
  have g_walked := FnOk.hush (ok_walked0 (P := l.prog) (w := w) (base := base) B c_parts_of F_walked (k := 4) (mk := mkShows) (sp := fun _ => spStepS) (R := shR) (fun _ _ _ _ _ h => h) (by decide) (fun _ => rfl) (fun f c' => ok_shows_step sw A_show f c'))
  have c_walked : Cal l.prog w K mg base "walked" 5 ["term", "step"] (fun vs H Q _ => spWalk mkShows (fun _ => spStepS) [] shR vs H Q E0) := ⟨_, _, g_walked, m_walked, k_walked, b_walked⟩
  have g_show := ok_show_term C_show_term TB_show_term c_walked
  have c_show_term : Cal l.prog w K mg base "show_term" 6 ["term"] (spShowT _) := ⟨_, _, g_show, m_show_term, k_show_term, b_show_term⟩
  have kb_show_term : CalK l.prog w K mg base "show_term" 6 "term" (spShowT _) := ⟨_, _, g_show, m_show_term, k_show_term, kbinds1 F_show_term (fun _ _ _ _ _ _ _ => rfl) (fun _ _ _ _ _ _ _ => rfl)⟩
  have c__law_draw : Cal l.prog w K mg base "_law_draw" 1 ["tray", "many"] spDraw := ⟨_, _, ok_draw F__law_draw, m__law_draw, k__law_draw, b__law_draw⟩
  have c__law_tray : Cal l.prog w K mg base "_law_tray" 1 ["script"] (spTray K) := ⟨_, _, ok_tray B F__law_tray, m__law_tray, k__law_tray, b__law_tray⟩
  have c__law_great : Cal l.prog w K mg base "_law_great" 2 ["tray"] spGreat := ⟨_, _, ok_great B F__law_great c__law_draw, m__law_great, k__law_great, b__law_great⟩
  have c__law_name : Cal l.prog w K mg base "_law_name" 2 ["tray", "used"] spName := ⟨_, _, ok_name B F__law_name c__law_draw, m__law_name, k__law_name, b__law_name⟩
  have c__law_names : Cal l.prog w K mg base "_law_names" 3 ["tray", "many", "used"] spNames := ⟨_, _, ok_names B F__law_names c__law_name, m__law_names, k__law_names, b__law_names⟩
  have c__law_alike : Cal l.prog w K mg base "_law_alike" 16 ["found", "due"] (spAlike K 15) := ⟨_, _, ok_alike B F__law_alike m__law_alike b__law_alike 15, m__law_alike, k__law_alike, b__law_alike⟩
  have c__law_plain_term : Cal l.prog w K mg base "_law_plain_term" 3 ["tray"] spPlainT := ⟨_, _, ok_plain_term B F__law_plain_term c__law_draw c__law_great, m__law_plain_term, k__law_plain_term, b__law_plain_term⟩
  have g_term := ok_term (P := l.prog) (w := w) (base := base) B F__law_term m__law_term b__law_term F__law_given m__law_given b__law_given c__law_draw c__law_plain_term
  have c__law_term2 : Cal l.prog w K mg base "_law_term" 9 ["tray", "deep", "names"] (spTm 2) := ⟨_, _, g_term 2, m__law_term, k__law_term, b__law_term⟩
  have c__law_term5 : Cal l.prog w K mg base "_law_term" 15 ["tray", "deep", "names"] (spTm 5) := ⟨_, _, g_term 5, m__law_term, k__law_term, b__law_term⟩
  have c__law_chain : Cal l.prog w K mg base "_law_chain" 10 ["tray", "names"] spChain := ⟨_, _, ok_chain B F__law_chain c__law_draw c__law_term2, m__law_chain, k__law_chain, b__law_chain⟩
  have c__law_term_shown : Cal l.prog w K mg base "_law_term_shown" 81 ["whole"] (spTsh 40) := ⟨_, _, ok_term_shown B F__law_term_shown m__law_term_shown b__law_term_shown F__law_given_shown m__law_given_shown b__law_given_shown F__law_behind_shown m__law_behind_shown b__law_behind_shown 40, m__law_term_shown, k__law_term_shown, b__law_term_shown⟩
  exact ok_law B F_law c__law_tray c__law_draw c__law_names c__law_term5 c__law_chain c__law_term_shown c__law_alike c_show_term kb_show_term
theorem walk {l : PySem.W.OpenLaw} {q : Program} {loose : List Str} {XP : (Str → Option Value) → Heap → Prop} {YP : World → Heap → Prop} {d : DefRec} {K : Params → PySem.W.Frag}
    (hn : l.most = some 63) (hdf : d.params.defaults = []) (hY : ∀ (w : World) (h : Heap), YP w h → (K w.params).In h)
    (F : ∀ (w : World) (mg : Str → Option Value) (fa : Addr) (h : Heap), YP w h → (K w.params).In h → h.Ns mainGlobals mg → mg d.name = some (.ref fa) → LamX.LawAtS l w (K w.params) CX0 82 63 "script" mg fa h) :
    PySem.W.WalkO q loose XP YP l.row.toRowW d [] (fun f vs => PySem.call f vs) :=
  LamX.walk_ofTs (n := 63) (k := 82) (x := "script") (CX := fun _ => CX0) hn (by decide) hdf ⟨rfl, by decide, by decide⟩ hY F fun _ _ _ _ _ z => z
end My
open PySem PySem.W PyProof.Rows
set_option maxRecDepth 100000 in
set_option maxHeartbeats 0 in
theorem PySem.Challenge.cw_stillruns_k64_terms_written_holds : PySem.Challenge.rw_stillruns_k64_terms_written.Holds := by
  w_on; o_law; k_head; (case hw => w_witness2)
  k_fill
  refine My.walk (l := PySem.Challenge.rw_stillruns_k64_terms_written) rfl rfl (fun w h Y => PySem.W.km_in_of Y) ?F
  case F =>
    intro w mg fa h Y KX G hmg
    refine' My.all_mk KX G hmg ?a0 ?l0 ?c0 ?k0 ?a1 ?l1 ?c1 ?k1 ?a2 ?l2 ?c2 ?k2 ?a3 ?l3 ?c3 ?k3 ?a4 ?l4 ?c4 ?k4 ?a5 ?l5 ?c5 ?k5 ?a6 ?l6 ?c6 ?k6 ?a7 ?l7 ?c7 ?k7 ?a8 ?l8 ?c8 ?k8 ?a9 ?l9 ?c9 ?k9 ?a10 ?l10 ?c10 ?k10 ?a11 ?l11 ?c11 ?k11 ?a12 ?l12 ?c12 ?k12 ?a13 ?l13 ?c13 ?k13 ?a14 ?l14 ?c14 ?k14 ?a15 ?l15 ?c15 ?k15 ?a16 ?l16 ?c16 ?k16 ?a17 ?l17 ?c17 ?k17 ?lcT17 ?vP17 ?hdT17 ?ouT17 ?emT17 ?a18 ?l18 ?c18 ?k18 ?a19 ?l19 ?c19 ?k19 ?a20 ?l20 ?c20 ?k20 ?a21 ?l21 ?c21 ?k21 ?a22 ?l22 ?c22 ?k22 ?a23 ?l23 ?c23 ?k23 ?a24 ?l24 ?c24 ?k24 ?a25 ?l25 ?c25 ?k25 ?a26 ?l26 ?c26 ?k26 ?a27 ?l27 ?c27 ?k27 ?a28 ?l28 ?c28 ?k28 ?a29 ?l29 ?c29 ?k29 ?a30 ?l30 ?c30 ?k30 ?a31 ?l31 ?c31 ?k31 ?aSh ?qSh ?z0 ?z1 ?z2 ?z3 ?z4 ?z5 ?z6 ?z7 ?z8 ?z9 ?z10 ?z11 ?z12 ?z13 ?z14
    (case a0 => k_is)
    (case l0 => k_is)
    (case c0 => k_is)
    (case k0 => k_is)
    (case a1 => k_is)
    (case l1 => k_is)
    (case c1 => k_is)
    (case k1 => k_is)
    (case a2 => k_is)
    (case l2 => k_is)
    (case c2 => k_is)
    (case k2 => k_is)
    (case a3 => k_is)
    (case l3 => k_is)
    (case c3 => k_is)
    (case k3 => k_is)
    (case a4 => k_is)
    (case l4 => k_is)
    (case c4 => k_is)
    (case k4 => k_is)
    (case a5 => k_is)
    (case l5 => k_is)
    (case c5 => k_is)
    (case k5 => k_is)
    (case a6 => k_is)
    (case l6 => k_is)
    (case c6 => k_is)
    (case k6 => k_is)
    (case a7 => k_is)
    (case l7 => k_is)
    (case c7 => k_is)
    (case k7 => k_is)
    (case a8 => k_is)
    (case l8 => k_is)
    (case c8 => k_is)
    (case k8 => k_is)
    (case a9 => k_is)
    (case l9 => k_is)
    (case c9 => k_is)
    (case k9 => k_is)
    (case a10 => k_is)
    (case l10 => k_is)
    (case c10 => k_is)
    (case k10 => k_is)
    (case a11 => k_is)
    (case l11 => k_is)
    (case c11 => k_is)
    (case k11 => k_is)
    (case a12 => k_is)
    (case l12 => k_is)
    (case c12 => k_is)
    (case k12 => k_is)
    (case a13 => k_is)
    (case l13 => k_is)
    (case c13 => k_is)
    (case k13 => k_is)
    (case a14 => k_is)
    (case l14 => k_is)
    (case c14 => k_is)
    (case k14 => k_is)
    (case a15 => k_is)
    (case l15 => k_is)
    (case c15 => k_is)
    (case k15 => k_is)
    (case a16 => k_is)
    (case l16 => k_is)
    (case c16 => k_is)
    (case k16 => k_is)
    (case a17 => k_is)
    (case l17 => k_is)
    (case c17 => k_is)
    (case k17 => k_is)
    (case lcT17 => k_is)
    (case vP17 => first | rfl | decide +kernel)
    (case hdT17 => first | kernel_rfl | rfl)
    (case ouT17 => first | kernel_rfl | rfl)
    (case emT17 => exact PySem.W.km_tabs_of Y _ (by decide))
    (case a18 => k_is)
    (case l18 => k_is)
    (case c18 => k_is)
    (case k18 => k_is)
    (case a19 => k_is)
    (case l19 => k_is)
    (case c19 => k_is)
    (case k19 => k_is)
    (case a20 => k_is)
    (case l20 => k_is)
    (case c20 => k_is)
    (case k20 => k_is)
    (case a21 => k_is)
    (case l21 => k_is)
    (case c21 => k_is)
    (case k21 => k_is)
    (case a22 => k_is)
    (case l22 => k_is)
    (case c22 => k_is)
    (case k22 => k_is)
    (case a23 => k_is)
    (case l23 => k_is)
    (case c23 => k_is)
    (case k23 => k_is)
    (case a24 => k_is)
    (case l24 => k_is)
    (case c24 => k_is)
    (case k24 => k_is)
    (case a25 => k_is)
    (case l25 => k_is)
    (case c25 => k_is)
    (case k25 => k_is)
    (case a26 => k_is)
    (case l26 => k_is)
    (case c26 => k_is)
    (case k26 => k_is)
    (case a27 => k_is)
    (case l27 => k_is)
    (case c27 => k_is)
    (case k27 => k_is)
    (case a28 => k_is)
    (case l28 => k_is)
    (case c28 => k_is)
    (case k28 => k_is)
    (case a29 => k_is)
    (case l29 => k_is)
    (case c29 => k_is)
    (case k29 => k_is)
    (case a30 => k_is)
    (case l30 => k_is)
    (case c30 => k_is)
    (case k30 => k_is)
    (case a31 => k_is)
    (case l31 => k_is)
    (case c31 => k_is)
    (case k31 => k_is)
    (case aSh => k_is)
    (case qSh => first | k_is | rfl)
    (case z0 => k_is)
    (case z1 => k_is)
    (case z2 => k_is)
    (case z3 => k_is)
    (case z4 => k_is)
    (case z5 => k_is)
    (case z6 => k_is)
    (case z7 => k_is)
    (case z8 => k_is)
    (case z9 => k_is)
    (case z10 => k_is)
    (case z11 => k_is)
    (case z12 => k_is)
    (case z13 => k_is)
    (case z14 => k_is)
